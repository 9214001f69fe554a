/-
  The law stavelaw6.DiskPlays (any size, any calls: each answer, all sectors, what waits, beside the document's own disk) returns true for all numbers and calls, and leaves all memory that was there as it was.
  Conditions: none but the row's own; the one package-level variable that it reads, errors.errorType, is tied to the program's text by the card. The card speaks of the pruned copy of the project that the seat names.
-/
import Derived.Test.YtfhkccldgbgelaaDoorBase
import Derived.Test.YtfhkccldgbgelaaDoorLaw
import Derived.Test.YtfhkccldgbgelaaDoorDPlays
namespace Go.Proofs.YtfhkccldgbgelaaDoor
open Go.RowKit Go.Deep Dk Go.Maps in
def RelP0 (w0 : World) (c : Value) (wr : World) : Prop := c = .int .i64 0 ∧ Below w0.heap.size w0 wr
open Go.RowKit Go.Deep Dk Go.Maps in
set_option maxHeartbeats 16000000 in
set_option maxRecDepth 100000 in
theorem plays_no (sectors : Int) (hs : sectors < 1) (v0 : Value) (l : List Ak) (w : World) (hT : Typ w) (hA : SlA w.heap.size w v0 l) (hok : ∀ q ∈ l, q.Ok) :
    Calls Tryd.prog 4 #[.int .i64 sectors, v0] w (Bit true w) := by
  have HT := Lib.hid hT
  have HOK := Lib.hid (fun k (hk : k < l.length) => asks_ok hok hk)
  obtain ⟨a, cap, rfl⟩ := hA.len
  have HA := Lib.hid hA
  clear hT hA hok
  go_enter Tryd.func4, Tryd.ntmps4
  go_upto_if 29 with (fail)
  go_cut [5] (fun c wx => ∃ n : Int, n ≤ 12 ∧ n < 1 ∧ c = .int .i64 n ∧ wx = w)
  case first =>
    go_wp2_with fail
    go_meet
    exact ⟨sectors, by omega, by omega, rfl, rfl⟩
  case rest =>
    obtain ⟨n, hn12, hn, rfl, hwc⟩ := hcut
    obtain rfl : w = wc := hwc.symm
    have HN := Lib.hid (new_no n w (by omega))
    unfold Err2 at HN
    have HR := Lib.hid (rnew_no n w hn)
    go_wp2_with fail
    refine HN.out.mono ?_
    rintro e w' ⟨rfl, rfl⟩
    go_wp2_with fail
    refine HR.out.mono ?_
    rintro e w' ⟨rfl, rfl⟩
    have HK := Lib.hid (show Calls Tryd.prog 18 #[wrapV opNew n (errV 1)] w (Num 1 w) from kind_err [(opNew, n)] 1 w _ rfl HT.out)
    unfold wrapV errV at HK
    go_wp2_with fail
    refine HK.out.mono ?_
    rintro e x1 ⟨rfl, hb1⟩
    have HB1 := Lib.hid hb1
    clear hb1
    go_wp2_with fail
    go_loopw [10] (fun c wr => RelP0 w c wr) (fun _ _ => 0)
    case atStart => exact ⟨rfl, HB1.out⟩
    case round =>
      obtain ⟨rfl, hb⟩ := hrel
      have HB := Lib.hid hb
      have HD := Lib.hid (disk_runs wr (HT.out.below hb))
      clear hb
      by_cases h0 : (0 : Int) < l.length
      · have h0' : 0 < l.length := by omega
        go_wp2_with fail
        refine HD.out.mono ?_
        rintro e x2 ⟨rfl, hb2⟩
        have HB2 := Lib.hid (HB.out.trans (hb2.mono HB.out.size))
        clear hb2
        go_wp2_with fail
        go_ret
        exact ⟨rfl, HB2.out⟩
      · have h0' : ¬ 0 < l.length := by omega
        go_wp2_with fail
        refine HD.out.mono ?_
        rintro e x2 ⟨rfl, hb2⟩
        have HB2 := Lib.hid (HB.out.trans (hb2.mono HB.out.size))
        clear hb2
        go_wp2_with fail
        go_ret
        exact ⟨rfl, HB2.out⟩
end Go.Proofs.YtfhkccldgbgelaaDoor
namespace Go.Proofs.YtfhkccldgbgelaaDoor.diskPlays
open Go.ChangeShapes Go.WideShapes Go.ChangeAt Go.RowKit

set_option maxRecDepth 100000 in
theorem contract (H : Type) (enc : TypeId × Value → H) (W : World) (base : Nat) (args : Array Value) (ds gs : List (DataW H)) (before : List MemPlace)
    (hval : ∀ (j : Nat) t v, Tryd.f4.params[j]? = some t → args[j]? = some v → Value.okWide Tryd.prog W .any base t v)
    (hW : DataW.Whole enc Tryd.prog Tryd.f4.params.toList Rows.diskPlaysSpec.vars false W args.toList ds gs before) (hL : laidMetH Tryd.prog Rows.diskPlaysRow.laid W) :
    Calls Tryd.prog 4 args W fun e W' => ∃ v, e = .returned v ∧ Rows.diskPlaysSpec.post enc Tryd.prog Tryd.f4 false true false false W args v W' := by
  have hW' := hW
  obtain ⟨p, q, hA0, hV, rfl, hfz, hnd⟩ := hW
  have hA : DataW.TrodAll enc Tryd.prog W 0 (fun _ => true) true Tryd.f4.params.toList args.toList ds p := hA0
  rw [Tryd.params4] at hA hval
  obtain ⟨v0, vs0, d0, ds0, p0, q0, hargs, rfl, rfl, h0, r0⟩ := trodAll_cons hA
  obtain ⟨v1, vs1, d1, ds1, p1, q1, rfl, rfl, rfl, h1, r1⟩ := trodAll_cons r0
  obtain ⟨rfl, rfl, rfl⟩ := trodAll_nil r1
  obtain rfl : args = #[v0, v1] := Array.ext' hargs
  obtain ⟨sectors, rfl, rfl, rfl, _⟩ := open_int Tryd.underlying3 (hval 0 3 v0 (by simp) (by simp)) h0
  have hv1 := (hval 1 40 v1 (by simp) (by simp))
  obtain ⟨l, hsl, _, hol⟩ := open_asks hv1 h1
  obtain ⟨rfl, rfl⟩ := trodVars_none hV
  clear hA0
  have hw : Calls Tryd.prog 4 #[.int .i64 sectors, v1] W (Bit true W) := (if hs : sectors < 1 then plays_no sectors hs v1 l W (handle_of_laid hL) hsl hol else plays_yes sectors (by omega) v1 l W (handle_of_laid hL) hsl hol)
  refine hw.mono fun e W' ⟨he, hg⟩ => ?_
  subst he
  exact ⟨_, rfl, law_post Tryd.laidOut (by kernel_rfl) (by kernel_rfl) (by kernel_rfl) Tryd.underlying4 hW' hg rfl rfl rfl⟩

theorem reads (os : Os) {H : Type} (enc : TypeId × Value → H) : ∃ places, DataW.whole enc Tryd.prog ((laidWorld os).forCall (fun _ _ => 0) ⟨#[], #[.int .i64 0, .slice none 0 0], []⟩).memory Tryd.f4.params.toList Rows.diskPlaysSpec.vars false (#[.int .i64 0, .slice none 0 0] : Array Value).toList 8 = some ([.lit (.int .i64 0), .nil], [], places) :=
  ⟨[], by kernel_rfl⟩

set_option maxRecDepth 100000 in
theorem lifted (os : Os) (started : os.Started) (H : Type) (enc : TypeId × Value → H) (F : Stop.Interp) :
    ReturnsInHanded {} Tryd.checked os 4 .any ((OpenSpec.ofChange Rows.diskPlaysSpec).preRow enc Tryd.prog Tryd.f4 Rows.diskPlaysRow.domain false Rows.diskPlaysRow.laid) (((OpenSpec.ofChange Rows.diskPlaysSpec).at F).post enc Tryd.prog Tryd.f4 false true false false) := by
  obtain ⟨places, hx⟩ := reads os enc
  refine returnsInHanded_of_row (C := Tryd.checked) (s := OpenSpec.ofChange Rows.diskPlaysSpec) Tryd.own started (by kernel_rfl) Tryd.func4
    (witness_row_at (enc := enc) (C := Tryd.checked) false (laidWorld os) #[.int .i64 0, .slice none 0 0] rfl (by kernel_rfl) (by kernel_rfl) (by kernel_rfl)
      (OpenSpec.preRow_of_cond 8 hx (by kernel_rfl) (fun k hk => by cases hk) (by kernel_rfl) (laidWorld_met os _))) ?_
  intro W base args ds gs before hval hW _ _ _ hL _ _
  exact contract H enc W base args ds gs before hval hW hL

theorem said : Rows.DiskPlaysSaid :=
  OpenClaim.holds_of_cond 4 Tryd.f4 rfl rfl rfl rfl rfl rfl rfl ⟨rfl, rfl, rfl, rfl, rfl⟩ rfl rfl rfl rfl rfl (by kernel_rfl) Tryd.func4 (by kernel_rfl)
    (of_decide_eq_true (by kernel_rfl)) (by unfold Func.isWrapper; first | (rw [if_pos (by decide +kernel)]; kernel_rfl) | (rw [if_neg (by decide +kernel)]; exact ⟨rfl, rfl⟩))
    (fun os started H enc _ F => by rw [OpenClaim.pre_eq_preRow]; exact lifted os started H enc F)

theorem plain (f : FuncId) (fn : Func) (hf : Tryd.pinned.checked.prog.funcNamed "stave/stavelaw6.DiskPlays" = some f) (hfn : Tryd.pinned.checked.prog.funcs[f]? = some fn) :
    true = Tryd.pinned.checked.prog.looks [] ∧ ∀ (j : Nat) t, fn.params[j]? = some t → Tryd.pinned.checked.prog.wantsStandIn t = false := by
  obtain rfl : f = 4 := Option.some.inj ((show Tryd.prog.funcNamed "stave/stavelaw6.DiskPlays" = some 4 by kernel_rfl).symm.trans hf) |>.symm
  obtain rfl : fn = Tryd.f4 := (Option.some.inj (Tryd.func4.symm.trans hfn)).symm
  have hall : (Tryd.f4.params.toList.all fun t => !Tryd.prog.wantsStandIn t) = true := by kernel_rfl
  refine ⟨by kernel_rfl, fun j t ht => ?_⟩
  have := List.all_eq_true.1 hall t (by simpa using Array.mem_of_getElem? ht)
  have h2 : Tryd.prog.wantsStandIn t = false := by simpa using this
  exact h2

end Go.Proofs.YtfhkccldgbgelaaDoor.diskPlays
namespace Go.Proofs.YtfhkccldgbgelaaDoor
theorem DiskPlays_card : Rows.DiskPlaysCardSaid :=
  Claim7.holds_tied_plain_at .later [] _ _ _ _ diskPlays.said (fun _ h => by cases h) (by kernel_rfl) (fun _ h => by cases h) diskPlays_row_tie rfl ⟨rfl, rfl⟩ (by kernel_rfl) rfl diskPlays.plain (by kernel_rfl)
#print axioms DiskPlays_card
end Go.Proofs.YtfhkccldgbgelaaDoor
