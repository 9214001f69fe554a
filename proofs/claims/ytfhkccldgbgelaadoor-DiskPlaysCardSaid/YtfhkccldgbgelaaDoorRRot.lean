/-
  The reference's disk: Rot.
-/
import Derived.Test.YtfhkccldgbgelaaDoorRKeep
import Derived.Test.YtfhkccldgbgelaaDoorDRot
namespace Go.Proofs.YtfhkccldgbgelaaDoor
open Go.RowKit Go.Deep Dk Go.Maps
set_option maxRecDepth 100000 in
theorem bool_inv {v : Value} {ps : List MemPlace} {b : Bool} (h : boolR v = some (.lit (.bool b), ps)) : v = .bool b := by
  unfold boolR plainElem at h
  rw [Tryd.underlying4] at h
  cases v <;> simp at h
  rw [h.1]
set_option maxRecDepth 100000 in
theorem BadIn.look {w : World} {E n i : Nat} {D : DataW Unit} {f : Nat → Bool} (h : BadIn w E n D f) (hi : i < n) (hn : n ≤ 128) : (Instr.lookup 54 (.map (some E)) (.int .i64 (i : Int)) false).run Tryd.prog w = .ok (.bool (f i)) w := by
  have hz : (zeroValue 4).run Tryd.prog w = .ok (.bool false) w := Tryd.zeroValue4 w
  obtain ⟨v, ps, hrun, hv⟩ := h.own.lookup keyed Tryd.underlying54 hz (plainElem_bool Tryd.underlying4 false) (key_kI (i := i) (by omega))
  rw [h.at_ i hi] at hv
  rw [bool_inv hv] at hrun
  exact hrun
theorem rotD_both (s : St) (i a x : Nat) : rotD s i a x = both s i (rotL (s.st i) a x 4) true := rfl
set_option maxHeartbeats 1000000 in
set_option maxRecDepth 100000 in
theorem rrot_no {r A C E : Nat} {s : St} (w : World) (h : RefIn w r A C E s) (i a : Int) (x : Nat) (hno : ¬ mayRot s i a x) :
    Calls Tryd.prog 26 #[.pointer (some ⟨r, 0, none⟩), .int .i64 i, .int .i64 a, .int .u32 x] w (BitSame false w) := by
  obtain ⟨capA, _, c0, _, c2, c3⟩ := h.cells
  obtain ⟨D, hB⟩ := h.bad
  have HH := Lib.hid (rhas_any w h i)
  have hn := h.ok.n
  unfold mayRot at hno
  cases hd : s.dead with
  | true =>
    rw [hd] at c3
    clear h hno hB
    go_enter Tryd.func26, Tryd.ntmps26
    go_wp2
    go_ret
    exact bitSame rfl
  | false =>
    rw [hd] at c3
    by_cases hi : 0 ≤ i ∧ i < s.n
    · rw [decide_eq_true hi] at HH
      by_cases ha : a < 0
      · clear h hno hB
        go_enter Tryd.func26, Tryd.ntmps26
        go_wp2_with (go_at_call 43; refine HH.out.mono ?_; rintro e w' ⟨rfl, rfl⟩)
        go_ret
        exact bitSame rfl
      · by_cases ha2 : 124 < a
        · clear h hno hB
          go_enter Tryd.func26, Tryd.ntmps26
          go_wp2_with (go_at_call 43; refine HH.out.mono ?_; rintro e w' ⟨rfl, rfl⟩)
          go_ret
          exact bitSame rfl
        · by_cases hx : x = 0
          · have hx1 : ((x : Int) == 0) = true := by simp; omega
            clear h hno hx hB
            go_enter Tryd.func26, Tryd.ntmps26
            go_wp2_with (go_at_call 43; refine HH.out.mono ?_; rintro e w' ⟨rfl, rfl⟩)
            go_ret
            exact bitSame rfl
          · have hr : s.rot i.toNat = true := by
              cases e : s.rot i.toNat with
              | true => rfl
              | false => exact absurd ⟨hd, hi.1, hi.2, by omega, by omega, hx, e⟩ hno
            obtain ⟨j, rfl⟩ := Int.eq_ofNat_of_zero_le hi.1
            have hc := hB.look (i := j) (by omega) hn
            rw [show ((j : Int)).toNat = j from rfl] at hr
            rw [hr] at hc
            have hx1 : ((x : Int) == 0) = false := by simp; omega
            have hx2 : ¬ (x : Int) = 0 := by omega
            clear h hno hr hx hB
            go_enter Tryd.func26, Tryd.ntmps26
            go_wp2_with (go_at_call 43; refine HH.out.mono ?_; rintro e w' ⟨rfl, rfl⟩)
            go_ret
            exact bitSame rfl
    · rw [decide_eq_false hi] at HH
      clear h hno hi hB
      go_enter Tryd.func26, Tryd.ntmps26
      go_wp2_with (go_at_call 43; refine HH.out.mono ?_; rintro e w' ⟨rfl, rfl⟩)
      go_ret
      exact bitSame rfl
/-- The row is turned as far as k bytes. -/
def RelRR (r A C E : Nat) (s : St) (i a x : Nat) (w : World) (g cap : Nat) (c : Value) (wr : World) : Prop :=
  ∃ k : Nat, k ≤ 4 ∧ c = .int .i64 k ∧ RefIn wr r A C E s ∧ KB w wr ∧ wr.ownsRow w.heap.size 5 1 (.slice (some ⟨g, 0, none⟩) 128 cap) 128 (bytesV (rotL (s.st i) a x k))
set_option maxHeartbeats 4000000 in
set_option maxRecDepth 100000 in
theorem rrot_yes {r A C E : Nat} {s : St} (w : World) (h : RefIn w r A C E s) (i a x : Nat) (hok : mayRot s i a x) :
    Calls Tryd.prog 26 #[.pointer (some ⟨r, 0, none⟩), .int .i64 (i : Int), .int .i64 (a : Int), .int .u32 (x : Int)] w (RNext r A C E (rotD s i a x) (.bool true) w) := by
  obtain ⟨hd, _, hi, _, ha, hx0, hr⟩ := hok
  have hi : i < s.n := by omega
  have ha : a ≤ 124 := by omega
  rw [show ((i : Int)).toNat = i from rfl] at hr
  obtain ⟨capA, hcap, c0, _, c2, c3⟩ := h.cells
  obtain ⟨D, hB⟩ := h.bad
  have hn := h.ok.n
  have hc := hB.look (i := i) hi hn
  rw [hd] at c3
  rw [hr] at hc
  have HH := Lib.hid (rhas_any w h i)
  rw [decide_eq_true (by omega)] at HH
  obtain ⟨vr, cr, hrow⟩ := h.row hi
  have HR := Lib.hid hrow
  have H0 := Lib.hid h
  have hlt := h.lt
  have i1 : (i : Int) < s.n := by omega
  have hx1 : ((x : Int) == 0) = false := by simp; omega
  have hx2 : ¬ (x : Int) = 0 := by omega
  have hlen : (s.st i).length = 128 := h.ok.st i
  have HLN := Lib.hid hlen
  obtain ⟨ga, cpa, rfl, _⟩ := hrow.slb.len
  rw [hlen] at cr HR
  clear h hd hr hx0 hB hrow hlen
  go_enter Tryd.func26, Tryd.ntmps26
  go_wp2_with (first
    | (go_at_call 43; refine HH.out.mono ?_; rintro e w' ⟨rfl, rfl⟩)
    | (at_builtin; refine wpList_append_bytes (o := ⟨some 49, _, _, _, _, _⟩) _ rfl (.tmp 41) (.tmp 48) rfl w.heap.size _ _ _ rfl (own_new w w.heap.size #[] 5 1 0 (Nat.le_refl _) rfl (by decide)) w.heap.size _ (s.st i) rfl ?_ ?_ ?_ ?_; exact HR.out.slb.below (one_below _ _); (rw [HLN.out]; omega); simp; intro v2 w2 hown2 hg2; have HX := Lib.hid (wrote_row (w := w) HLN.out (KB.alloc (KB.refl w) _) hown2 hg2); have HO2 := Lib.hid (show w2.ownsRow w.heap.size 5 1 v2 128 (bytesV (rotL (s.st i) a x 0)) by rw [rotL_zero HLN.out]; have := hown2; rw [Nat.zero_add, List.nil_append, HLN.out] at this; exact this); clear hown2 hg2; obtain ⟨gv, cpv, hv2⟩ := HX.out.1.shape; subst hv2))
  clear hx1 hx2 c0 c2 c3 hc cr
  go_loopw [10] (fun c wr => RelRR r A C E s i a x w gv cpv c wr) (fun c _ => 4 - (RowKit.intOf c).toNat)
  case atStart => exact ⟨0, by omega, rfl, H0.out.below HX.out.2, HX.out.2, HO2.out⟩
  case round =>
    obtain ⟨k, hk, rfl, hD, hG, hO⟩ := hrel
    have HO := Lib.hid hO
    have HG := Lib.hid hG
    by_cases hlt : k < 4
    · have hc := own_cell hO (i := a + k) (bytesV_at (by rw [rotL_length]; omega))
      rw [rotL_at (by omega)] at hc
      have hf := own_frozen hO (a + k)
      have hgv := (own_lt hO).1
      have hst := own_set hO (a + k) (.int .u8 ((((s.st i).getD (a + k) 0).toNat ^^^ (x / 2 ^ (8 * k) % 256) : Nat) : Int))
      rw [rotL_set] at hst
      have HS := Lib.hid hst
      have HB2 := Lib.hid (fun u => Below.setCell (p := ⟨gv, a + k, none⟩) (Below.refl w.heap.size wr) hgv u)
      have HB3 := Lib.hid (fun u => below_drewN (Below.trans hG (HB2.out u)) 1)
      clear hD hG hO hst
      have hy := byte_lt (s.st i) (a + k)
      generalize ((s.st i).getD (a + k) 0).toNat = y at hc HS hy
      have hb := byte_turn y x k hy
      generalize y ^^^ (x / 2 ^ (8 * k) % 256) = z at hb HS
      clear hy
      go_wp2
      go_region
      go_wp2
      go_roundw
      case rel => exact ⟨k + 1, by omega, by go_num, H0.out.below (HB3.out _), HB3.out _, HS.out⟩
      case measure => simp [RowKit.intOf]; omega
    · obtain rfl : k = 4 := by omega
      have hW := ways hD.drew hi ((ByteRow.of_own hO (rotL_length _ _ _ _)).keep (w' := wr.drew) fun _ _ _ => rfl) true
      rw [← rotD_both] at hW
      obtain ⟨v0, born, w1, e1, hr1, ⟨u1, k1⟩, f1, ⟨w2, e2, hr2, ⟨u2, k2⟩, f2, hr3, F1⟩, hr4, ⟨w3, e3, hr5, F2⟩⟩ := hW.one
      obtain ⟨v0', born', w4, e4, hr6, hr7, ⟨w5, e5, hr8, F3⟩⟩ := hW.two
      obtain ⟨u0, k0⟩ := hW.cell
      have f0 := hW.frozen
      have e4' : (Instr.mapEntry 54 (.map (some E)) (.int .i64 (i : Int))).run Tryd.prog (wr.setCell ⟨A, i, none⟩ (.slice (some ⟨gv, 0, none⟩) 128 cpv)).drew = .ok (.tuple #[v0', .int .i64 ((born' : Nat) : Int)]) w4 := e4
      have k0' : wr.cell? ⟨A, i, none⟩ = some u0 := k0
      have f0' : wr.frozen? ⟨A, i, none⟩ = false := f0
      have HF1 := Lib.hid F1
      have HF2 := Lib.hid F2
      have HF3 := Lib.hid F3
      obtain ⟨capB, _, d0, _, d2, _⟩ := hD.cells
      have HMEM := Lib.hid (fun (w' : World) (hb : w'.heap[r]? = wr.heap[r]?) => show w'.cell? ⟨r, 0, none⟩ = some (.slice (some ⟨A, 0, none⟩) s.n capB) ∧ w'.cell? ⟨r, 2, none⟩ = some (.map (some E)) from
        ⟨(World.cell?_of_block (a := ⟨r, 0, none⟩) hb).trans d0, (World.cell?_of_block (a := ⟨r, 2, none⟩) hb).trans d2⟩)
      have hwb : Below w.heap.size w wr := hG
      have lt0 := H0.out.lt
      clear hW F1 F2 F3 hD hG hO
      go_wp2_with fail
      go_region_held3 (fun w' => w'.cell? ⟨r, 0, none⟩ = some (.slice (some ⟨A, 0, none⟩) s.n capB) ∧ w'.cell? ⟨r, 2, none⟩ = some (.map (some E))) ((refine HMEM.out _ ?_; first | rfl | assumption | exact hr6)) (fail)
      all_goals
        go_wp2
        go_ret
        first
          | exact ⟨rfl, HF1.out.1, (RChg.of_below hwb).trans (RChg.of_drew HF1.out.2)⟩
          | exact ⟨rfl, HF2.out.1, (RChg.of_below hwb).trans (RChg.of_drew HF2.out.2)⟩
          | exact ⟨rfl, HF3.out.1, (RChg.of_below hwb).trans (RChg.of_drew HF3.out.2)⟩
end Go.Proofs.YtfhkccldgbgelaaDoor
