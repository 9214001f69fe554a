/-
  stavelaw2.GramTells: the walk.
-/
import Derived.Test.YtfmelofeedgaiaaDoorGRefPut
import Derived.Deep.RegionHeld3
namespace Go.Proofs.YtfmelofeedgaiaaDoor
open Go.RowKit
def KW (W w' : World) : Prop := Below W.heap.size W w'
theorem KW.drew {W w' : World} (h : KW W w') : KW W w'.drew := Below.drew h
theorem keeps_bit {f : FuncId} {args : Array Value} {b : Bool} {W W' : World} (h : Calls Tryd.prog f args W' (Bit b W')) (hk : KW W W') : Calls Tryd.prog f args W' (fun e w'' => e = .returned (.bool b) ∧ KW W w'') :=
  h.mono fun _ _ ⟨h1, h2⟩ => ⟨h1, bthen hk h2⟩
def RelTe (fs : List Fl) (w1 : World) (c : Value) (wr : World) : Prop := ∃ k : Nat, k ≤ fs.length ∧ c = .int .i64 k ∧ Below w1.heap.size w1 wr
theorem putErr_kind {fs : List Fl} {xs : List Vl} {k a : Int} (h : putErr fs xs = some (k, a)) : k ≠ 0 := by
  unfold putErr at h
  split at h
  · injection h with h; injection h with h _; omega
  · split at h
    · injection h with h; injection h with h _; omega
    · split at h
      · injection h with h; injection h with h _; omega
      · cases h
set_option maxHeartbeats 4000000 in
set_option maxRecDepth 100000 in
theorem tells_any (fv xv : Value) (fs : List Fl) (xs : List Vl) (w : World) (hT : Typ w) (hf : SlF w.heap.size w fv fs) (hfl : fs.length ≤ 9223372036854775807) (hh : ∀ f ∈ fs, f.hi ≤ 9223372036854775807)
    (hx : SlV w.heap.size w xv xs) (hxl : xs.length ≤ 9223372036854775807) (hbig : ∀ x ∈ xs, x.big) :
    Calls Tryd.prog 3 #[fv, xv] w (Bit true w) := by
  have HT := Lib.hid hT
  have HH := Lib.hid (show ∀ f ∈ fs.take 6, f.hi ≤ 9223372036854775807 from fun f hf => hh f (List.mem_of_mem_take hf))
  have HFEW := Lib.hid (few_any fv xv fs xs w hf hx hfl hxl hbig)
  have HXF := Lib.hid (few_all xs)
  clear hT hf hh hfl hx hxl hbig
  have hl6 : (fs.take 6).length ≤ 6 := by rw [List.length_take]; omega
  have hx6 : ((xs.take 6).map fewV).length ≤ 6 := by rw [List.length_map, List.length_take]; omega
  generalize fs.take 6 = fa at *
  generalize (xs.take 6).map fewV = xa at *
  go_enter Tryd.func3, Tryd.ntmps3
  go_wp2_with fail
  refine HFEW.out.mono ?_
  rintro e w1 ⟨v1, u1, rfl, hown1, hvals1, hb1⟩
  have HF1 := Lib.hid (slf_own hown1)
  have HV1 := Lib.hid (slv_own hvals1)
  obtain ⟨a1, cap1, rfl⟩ := slf_len (slf_own hown1)
  obtain ⟨a2, cap2, rfl⟩ := slv_len (slv_own hvals1)
  have HB1 := Lib.hid hb1
  clear hown1 hvals1 hb1
  go_wp2_with fail
  go_loopw [25] (fun c wr => RelTe fa w1 c wr) (fun c _ => fa.length - (intOf c).toNat)
  case atStart => exact ⟨0, Nat.zero_le _, rfl, Below.refl _ _⟩
  case round =>
    obtain ⟨k, hk, rfl, hb⟩ := hrel
    have HB := Lib.hid hb
    by_cases hlt : k < fa.length
    · obtain ⟨b, o, cap', h1, hbl, hfa⟩ := HF1.out.fld (Nat.le_refl _) hb hlt
      injection h1 with h1 _ h1'
      subst h1 h1'
      have hhi := HH.out _ (getD_mem fa k f0 hlt)
      obtain ⟨e0, e1, e2, e3, e4⟩ := hfa
      generalize fa.getD k f0 = f at *
      obtain ⟨fk, fsz, flo, fhi, fmo⟩ := f
      simp only at e0 e1 e2 e3 e4 hhi
      have hltk : (k : Int) < fa.length := by omega
      clear hb
      go_wp2_with fail
      obtain ⟨W, hW⟩ : ∃ W, W = wr.alloc (.cells #[.int .i64 fk, .int .i64 fsz, .int .i64 flo, .int .i64 fhi, .int .i64 fmo] 27) := ⟨_, rfl⟩
      have hmem : ∀ w', KW W w' → KW W w' ∧ w'.cell? ⟨wr.heap.size, 0, none⟩ = some (.int .i64 fk) ∧ w'.cell? ⟨wr.heap.size, 1, none⟩ = some (.int .i64 fsz) ∧ w'.cell? ⟨wr.heap.size, 2, none⟩ = some (.int .i64 flo) ∧ w'.cell? ⟨wr.heap.size, 3, none⟩ = some (.int .i64 fhi) ∧ w'.cell? ⟨wr.heap.size, 4, none⟩ = some (.int .i64 fmo) := by
        intro w' hk
        have hlt : wr.heap.size < W.heap.size := by rw [hW]; simp
        have key : ∀ i v, W.cell? ⟨wr.heap.size, i, none⟩ = some v → w'.cell? ⟨wr.heap.size, i, none⟩ = some v := fun i v h => (Below.cell hk (p := ⟨wr.heap.size, i, none⟩) hlt).trans h
        exact ⟨hk, key 0 _ (by rw [hW]; simp), key 1 _ (by rw [hW]; simp), key 2 _ (by rw [hW]; simp), key 3 _ (by rw [hW]; simp), key 4 _ (by rw [hW]; simp)⟩
      have HMEM := Lib.hid hmem
      have C1 := Lib.hid (fun W' (hk : KW W W') => keeps_bit (right_any fk fsz flo fhi fmo W' hhi) hk)
      have C2 := Lib.hid (fun W' (hk : KW W W') => keeps_bit (refRight_any fk fsz flo fhi fmo W' hhi) hk)
      have HBW := Lib.hid (show Below wr.heap.size wr W by rw [hW]; exact one_below _ _)
      have hk0 : KW W W := Below.refl _ _
      have hS := HMEM.out W hk0
      obtain ⟨_, s0, s1, s2, s3, s4⟩ := hS
      rw [← hW]
      generalize rightF ⟨fk, fsz, flo, fhi, fmo⟩ = r at *
      clear hmem hW e0 e1 e2 e3 e4 hhi
      go_region_held3 (fun w' => KW W w' ∧ w'.cell? ⟨wr.heap.size, 0, none⟩ = some (.int .i64 fk) ∧ w'.cell? ⟨wr.heap.size, 1, none⟩ = some (.int .i64 fsz) ∧ w'.cell? ⟨wr.heap.size, 2, none⟩ = some (.int .i64 flo) ∧ w'.cell? ⟨wr.heap.size, 3, none⟩ = some (.int .i64 fhi) ∧ w'.cell? ⟨wr.heap.size, 4, none⟩ = some (.int .i64 fmo)) (exact HMEM.out _ (by repeat (first | assumption | refine KW.drew ?_))) (first | (go_at_call 10; (with_reducible refine (C1.out _ ?_).mono ?_); (repeat (first | assumption | refine KW.drew ?_)); rintro e w' ⟨rfl, hk⟩) | (go_at_call 11; (with_reducible refine (C2.out _ ?_).mono ?_); (repeat (first | assumption | refine KW.drew ?_)); rintro e w' ⟨rfl, hk⟩))
      all_goals
        go_wp2_with fail
        go_roundw
        case rel => exact ⟨k + 1, by omega, by go_num, bthen (bthen HB.out HBW.out) (show Below W.heap.size W _ from by repeat (first | assumption | refine KW.drew ?_))⟩
        case measure => simp [intOf]; omega
    · obtain rfl : k = fa.length := by omega
      have HF2 := Lib.hid ((HF1.out.below hb).wider hb.size)
      have HV2 := Lib.hid ((HV1.out.below hb).wider hb.size)
      have HB2 := Lib.hid (bthen HB1.out hb)
      clear hb
      cases hp : putErr fa xa with
      | some q =>
        obtain ⟨q1, q2⟩ := q
        have HP := Lib.hid hp
        have hq := putErr_kind hp
        have hq1 : (q1 != 0) = true := by simpa using hq
        have hq2 : (q1 == 0) = false := beq_ff hq
        clear hp
        go_wp2_with fail
        refine (put_few _ _ fa xa wr HF2.out HV2.out (by omega) HH.out HXF.out).mono ?_
        rw [HP.out]
        rintro e w3 ⟨rfl, hb3⟩
        have HB3 := Lib.hid (bthen HB2.out hb3)
        have HF3 := Lib.hid ((HF2.out.below hb3).wider hb3.size)
        have HV3 := Lib.hid ((HV2.out.below hb3).wider hb3.size)
        clear hb3
        unfold wrapV errV
        go_wp2_with fail
        refine (refPut_any _ _ fa xa w3 HF3.out HV3.out hl6 HH.out HXF.out).mono ?_
        rw [HP.out]
        rintro e w4 ⟨rfl, hb4⟩
        have HB4 := Lib.hid (bthen HB3.out hb4)
        clear hb4
        go_wp2_with fail
        refine (where_err [(gramPut, q2)] q1 w4 _ rfl (HT.out.below HB4.out)).mono ?_
        rintro e w5 ⟨rfl, hb5⟩
        have HB5 := Lib.hid (bthen HB4.out hb5)
        clear hb5
        simp only [show lastS [(gramPut, q2)] = gramPut from rfl, show lastN [(gramPut, q2)] = q2 from rfl, List.isEmpty_cons, Bool.not_false]
        go_wp2_with fail
        refine (same_bytes w5.heap.size _ _ [] [] w5 (Or.inl ⟨rfl, _, _, rfl⟩) (Or.inl ⟨rfl, _, _, rfl⟩) (Nat.le_refl _) (by simp)).mono ?_
        rw [decide_eq_true rfl]
        rintro e w6 ⟨rfl, hb6⟩
        have HB6 := Lib.hid (bthen HB5.out hb6)
        clear hb6
        go_wp2_with fail
        refine (kind_err [(gramPut, q2)] q1 w6 _ rfl (HT.out.below HB6.out)).mono ?_
        rintro e w7 ⟨rfl, hb7⟩
        have HB7 := Lib.hid (bthen HB6.out hb7)
        clear hb7
        unfold gramPut
        go_wp2_with fail
        refine (runs _ (HT.out.below HB7.out)).mono ?_
        rintro e w8 ⟨rfl, hb8⟩
        go_wp2_with fail
        go_ret
        exact ⟨rfl, bthen HB7.out hb8⟩
      | none =>
        have HP := Lib.hid hp
        have hrl := putB_few (putErr_none hp).1 HXF.out 6 hl6
        clear hp
        go_wp2_with fail
        refine (put_few _ _ fa xa wr HF2.out HV2.out (by omega) HH.out HXF.out).mono ?_
        rw [HP.out]
        rintro e w3 ⟨v3, rfl, hown3, hb3⟩
        have HO3 := Lib.hid hown3
        have HB3 := Lib.hid (bthen HB2.out hb3)
        have HF3 := Lib.hid ((HF2.out.below hb3).wider hb3.size)
        have HV3 := Lib.hid ((HV2.out.below hb3).wider hb3.size)
        clear hown3 hb3
        go_wp2_with fail
        refine (refPut_any _ _ fa xa w3 HF3.out HV3.out hl6 HH.out HXF.out).mono ?_
        rw [HP.out]
        rintro e w4 ⟨v4, rfl, hown4, hb4⟩
        have HO4 := Lib.hid hown4
        have HO34 := Lib.hid (own_below HO3.out hb4)
        have HB4 := Lib.hid (bthen HB3.out hb4)
        clear hown4 hb4
        go_wp2_with fail
        refine (where_nil w4).mono ?_
        rintro e w5 ⟨rfl, hb5⟩
        have HO5 := Lib.hid (own_below HO4.out hb5)
        have HO35 := Lib.hid (own_below HO34.out hb5)
        have HB5 := Lib.hid (bthen HB4.out hb5)
        clear hb5
        go_wp2_with fail
        refine (same_bytes w5.heap.size _ _ (putB fa xa) (putB fa xa) w5 (slb_own HO35.out) (slb_own HO5.out) (Nat.le_refl _) (by omega)).mono ?_
        rw [decide_eq_true rfl]
        rintro e w6 ⟨rfl, hb6⟩
        have HB6 := Lib.hid (bthen HB5.out hb6)
        clear hb6
        go_wp2_with fail
        refine (kind_nil w6).mono ?_
        rintro e w7 ⟨rfl, hb7⟩
        have HB7 := Lib.hid (bthen HB6.out hb7)
        clear hb7
        go_wp2_with fail
        refine (runs _ (HT.out.below HB7.out)).mono ?_
        rintro e w8 ⟨rfl, hb8⟩
        go_wp2_with fail
        go_ret
        exact ⟨rfl, bthen HB7.out hb8⟩
end Go.Proofs.YtfmelofeedgaiaaDoor
