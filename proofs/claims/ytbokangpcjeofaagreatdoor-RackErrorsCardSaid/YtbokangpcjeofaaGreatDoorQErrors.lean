/-
  stavelaw8.RackErrors: the walk.
-/
import Derived.Test.YtbokangpcjeofaaGreatDoorQRuns
import Derived.Test.YtbokangpcjeofaaGreatDoorQMore
import Derived.Test.YtbokangpcjeofaaGreatDoorWithinI
import Derived.Test.YtbokangpcjeofaaGreatDoorWhere
import Derived.Test.YtbokangpcjeofaaGreatDoorPath
import Derived.Test.YtbokangpcjeofaaGreatDoorTexts
namespace Go.Proofs.YtbokangpcjeofaaGreatDoor
open Go.RowKit Go.Deep Dk Qk Go.Maps Hf
def eQ (k : Nat) (s0 : St) (off : Bool) (rem : Int) : Rk := ⟨k, 3, upd (fun _ => new 3) 0 s0, off, rem⟩
theorem eQ_start (k : Nat) : (newRk k 3).arm 1 = eQ k (new 3) false 1 := by
  unfold eQ Rk.arm newRk
  have : (fun _ : Nat => new 3) = upd (fun _ => new 3) 0 (new 3) := by
    funext i; unfold upd; split <;> rfl
  rw [← this]
theorem eQ_0 (k : Nat) (s0 : St) (off : Bool) (rem : Int) : (eQ k s0 off rem).s 0 = s0 := by
  show upd (fun _ => new 3) 0 s0 0 = s0
  exact upd_same ..
theorem eQ_turn (k : Nat) (s0 t : St) (off : Bool) (rem : Int) : (eQ k s0 off rem).turn 0 t = eQ k t off rem := by
  unfold eQ Rk.turn
  have : upd (upd (fun _ => new 3) 0 s0) 0 t = upd (fun _ => new 3) 0 t := by
    funext i
    by_cases e : i = 0
    · subst e; rw [upd_same, upd_same]
    · rw [upd_other _ _ e, upd_other _ _ e, upd_other _ _ e]
  show Rk.mk _ _ (upd _ 0 t) _ _ = _
  rw [this]
theorem eQ_out {k : Nat} {s0 : St} {off : Bool} {rem i : Int} (h : ¬ (0 ≤ i ∧ i < k)) : (eQ k s0 off rem).ready i = 1 := if_neg h
theorem eQ_in {k : Nat} {s0 : St} {rem : Int} (h : 1 ≤ k) (hd : s0.dead = false) : (eQ k s0 false rem).ready 0 = 0 :=
  ready_ok (q := eQ k s0 false rem) (i := 0) (show 0 < k by omega) rfl (by rw [eQ_0]; exact hd)
theorem eQ_dead {k : Nat} {s0 : St} {rem : Int} (h : 1 ≤ k) (hd : s0.dead = true) : (eQ k s0 false rem).ready 0 = 5 := by
  unfold Rk.ready
  rw [if_pos (show (eQ k s0 false rem).has 0 from ⟨by decide, by show (0 : Int) < k; omega⟩), show ((eQ k s0 false rem).s (0 : Int).toNat).dead = true from hd]
  rfl
theorem eQ_dying {k : Nat} {s0 : St} {off : Bool} {rem : Int} (h : 1 ≤ k) (b : Bool) : Rk.dying (eQ k s0 off rem) 0 b = eQ k (s0.wipe b) off rem ∧ decide ((eQ k s0 off rem).has 0) = true := by
  have hh : (eQ k s0 off rem).has 0 := ⟨by decide, by show (0 : Int) < k; omega⟩
  refine ⟨?_, decide_eq_true hh⟩
  unfold Rk.dying Rk.wipe
  rw [if_pos hh]
  exact eQ_turn k s0 _ off rem
theorem wout {q : Rk} {i sec : Int} {l : List UInt8} {e : Int} (h : q.ready i = e) (he : e ≠ 0) : q.write i sec l = q ∧ q.wcode i sec l.length = e := by
  obtain ⟨e1, e2⟩ := write_wait (q := q) (i := i) (sec := sec) (l := l) (by rw [h]; exact he)
  exact ⟨e1, e2.trans h⟩
theorem eQ_read_out {k : Nat} {s0 : St} {rem i s : Int} (h : ¬ (0 ≤ i ∧ i < k)) : qrerr (eQ k s0 false rem) i s = wrapV opQRead i (errV 1) ∧ qval (eQ k s0 false rem) i s = [] :=
  ⟨if_neg h, if_neg (fun e => h e.1)⟩
theorem eQ_read_sec {k : Nat} {rem s : Int} (h : 1 ≤ k) (hs : 3 ≤ s) : qrerr (eQ k (new 3) false rem) 0 s = wrapV opQRead 0 (wrapV opRead s (errV 1)) ∧ qval (eQ k (new 3) false rem) 0 s = [] := by
  have hh : (eQ k (new 3) false rem).has 0 := ⟨by decide, by show (0 : Int) < k; omega⟩
  have hn : ¬ inN (new 3) s := fun e => by have := e.2; have : s < (3 : Nat) := this; omega
  have hc : rcode ((eQ k (new 3) false rem).s (0 : Int).toNat) s = 1 := by
    rw [show (eQ k (new 3) false rem).s (0 : Int).toNat = new 3 from eQ_0 _ _ _ _]
    unfold rcode
    rw [if_neg (show ¬ (new 3).dead = true by decide), if_neg hn]
  refine ⟨?_, ?_⟩
  · unfold qrerr
    rw [if_pos hh, if_neg (show ¬ (eQ k (new 3) false rem).off = true by show ¬ false = true; decide), hc, if_neg (by decide)]
  · unfold qval
    rw [if_pos ⟨hh, rfl⟩]
    unfold rval
    rw [show (eQ k (new 3) false rem).s (0 : Int).toNat = new 3 from eQ_0 _ _ _ _, if_neg (fun e => hn e.2)]
theorem texts_at {w : World} {g x : Nat} {s : Int} (h : Holds w g (ops [(opQRead, 0), (opRead, s)])) (hx : x < [opQRead, opRead].length) : w.cell? ⟨g, x, none⟩ = some (.string ([opQRead, opRead].getD x ByteArray.empty)) := by
  have hx' : x = 0 ∨ x = 1 := by simp at hx; omega
  rcases hx' with rfl | rfl
  · exact h 0 _ rfl
  · exact h 1 _ rfl
theorem texts_new (w : World) {x : Nat} (hx : x < [opQRead, opRead].length) : (w.alloc (.cells #[.string ⟨#[114, 97, 99, 107, 46, 82, 101, 97, 100]⟩, .string ⟨#[100, 105, 115, 107, 46, 82, 101, 97, 100]⟩] 9)).cell? ⟨w.heap.size, x, none⟩ = some (.string ([opQRead, opRead].getD x ByteArray.empty)) := by
  have hx' : x = 0 ∨ x = 1 := by simp at hx; omega
  rcases hx' with rfl | rfl
  · exact new_cells w _ _ 0 _ rfl
  · exact new_cells w _ _ 1 _ rfl
set_option maxRecDepth 100000 in
theorem path_same {w : World} {B cp : Nat} {gp : Option Addr} {s : Int} (h : w.ownsRow B 9 1 (.slice gp 2 cp) 2 (ops [(opQRead, 0), (opRead, s)])) :
    Calls Tryz.prog 42 #[.slice gp 2 cp, .slice (some ⟨w.heap.size, 0, none⟩) 2 2] (w.alloc (.cells #[.string ⟨#[114, 97, 99, 107, 46, 82, 101, 97, 100]⟩, .string ⟨#[100, 105, 115, 107, 46, 82, 101, 97, 100]⟩] 9))
      (Bit true (w.alloc (.cells #[.string ⟨#[114, 97, 99, 107, 46, 82, 101, 97, 100]⟩, .string ⟨#[100, 105, 115, 107, 46, 82, 101, 97, 100]⟩] 9))) := by
  obtain ⟨gq, cq, e1, _, e3, _, _, e4⟩ := own_some h (by decide)
  injection e1 with e1 _ e1'
  subst e1 e1'
  have h1 : Texts (w.alloc (.cells #[.string ⟨#[114, 97, 99, 107, 46, 82, 101, 97, 100]⟩, .string ⟨#[100, 105, 115, 107, 46, 82, 101, 97, 100]⟩] 9)) gq 0 [opQRead, opRead] := fun x hx => by
    rw [(one_below w _).cell (p := ⟨gq, 0 + x, none⟩) e3, Nat.zero_add]; exact texts_at e4 hx
  have h2 : Texts (w.alloc (.cells #[.string ⟨#[114, 97, 99, 107, 46, 82, 101, 97, 100]⟩, .string ⟨#[100, 105, 115, 107, 46, 82, 101, 97, 100]⟩] 9)) w.heap.size 0 [opQRead, opRead] := fun x hx => by
    rw [Nat.zero_add]; exact texts_new w hx
  have h3 : gq < (w.alloc (.cells #[.string ⟨#[114, 97, 99, 107, 46, 82, 101, 97, 100]⟩, .string ⟨#[100, 105, 115, 107, 46, 82, 101, 97, 100]⟩] 9)).heap.size := Nat.lt_of_lt_of_le e3 (by simp)
  have h4 : w.heap.size < (w.alloc (.cells #[.string ⟨#[114, 97, 99, 107, 46, 82, 101, 97, 100]⟩, .string ⟨#[100, 105, 115, 107, 46, 82, 101, 97, 100]⟩] 9)).heap.size := by simp
  exact same_yes [opQRead, opRead] gq 0 cp w.heap.size 0 2 _ (by decide) h1 h2 h3 h4
theorem sec_slice {x : Nat} {w w' : World} {v : Value} (h : NewRow (secL x) w v w') : ∃ g, v = .slice (some ⟨g, 0, none⟩) 128 128 ∧ g < w'.heap.size ∧ Holds w' g (bytesV (secL x)) := by
  obtain ⟨g, h1, _, h2, h3⟩ := h
  rw [secL_length] at h1
  exact ⟨g, h1, h2, h3⟩
/-- All of a sector but its first byte. -/
theorem sec_tail {x g : Nat} {w : World} (h : Holds w g (bytesV (secL x))) (hg : g < w.heap.size) : SlB w.heap.size w (.slice (some ⟨g, 1, none⟩) 127 127) ((secL x).drop 1) := by
  have hl := secL_length x
  refine Or.inr ⟨g, 1, 127, by rw [List.length_drop, hl], hg, fun k hk => ?_, by rw [List.length_drop, hl]; omega, by rw [List.length_drop, hl]; omega⟩
  rw [List.length_drop, hl] at hk
  rw [h (1 + k) _ (bytesV_at (by omega))]
  simp [List.getD, Nat.add_comm]
set_option maxHeartbeats 16000000 in
set_option maxRecDepth 100000 in
theorem errors_any (n i s : Int) (w : World) (hT : Typ w) : Calls Tryz.prog 5 #[.int .i64 n, .int .i64 i, .int .i64 s] w (Bit true w) := by
  have HT := Lib.hid hT
  clear hT
  go_enter Tryz.func5, Tryz.ntmps5
  go_wp2_with fail
  refine (within_int n 1 5 w (by omega) (by omega) (by omega)).mono ?_
  rintro e w' ⟨kk, ⟨hk1, hk2⟩, rfl, rfl⟩
  obtain ⟨k, rfl⟩ := Int.eq_ofNat_of_zero_le (show 0 ≤ kk by omega)
  have HK := Lib.hid (show 1 ≤ k ∧ k ≤ 5 by omega)
  have hk5 : k ≤ 5 := by omega
  have HN := Lib.hid (show Calls Tryz.prog 6 #[.int .i64 (k : Int), .int .i64 3] w (QNew w k 3) from qs_new k 3 w (by omega) (by omega) (by omega) (by omega))
  clear hk1 hk2
  go_wp2_with fail
  refine HN.out.mono ?_
  rintro e w1 ⟨c, rfl, h1⟩
  have H1 := Lib.hid h1
  clear h1
  go_wp2_with fail
  refine (within_int i 0 9 w1 (by omega) (by omega) (by omega)).mono ?_
  rintro e w' ⟨o1, ⟨ho1, ho2⟩, rfl, rfl⟩
  go_wp2_with fail
  refine (within_int s 0 9 w1 (by omega) (by omega) (by omega)).mono ?_
  rintro e w' ⟨o2, ⟨ho3, ho4⟩, rfl, rfl⟩
  have HO := Lib.hid (show ¬ (0 ≤ (k : Int) + o1 ∧ (k : Int) + o1 < k) by omega)
  have HS := Lib.hid (show 3 ≤ 3 + o2 by omega)
  have HS2 := Lib.hid (show ¬ (eQ k (new 3) false 1).fits (3 + o2) 128 from fun e => by have := e.2.1; have : 3 + o2 < (3 : Nat) := this; omega)
  have HC2 := Lib.hid (show Calls Tryz.prog 17 #[.pointer (some ⟨c.r, 0, none⟩), .int .i64 1] w1 (QN w c k (eQ k (new 3) false 1) (.tuple #[]) w1) from by have := H1.out.arm 1 (by omega) (by omega); rwa [eQ_start] at this)
  go_wp2_with fail
  refine HC2.out.mono ?_
  rintro e w2 ⟨rfl, h2, _⟩
  have H2 := Lib.hid h2
  clear h2
  go_wp2_with fail
  refine (sector_any 1 (by omega) w2).mono ?_
  rintro e w3 ⟨v3, rfl, hv3, hb3⟩
  have H3 := Lib.hid (H2.out.below hb3)
  have HC4 := Lib.hid (show Calls Tryz.prog 13 #[.pointer (some ⟨c.r, 0, none⟩), .int .i64 ((k : Int) + o1), .int .i64 0, v3] w3 (QN w c k (eQ k (new 3) false 1) (wrapV opQWrite ((k : Int) + o1) (errV 1)) w3) from by have := H3.out.write ((k : Int) + o1) 0 v3 (secL 1) hv3.slb; rwa [(wout (eQ_out HO.out) (by decide)).1, (wout (eQ_out HO.out) (by decide)).2, evs_some _ _ (by decide)] at this)
  go_wp2_with fail
  refine HC4.out.mono ?_
  rintro e w4 ⟨rfl, h4, _⟩
  have H4 := Lib.hid h4
  clear h4
  go_wp2_with fail
  refine (sector_any 1 (by omega) w4).mono ?_
  rintro e w5 ⟨v5, rfl, hv5, hb5⟩
  have H5 := Lib.hid (H4.out.below hb5)
  have HC6 := Lib.hid (show Calls Tryz.prog 13 #[.pointer (some ⟨c.r, 0, none⟩), .int .i64 0, .int .i64 (3 + o2), v5] w5 (QN w c k (eQ k (new 3) false 1) (wrapV opQWrite 0 (errV 1)) w5) from by have := H5.out.write 0 (3 + o2) v5 (secL 1) hv5.slb; rwa [(write_odd (l := secL 1) (eQ_in HK.out.1 rfl) (by rw [secL_length]; exact HS2.out)).1, (write_odd (l := secL 1) (eQ_in HK.out.1 rfl) (by rw [secL_length]; exact HS2.out)).2, evs_some _ _ (by decide)] at this)
  go_wp2_with fail
  refine HC6.out.mono ?_
  rintro e w6 ⟨rfl, h6, _⟩
  have H6 := Lib.hid h6
  clear h6
  go_wp2_with fail
  refine (sector_any 1 (by omega) w6).mono ?_
  rintro e w7 ⟨v7, rfl, hv7, hb7⟩
  have H7 := Lib.hid (H6.out.below hb7)
  obtain ⟨gb, rfl, hgl, hgh⟩ := sec_slice hv7
  have HC8 := Lib.hid (show Calls Tryz.prog 13 #[.pointer (some ⟨c.r, 0, none⟩), .int .i64 0, .int .i64 0, .slice (some ⟨gb, 1, none⟩) 127 127] w7 (QN w c k (eQ k (new 3) false 1) (wrapV opQWrite 0 (errV 1)) w7) from by have := H7.out.write 0 0 _ ((secL 1).drop 1) (sec_tail hgh hgl); rwa [(write_odd (l := (secL 1).drop 1) (eQ_in HK.out.1 rfl) (fun e => by have := e.2.2; rw [List.length_drop, secL_length] at this; omega)).1, (write_odd (l := (secL 1).drop 1) (eQ_in HK.out.1 rfl) (fun e => by have := e.2.2; rw [List.length_drop, secL_length] at this; omega)).2, evs_some _ _ (by decide)] at this)
  go_wp2_with fail
  refine HC8.out.mono ?_
  rintro e w8 ⟨rfl, h8, _⟩
  have H8 := Lib.hid h8
  clear h8
  have HC9 := Lib.hid (show Calls Tryz.prog 15 #[.pointer (some ⟨c.r, 0, none⟩), .int .i64 (-1)] w8 (QN w c k (eQ k (new 3) false 1) (wrapV opQFlush (-1) (errV 1)) w8) from by have := H8.out.flush (-1); have hr : (eQ k (new 3) false 1).ready (-1) = 1 := eQ_out (by omega); rwa [(flush_wait (by rw [hr]; decide)).1, (flush_wait (by rw [hr]; decide)).2, hr, evs_some _ _ (by decide)] at this)
  go_wp2_with fail
  refine HC9.out.mono ?_
  rintro e w9 ⟨rfl, h9, _⟩
  have H9 := Lib.hid h9
  clear h9
  go_wp2_with fail
  refine (show Calls Tryz.prog 31 #[.pointer (some ⟨c.r, 0, none⟩), .int .i64 ((k : Int) + o1), .int .i64 0] w9 (fun e w' => ∃ v, e = .returned (.tuple #[v, wrapV opQRead ((k : Int) + o1) (errV 1)]) ∧ SlB w'.heap.size w' v [] ∧ Below w9.heap.size w9 w') from by have := H9.out.read ((k : Int) + o1) 0; unfold ReadQ at this; rwa [(eQ_read_out HO.out).1, (eQ_read_out HO.out).2] at this).mono ?_
  rintro e w10 ⟨v10, rfl, _, hb10⟩
  have H10 := Lib.hid (H9.out.below hb10)
  clear hb10
  go_wp2_with fail
  refine (show Calls Tryz.prog 31 #[.pointer (some ⟨c.r, 0, none⟩), .int .i64 0, .int .i64 (3 + o2)] w10 (fun e w' => ∃ v, e = .returned (.tuple #[v, wrapV opQRead 0 (wrapV opRead (3 + o2) (errV 1))]) ∧ SlB w'.heap.size w' v [] ∧ Below w10.heap.size w10 w') from by have := H10.out.read 0 (3 + o2); unfold ReadQ at this; rwa [(eQ_read_sec HK.out.1 HS.out).1, (eQ_read_sec HK.out.1 HS.out).2] at this).mono ?_
  rintro e w11 ⟨v11, rfl, _, hb11⟩
  have H11 := Lib.hid (H10.out.below hb11)
  clear hb11
  have HC12 := Lib.hid (show Calls Tryz.prog 22 #[.pointer (some ⟨c.r, 0, none⟩), .int .i64 0] w11 (QN w c k (eQ k ((new 3).wipe true) false 1) (.bool true) w11) from by have := H11.out.die 0; rwa [(eQ_dying HK.out.1 true).1, (eQ_dying HK.out.1 true).2] at this)
  go_wp2_with fail
  refine HC12.out.mono ?_
  rintro e w12 ⟨rfl, h12, _⟩
  have H12 := Lib.hid h12
  clear h12
  go_wp2_with fail
  refine (sector_any 1 (by omega) w12).mono ?_
  rintro e w13 ⟨v13, rfl, hv13, hb13⟩
  have H13 := Lib.hid (H12.out.below hb13)
  have HC14 := Lib.hid (show Calls Tryz.prog 13 #[.pointer (some ⟨c.r, 0, none⟩), .int .i64 0, .int .i64 0, v13] w13 (QN w c k (eQ k ((new 3).wipe true) false 1) (wrapV opQWrite 0 (errV 5)) w13) from by have := H13.out.write 0 0 v13 (secL 1) hv13.slb; rwa [(wout (eQ_dead HK.out.1 rfl) (by decide)).1, (wout (eQ_dead HK.out.1 rfl) (by decide)).2, evs_some _ _ (by decide)] at this)
  go_wp2_with fail
  refine HC14.out.mono ?_
  rintro e w14 ⟨rfl, h14, _⟩
  have H14 := Lib.hid h14
  clear h14
  have HC15 := Lib.hid (show Calls Tryz.prog 24 #[.pointer (some ⟨c.r, 0, none⟩), .int .i64 0] w14 (QN w c k (eQ k (((new 3).wipe true).wipe false) false 1) (.bool true) w14) from by have := H14.out.replace 0; rwa [(eQ_dying HK.out.1 false).1, (eQ_dying HK.out.1 false).2] at this)
  go_wp2_with fail
  refine HC15.out.mono ?_
  rintro e w15 ⟨rfl, h15, _⟩
  have H15 := Lib.hid h15
  clear h15
  go_wp2_with fail
  refine (show Calls Tryz.prog 40 #[wrapV opQWrite ((k : Int) + o1) (errV 1)] w15 (Place ⟨#[114, 97, 99, 107, 46, 87, 114, 105, 116, 101]⟩ ((k : Int) + o1) true w15) from where_err [(opQWrite, (k : Int) + o1)] 1 w15 _ rfl (HT.out.below H15.out.base)).mono ?_
  rintro e w16 ⟨rfl, hb16⟩
  have H16 := Lib.hid (H15.out.below hb16)
  clear hb16
  go_wp2_with fail
  refine (path_err [(opQRead, 0), (opRead, 3 + o2)] 1 w16 (wrapV opQRead 0 (wrapV opRead (3 + o2) (errV 1))) rfl (HT.out.below H16.out.base) (by simp)).mono ?_
  rintro e w17 ⟨v17, rfl, ho17, hb17⟩
  have H17 := Lib.hid (H16.out.below hb17)
  obtain ⟨gp, cp, rfl, hgp⟩ := own_slice ho17
  have HP := Lib.hid ho17
  clear hb17 ho17
  have CK1 := Lib.hid (fun (W : World) (h : Typ W) => kind_err [(opQWrite, (k : Int) + o1)] 1 W _ rfl h)
  have CK2 := Lib.hid (fun (W : World) (h : Typ W) => kind_err [(opQWrite, 0)] 1 W _ rfl h)
  have CK3 := Lib.hid (fun (W : World) (h : Typ W) => kind_err [(opQFlush, -1)] 1 W _ rfl h)
  have CK4 := Lib.hid (fun (W : World) (h : Typ W) => kind_err [(opQRead, (k : Int) + o1)] 1 W _ rfl h)
  have CK5 := Lib.hid (fun (W : World) (h : Typ W) => kind_err [(opQWrite, 0)] 5 W _ rfl h)
  have CK6 := Lib.hid (fun (W : World) (h : Typ W) => kind_err [(opQRead, 0), (opRead, 3 + o2)] 1 W _ rfl h)
  go_wp2_with fail
  refine (CK1.out w17 (HT.out.below H17.out.base)).mono ?_
  rintro e w18 ⟨rfl, hb18⟩
  have H18 := Lib.hid (H17.out.below hb18)
  have HB18 := Lib.hid hb18
  clear hb18
  have HP := Lib.hid (own_below HP.out HB18.out)
  go_wp2_with fail
  refine (CK2.out w18 (HT.out.below H18.out.base)).mono ?_
  rintro e w19 ⟨rfl, hb19⟩
  have H19 := Lib.hid (H18.out.below hb19)
  have HB19 := Lib.hid hb19
  clear hb19
  have HP := Lib.hid (own_below HP.out HB19.out)
  go_wp2_with fail
  refine (CK2.out w19 (HT.out.below H19.out.base)).mono ?_
  rintro e w20 ⟨rfl, hb20⟩
  have H20 := Lib.hid (H19.out.below hb20)
  have HB20 := Lib.hid hb20
  clear hb20
  have HP := Lib.hid (own_below HP.out HB20.out)
  go_wp2_with fail
  refine (CK3.out w20 (HT.out.below H20.out.base)).mono ?_
  rintro e w21 ⟨rfl, hb21⟩
  have H21 := Lib.hid (H20.out.below hb21)
  have HB21 := Lib.hid hb21
  clear hb21
  have HP := Lib.hid (own_below HP.out HB21.out)
  go_wp2_with fail
  refine (CK4.out w21 (HT.out.below H21.out.base)).mono ?_
  rintro e w22 ⟨rfl, hb22⟩
  have H22 := Lib.hid (H21.out.below hb22)
  have HB22 := Lib.hid hb22
  clear hb22
  have HP := Lib.hid (own_below HP.out HB22.out)
  go_wp2_with fail
  refine (CK5.out w22 (HT.out.below H22.out.base)).mono ?_
  rintro e w23 ⟨rfl, hb23⟩
  have H23 := Lib.hid (H22.out.below hb23)
  have HB23 := Lib.hid hb23
  clear hb23
  have HP := Lib.hid (own_below HP.out HB23.out)
  go_wp2_with fail
  refine (CK6.out w23 (HT.out.below H23.out.base)).mono ?_
  rintro e w24 ⟨rfl, hb24⟩
  have H24 := Lib.hid (H23.out.below hb24)
  have HB24 := Lib.hid hb24
  clear hb24
  have HP := Lib.hid (own_below HP.out HB24.out)
  have HSM := Lib.hid (path_same HP.out)
  go_wp2_with fail
  refine HSM.out.mono ?_
  rintro e w30 ⟨rfl, hb30⟩
  have H30 := Lib.hid ((H24.out.below (one_below w24 _)).below hb30)
  clear hb30
  go_wp2_with fail
  refine (show Calls Tryz.prog 6 #[.int .i64 9, .int .i64 3] w30 (Err2 (.pointer none) opQNew 1 9 w30) from qnew_no 9 3 w30 (by omega)).mono ?_
  rintro e w' ⟨rfl, rfl⟩
  go_wp2_with fail
  refine (show Calls Tryz.prog 6 #[.int .i64 2, .int .i64 129] w30 (NewBad 2 129 w30) from qnew_bad 2 129 w30 (by omega) (by omega) (by omega)).mono ?_
  rintro e w31 ⟨rfl, hb31⟩
  have H31 := Lib.hid (H30.out.below hb31)
  clear hb31
  go_wp2_with fail
  refine (sector_any 1 (by omega) w31).mono ?_
  rintro e w32 ⟨v32, rfl, hv32, hb32⟩
  have H32 := Lib.hid (H31.out.below hb32)
  have HC33 := Lib.hid (show Calls Tryz.prog 13 #[.pointer (some ⟨c.r, 0, none⟩), .int .i64 0, .int .i64 0, v32] w32 (QN w c k (eQ k ((((new 3).wipe true).wipe false).write 0 (secL 1)) false 0) .nilIface w32) from by have := H32.out.write 0 0 v32 (secL 1) hv32.slb; obtain ⟨e1, e2⟩ := write_goes (q := eQ k (((new 3).wipe true).wipe false) false 1) (i := 0) (sec := 0) (l := secL 1) (eQ_in HK.out.1 rfl) ⟨by decide, (by show (0 : Int) < (3 : Nat); decide), secL_length 1⟩ (show ¬ (1 : Int) = 0 by decide); rw [e1, e2, evs_zero] at this; rwa [show (eQ k (((new 3).wipe true).wipe false) false 1).spent = eQ k (((new 3).wipe true).wipe false) false 0 from rfl, show (eQ k (((new 3).wipe true).wipe false) false 1).s (0 : Int).toNat = ((new 3).wipe true).wipe false from eQ_0 _ _ _ _, show (eQ k (((new 3).wipe true).wipe false) false 0).turn (0 : Int).toNat (((((new 3).wipe true).wipe false)).write (0 : Int).toNat (secL 1)) = eQ k (((((new 3).wipe true).wipe false)).write 0 (secL 1)) false 0 from eQ_turn _ _ _ _ _] at this)
  go_wp2_with fail
  refine HC33.out.mono ?_
  rintro e w33 ⟨rfl, h33, _⟩
  have H33 := Lib.hid h33
  clear h33
  have HC34 := Lib.hid (show Calls Tryz.prog 15 #[.pointer (some ⟨c.r, 0, none⟩), .int .i64 0] w33 (QN w c k (eQ k ((((new 3).wipe true).wipe false).write 0 (secL 1)) true 0) (wrapV opQFlush 0 (errV 5)) w33) from by have := H33.out.flush 0; obtain ⟨e1, e2⟩ := flush_last (q := eQ k ((((new 3).wipe true).wipe false).write 0 (secL 1)) false 0) (i := 0) (eQ_in HK.out.1 rfl) rfl; rw [e1, e2, evs_some _ _ (by decide)] at this; exact this)
  go_wp2_with fail
  refine HC34.out.mono ?_
  rintro e w34 ⟨rfl, h34, _⟩
  have H34 := Lib.hid h34
  clear h34
  go_wp2_with fail
  refine (kind_err [(opQFlush, 0)] 5 w34 _ rfl (HT.out.below H34.out.base)).mono ?_
  rintro e w35 ⟨rfl, hb35⟩
  have H35 := Lib.hid (H34.out.below hb35)
  clear hb35
  go_wp2_with fail
  refine (show Calls Tryz.prog 34 #[.pointer (some ⟨c.r, 0, none⟩)] w35 (BitSame true w35) from H35.out.off).mono ?_
  rintro e w' ⟨rfl, rfl⟩
  go_wp2_with fail
  refine (kind_err [(opQNew, 9)] 1 w35 _ rfl (HT.out.below H35.out.base)).mono ?_
  rintro e w36 ⟨rfl, hb36⟩
  have H36 := Lib.hid (H35.out.below hb36)
  clear hb36
  go_wp2_with fail
  refine (kind_err [(opQNew, ((2 : Nat) : Int)), (opNew, 129)] 1 w36 _ rfl (HT.out.below H36.out.base)).mono ?_
  rintro e w37 ⟨rfl, hb37⟩
  have H37 := Lib.hid (H36.out.below hb37)
  clear hb37
  go_wp2_with fail
  refine (rack_runs w37 (HT.out.below H37.out.base)).mono ?_
  rintro e w38 ⟨rfl, hb38⟩
  have H38 := Lib.hid (H37.out.below hb38)
  clear hb38
  go_wp2_with fail
  go_ret
  exact bit rfl H38.out.base
end Go.Proofs.YtbokangpcjeofaaGreatDoor
