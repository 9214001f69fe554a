/-
  Frames that are no superblock, though they stand where one does; what Read answers is new memory.
-/
import Derived.Test.YtfhnkjlegehaoaaGreatDoorSRuns
namespace Go.Proofs.YtfhnkjlegehaoaaGreatDoor
open Go.RowKit Go.Deep Crc Dk Qk Go.Maps Hf
theorem has_frame {q : Rk} {G : Fr} {k : Nat} (hq : q.Ok) (hk : k < q.n) (ho : q.off = false) (hd : (q.s k).dead = false) (hv : (q.s k).read 0 = put G) (hi : G.is) (hr : rightB G = true) (h1 : G.k = 1) (h2 : G.s = k) (h3 : G.t = 0) :
    qgot q k 0 1 k 0 = G ∧ qfound q k 0 1 k 0 = true ∧ cfHas q k = supGood G k := by
  have hh : q.has (k : Int) := ⟨by omega, by omega⟩
  have hn : inN (q.s k) 0 := ⟨by omega, by have := hq.k k hk; have := hq.k0; omega⟩
  have e1 : qval q (k : Int) 0 = put G := by
    unfold qval
    rw [if_pos ⟨hh, ho⟩]
    unfold rval
    rw [Int.toNat_natCast, if_pos ⟨hd, hn⟩]
    exact hv
  have e2 : qrcode q (k : Int) 0 = 0 := by
    unfold qrcode
    rw [if_pos hh, ho, if_neg (show ¬ false = true by decide)]
    unfold rcode
    rw [Int.toNat_natCast, hd, if_neg (show ¬ false = true by decide), if_pos hn]
  obtain ⟨g1, g2⟩ := got_put hi hr
  have ha : asked G 1 k 0 = true := by
    unfold asked
    rw [h1, h2, h3]; simp
  have hf : qfound q k 0 1 k 0 = true := by
    unfold qfound
    rw [e1, e2, g1, g2, ha]; rfl
  have hg : qgot q k 0 1 k 0 = G := by
    unfold qgot
    rw [if_pos hf, e1, g2]
  refine ⟨hg, hf, ?_⟩
  unfold cfHas
  rw [hf, hg, Bool.true_and]
/-- A superblock with a byte behind its own that isn't 0. -/
def oddF (c : Cf) (i : Int) (x : Nat) : Fr := ⟨1, i, 0, 1, (supD c).set (8 + x) 1⟩
/-- A superblock of another generation. -/
def oldF (c : Cf) (i : Int) : Fr := ⟨1, i, 0, 2, supD c⟩
theorem oddF_is (c : Cf) (i : Int) (x : Nat) : (oddF c i x).is := by show ((supD c).set (8 + x) 1).length = 108; rw [List.length_set, supD_length]
theorem oldF_is (c : Cf) (i : Int) : (oldF c i).is := supD_length c
theorem oddF_right {c : Cf} {i : Int} (x : Nat) (h0 : 0 ≤ i) (h1 : i < 8) : rightB (oddF c i x) = true :=
  decide_eq_true (show (1 : Int) ≤ 1 ∧ (1 : Int) ≤ 3 ∧ 0 ≤ i ∧ i < 8 ∧ (0 : Int) ≤ 0 ∧ (0 : Int) < 64 ∧ (0 : Int) ≤ 1 ∧ (1 : Int) ≤ 1152921504606846976 from ⟨by decide, by decide, h0, h1, by decide, by decide, by decide, by decide⟩)
theorem oldF_right {c : Cf} {i : Int} (h0 : 0 ≤ i) (h1 : i < 8) : rightB (oldF c i) = true :=
  decide_eq_true (show (1 : Int) ≤ 1 ∧ (1 : Int) ≤ 3 ∧ 0 ≤ i ∧ i < 8 ∧ (0 : Int) ≤ 0 ∧ (0 : Int) < 64 ∧ (0 : Int) ≤ 2 ∧ (2 : Int) ≤ 1152921504606846976 from ⟨by decide, by decide, h0, h1, by decide, by decide, by decide, by decide⟩)
theorem getD_set_ne (l : List UInt8) (i j : Nat) (x : UInt8) (h : i ≠ j) : (l.set i x).getD j 0 = l.getD j 0 := by
  simp [List.getD, h]
theorem odd_read {c : Cf} (h : CfRight c) (i : Int) (x : Nat) : readC (oddF c i x).d = c := by
  refine Eq.trans ?_ (read_sup h)
  show readC ((supD c).set (8 + x) 1) = readC (supD c)
  unfold readC
  have ht : ((supD c).set (8 + x) 1).take 4 = (supD c).take 4 := by
    rw [List.take_set, List.set_eq_of_length_le (by rw [List.length_take, supD_length]; omega)]
  rw [ht, getD_set_ne _ _ 4 _ (by omega), getD_set_ne _ _ 5 _ (by omega), getD_set_ne _ _ 6 _ (by omega), getD_set_ne _ _ 7 _ (by omega)]
theorem sup_tail (c : Cf) {x : Nat} (h : x < 100) : (supD c).getD (8 + x) 0 = 0 := by
  have e : ∀ (a b : List UInt8) (n : Nat), a.length = n → (a ++ b).getD (n + x) 0 = b.getD x 0 := fun a b n hn => by
    rw [List.getD_eq_getElem?_getD, List.getElem?_append_right (by omega), ← hn, Nat.add_sub_cancel_left, ← List.getD_eq_getElem?_getD]
  unfold supD
  rw [← List.append_assoc, e _ _ 8 (by simp [le_length]), List.getD_eq_getElem?_getD, List.getElem?_replicate]
  split <;> rfl
theorem odd_none {c : Cf} (h : CfRight c) (i : Int) {x : Nat} (hx : x < 100) : supGood (oddF c i x) i = false := by
  unfold supGood
  rw [odd_read h, show cfRightB c = true from decide_eq_true h, Bool.true_and, ← Bool.not_eq_true, frEq_iff]
  intro e
  have h1 := congrArg (fun f : Fr => f.d.getD (8 + x) 0) e
  have h2 : ((supD c).set (8 + x) 1).getD (8 + x) 0 = (1 : UInt8) := by
    rw [List.getD_eq_getElem?_getD, List.getElem?_set_self (by rw [supD_length]; omega)]
    rfl
  have h3 : ((supD c).set (8 + x) 1).getD (8 + x) 0 = (supD c).getD (8 + x) 0 := h1
  rw [h2, sup_tail c hx] at h3
  exact absurd h3 (by decide)
theorem old_none {c : Cf} (h : CfRight c) (i : Int) : supGood (oldF c i) i = false := by
  unfold supGood
  rw [show readC (oldF c i).d = c from read_sup h, show cfRightB c = true from decide_eq_true h, Bool.true_and, ← Bool.not_eq_true, frEq_iff]
  intro e
  have h1 := congrArg Fr.g e
  exact absurd (show (2 : Int) = 1 from h1) (by decide)
/-- A frame written where a superblock stands. -/
theorem write_well {q : Rk} {k : Nat} {l : List UInt8} (hq : q.Ok) (ho : q.off = false) (hr : q.rem = -1) (hk : k < q.n) (hd : (q.s k).dead = false) (hl : l.length = 128) :
    q.wcode k 0 l.length = 0 ∧ q.write k 0 l = q.turn k ((q.s k).write 0 l) ∧ ((q.turn k ((q.s k).write 0 l)).s k).read 0 = l := by
  obtain ⟨e1, e2⟩ := write_goes (q := q) (i := (k : Int)) (sec := 0) (l := l) (ready_ok hk ho hd) ⟨by decide, by have := hq.k0; omega, hl⟩ (by omega)
  rw [spent_free hr, Int.toNat_natCast] at e1
  refine ⟨e2, e1, ?_⟩
  rw [turn_at]
  show ((upd (q.s k).wt 0 (some l)) 0).getD _ = l
  rw [upd_same]; rfl
/-! ### what Read answers is new -/
set_option maxHeartbeats 2000000 in
set_option maxRecDepth 100000 in
theorem qread_new {lo : Nat} {c : Lc} {q : Rk} (w : World) (h : RackIn lo w c q) (k s : Nat) (hk : k < q.n) (ho : q.off = false) (hd : (q.s k).dead = false) (hs : s < q.k) :
    Calls Tryz.prog 35 #[.pointer (some ⟨c.r, 0, none⟩), .int .i64 (k : Int), .int .i64 (s : Int)] w (Reads ((q.s k).read s) w) := by
  have HH := Lib.hid (qhas_any w h k)
  rw [decide_eq_true (show q.has (k : Int) from ⟨by omega, by omega⟩)] at HH
  have c1 := h.c1
  rw [ho] at c1
  have c0 := h.c0
  have ca := h.at_ hk
  have HP := Lib.hid (read_yes w (h.disk k hk) hd s (by rw [h.ok.k k hk]; exact hs))
  have i1 : (k : Int) < q.n := by omega
  have i2 : (0 : Int) ≤ k := by omega
  clear h ho hd hs
  go_enter Tryz.func35, Tryz.ntmps35
  go_wp2_with (first
    | (go_at_call 43; refine HH.out.mono ?_; rintro e w' ⟨rfl, rfl⟩)
    | (go_at_call 71; refine HP.out.mono ?_; rintro e w1 ⟨v, rfl, hv, hb⟩)
    | (go_at_call 38; refine (wrap_nil _ _ _).mono ?_; rintro e w' ⟨rfl, rfl⟩))
  exact bodyPost_ret (v := .tuple #[v, .nilIface]) (by simp [results, Tryz.results35, go_sem]) rfl ⟨v, rfl, hv, hb⟩
theorem NewRow.rowN {l : List UInt8} {w w' : World} {v : Value} (h : NewRow l w v w') : RowN w.heap.size w' v l := by
  have h1 := h.slb
  obtain ⟨g, rfl, h2, h3, h4⟩ := h
  refine ⟨h1, fun b o n cap e => ?_⟩
  injection e with e _ _
  injection e with e
  injection e with e _ _
  omega
end Go.Proofs.YtfhnkjlegehaoaaGreatDoor
