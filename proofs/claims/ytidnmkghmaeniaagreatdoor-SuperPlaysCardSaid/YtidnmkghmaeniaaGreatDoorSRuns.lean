/-
  stavelaw9.SuperRuns: the chapter's runs. What Find says of disks that have a superblock, or none.
-/
import Derived.Test.YtidnmkghmaeniaaGreatDoorSFind
import Derived.Test.YtidnmkghmaeniaaGreatDoorJBase
import Derived.Test.YtidnmkghmaeniaaGreatDoorQS
namespace Go.Proofs.YtidnmkghmaeniaaGreatDoor
open Go.RowKit Go.Deep Crc Dk Qk Go.Maps Hf
/-- A disk has its superblock, or it has none. -/
def SupAt (q : Rk) (c : Cf) (j : Nat) (b : Bool) : Prop :=
  if b = true then (q.s j).dead = false ∧ (q.s j).read 0 = put (supF c j) else (q.s j).dead = true ∨ goodB ((q.s j).read 0) = false
theorem SupAt.has {q : Rk} {c : Cf} {j : Nat} {b : Bool} (h : SupAt q c j b) (hq : q.Ok) (ho : q.off = false) (hc : CfRight c) (hj : j < q.n) : cfHas q j = b ∧ (b = true → cfOf q j = c) := by
  unfold SupAt at h
  cases b with
  | true =>
    rw [if_pos rfl] at h
    obtain ⟨h1, h2⟩ := has_sup hq hj ho h.1 h.2 hc
    exact ⟨h1, fun _ => h2⟩
  | false =>
    rw [if_neg (by decide)] at h
    refine ⟨no_sup ?_, fun e => by cases e⟩
    rcases h with h | h
    · exact Or.inr (Or.inr (Or.inl h))
    · exact Or.inr (Or.inr (Or.inr h))
theorem find_well {q : Rk} {c : Cf} {p : Nat → Bool} (hq : q.Ok) (ho : q.off = false) (hf : c.fits q = true) (h : ∀ j, j < q.n → SupAt q c j (p j)) :
    fnd q q.n = (if cntN p q.n = 0 then (zeroC, 0) else (c, cntN p q.n)) ∧ fndOk q = decide (c.k ≤ (cntN p q.n : Int)) ∧ fndC q = if c.k ≤ (cntN p q.n : Int) then c else zeroC := by
  have hc := (fits_right hf).1
  have e1 : cntN (fun j => cfHas q j) q.n = cntN p q.n := cntN_congr fun j hj => ((h j hj).has hq ho hc hj).1
  have e2 := fnd_all (q := q) (c := c) (m := q.n) fun j hj hh => ((h j hj).has hq ho hc hj).2 (by rw [← ((h j hj).has hq ho hc hj).1]; exact hh)
  rw [e1] at e2
  have e3 : fndOk q = decide (c.k ≤ (cntN p q.n : Int)) := by
    unfold fndOk
    rw [e2]
    by_cases h0 : cntN p q.n = 0
    · rw [if_pos h0, h0]
      have : zeroC.fits q = false := by unfold Cf.fits; rw [zero_wrong]; rfl
      rw [this, Bool.and_false]
      exact (decide_eq_false (by have := hc.2.2.1; show ¬ c.k ≤ ((0 : Nat) : Int); omega)).symm
    · rw [if_neg h0, hf, Bool.and_true]
  refine ⟨e2, e3, ?_⟩
  unfold fndC
  rw [e3, e2]
  by_cases hk : c.k ≤ (cntN p q.n : Int)
  · rw [if_pos (decide_eq_true hk), if_pos hk, if_neg (by have := hc.2.2.1; omega)]
  · rw [if_neg (by simpa using hk), if_neg hk]
theorem read_new (k : Nat) : goodB ((new k).read 0) = false := good_zeros
/-! ### in a walk -/
theorem QS.sput {w0 w : World} {c : Lc} {q : Rk} (h : QS w0 c q w) (cf : Cf) (i : Int) :
    Calls Tryz.prog 12 #[.pointer (some ⟨c.r, 0, none⟩), .agg (cfA cf), .int .i64 i] w (QN w0 c q.n (Rk.sput q cf i) (Rk.serr q cf i) w) := h.of (sput_any w h.rack cf i)
theorem QS.sfind {w0 w : World} {c : Lc} {q : Rk} (h : QS w0 c q w) : Calls Tryz.prog 17 #[.pointer (some ⟨c.r, 0, none⟩)] w (CfErr (fndC q) (ferr q) w) := sfind_any w h.rack
/-! ### the chapter's runs -/
def cR : Cf := ⟨9, 2, 3, 1, 1⟩
def sq0 : Rk := newRk 3 4
def sq1 : Rk := sq0.turn 1 (supS (sq0.s 1) cR 1)
def sq2 : Rk := sq1.turn 2 (supS (sq1.s 2) cR 2)
def sq3 : Rk := Rk.dying sq2 2 true
theorem sq0_ok : sq0.Ok := newRk_ok (by omega) (by omega) (by omega) (by omega)
theorem sup_n {s : St} (c : Cf) (k : Nat) : (supS s c k).n = s.n := St.stores_n _ _
theorem sq1_ok : sq1.Ok := sq0_ok.turn (sup_n cR 1)
theorem sq2_ok : sq2.Ok := sq1_ok.turn (sup_n cR 2)
theorem sq3_ok : sq3.Ok := sq2_ok.turn (t := (sq2.s 2).wipe true) (by show (supS (sq1.s 2) cR 2).n = 4; rw [sup_n]; rfl)
theorem cR_fits {q : Rk} (hn : q.n = 3) (hk : q.k = 4) : cR.fits q = true := by
  unfold Cf.fits
  rw [hn, hk]; rfl
theorem sp1 : Rk.scode sq0 cR 1 = 0 ∧ Rk.sput sq0 cR 1 = sq1 := sput_well (k := 1) sq0_ok rfl rfl (by decide) rfl (cR_fits rfl rfl)
theorem sp2 : Rk.scode sq1 cR 2 = 0 ∧ Rk.sput sq1 cR 2 = sq2 := sput_well (k := 2) sq1_ok rfl rfl (by decide) rfl (cR_fits rfl rfl)
theorem new4_ok : (new 4).Ok := new_ok (by omega)
theorem sup_new (k : Nat) (hk : k < 8) : (supS (new 4) cR k).dead = false ∧ (supS (new 4) cR k).read 0 = put (supF cR k) := by
  obtain ⟨h1, _, h3, _⟩ := supS_facts new4_ok (by decide) (c := cR) hk
  exact ⟨h1, h3⟩
theorem sf2 : fndOk sq2 = true ∧ fndC sq2 = cR := by
  have h : ∀ j, j < sq2.n → SupAt sq2 cR j (decide (1 ≤ j)) := fun j hj => by
    have hj : j < 3 := hj
    have hc : j = 0 ∨ j = 1 ∨ j = 2 := by omega
    rcases hc with rfl | rfl | rfl
    · exact Or.inr (read_new 4)
    · exact sup_new 1 (by omega)
    · exact sup_new 2 (by omega)
  obtain ⟨_, e2, e3⟩ := find_well sq2_ok rfl (cR_fits rfl rfl) h
  exact ⟨e2.trans (by decide), e3.trans (if_pos (by decide))⟩
theorem sf3 : fndOk sq3 = false ∧ fndC sq3 = zeroC := by
  have h : ∀ j, j < sq3.n → SupAt sq3 cR j (j == 1) := fun j hj => by
    have hj : j < 3 := hj
    have hc : j = 0 ∨ j = 1 ∨ j = 2 := by omega
    rcases hc with rfl | rfl | rfl
    · exact Or.inr (read_new 4)
    · exact sup_new 1 (by omega)
    · exact Or.inl rfl
  obtain ⟨_, e2, e3⟩ := find_well sq3_ok rfl (cR_fits rfl rfl) h
  exact ⟨e2.trans (by decide), e3.trans (if_neg (by decide))⟩
set_option maxHeartbeats 4000000 in
set_option maxRecDepth 100000 in
theorem super_runs (w : World) (hT : Typ w) : Calls Tryz.prog 20 #[] w (Bit true w) := by
  have HT := Lib.hid hT
  have hgd := guard_conf
  obtain ⟨w1, hw1⟩ : ∃ w1, w1 = w.alloc (.cells (cfA cR) 24) := ⟨_, rfl⟩
  have H1 := Lib.hid (show CfB cR w.heap.size w1 ∧ w.heap.size < w1.heap.size ∧ Below w.heap.size w w1 by rw [hw1]; exact ⟨cfB_new w cR, by simp, one_below _ _⟩)
  have HN := Lib.hid (show Calls Tryz.prog 42 #[.int .i64 3, .int .i64 4] w1 (QNew w1 3 4) from qs_new 3 4 w1 (by omega) (by omega) (by omega) (by omega))
  have hcR : (w.alloc (.cells #[.int .i64 9, .int .i64 2, .int .i64 3, .int .i64 1, .int .i64 1] 24)) = w1 := hw1.symm
  clear hT hw1
  go_enter Tryz.func20, Tryz.ntmps20
  go_wp2_with fail
  clear hcR
  refine HN.out.mono ?_
  rintro e w2 ⟨c, rfl, h2⟩
  have HP1 := Lib.hid (show Calls Tryz.prog 12 #[.pointer (some ⟨c.r, 0, none⟩), .agg (cfA cR), .int .i64 1] w2 (QN w1 c 3 sq1 .nilIface w2) from by
    have := h2.sput cR 1
    rwa [show Rk.sput (newRk 3 4) cR 1 = sq1 from sp1.2, serr_nil (show Rk.scode (newRk 3 4) cR 1 = 0 from sp1.1)] at this)
  have b2 := (H1.out.1.below H1.out.2.1 h2.base).cells
  obtain ⟨d0, d1, d2, d3, d4⟩ := b2
  clear h2
  go_wp2_with fail
  refine HP1.out.mono ?_
  rintro e w3 ⟨rfl, h3, _⟩
  have HP2 := Lib.hid (show Calls Tryz.prog 12 #[.pointer (some ⟨c.r, 0, none⟩), .agg (cfA cR), .int .i64 2] w3 (QN w1 c 3 sq2 .nilIface w3) from by
    have := h3.sput cR 2
    rwa [sp2.2, serr_nil sp2.1] at this)
  obtain ⟨e0, e1, e2, e3, e4⟩ := (H1.out.1.below H1.out.2.1 h3.base).cells
  clear h3 d0 d1 d2 d3 d4
  go_wp2_with fail
  refine HP2.out.mono ?_
  rintro e w4 ⟨rfl, h4, _⟩
  have H4 := Lib.hid h4
  have HF4 := Lib.hid (show Calls Tryz.prog 17 #[.pointer (some ⟨c.r, 0, none⟩)] w4 (CfErr cR .nilIface w4) from by
    have := h4.sfind
    rwa [sf2.2, show ferr sq2 = .nilIface from if_pos sf2.1] at this)
  clear h4 e0 e1 e2 e3 e4
  go_wp2_with fail
  refine HF4.out.mono ?_
  rintro e w5 ⟨rfl, hb5⟩
  have H5 := Lib.hid ((H4.out.below hb5).below (one_below w5 (.cells (cfA cR) 24)))
  have HC5 := Lib.hid (show CfB cR w5.heap.size (w5.alloc (.cells (cfA cR) 24)) ∧ Far w5.heap.size c 3 ∧ w5.heap.size < (w5.alloc (.cells (cfA cR) 24)).heap.size from ⟨cfB_new w5 cR, ((H4.out.below hb5).rack.far : Far w5.heap.size c sq2.n), by simp⟩)
  clear hb5
  obtain ⟨w6, hw6⟩ : ∃ w6, w6 = w5.alloc (.cells (cfA cR) 24) := ⟨_, rfl⟩
  rw [← hw6] at H5 HC5
  have hcR : (w5.alloc (.cells #[.int .i64 cR.id, .int .i64 cR.k, .int .i64 cR.n, .int .i64 cR.t, .int .i64 cR.s] 24)) = w6 := hw6.symm
  clear hw6
  go_wp2_with fail
  clear hcR
  generalize w5.heap.size = b5 at *
  have HD := Lib.hid (show Calls Tryz.prog 44 #[.pointer (some ⟨c.r, 0, none⟩), .int .i64 2] w6 (QN w1 c 3 sq3 (.bool true) w6) from H5.out.die 2)
  refine HD.out.mono ?_
  rintro e w7 ⟨rfl, h7, hc7⟩
  have H7 := Lib.hid h7
  have HC7 := Lib.hid (show CfB cR b5 w7 ∧ b5 < w7.heap.size from ⟨HC5.out.1.rc HC5.out.2.1 HC5.out.2.2 hc7, Nat.lt_of_lt_of_le HC5.out.2.2 hc7.size⟩)
  have HF7 := Lib.hid (show Calls Tryz.prog 17 #[.pointer (some ⟨c.r, 0, none⟩)] w7 (CfErr zeroC (wrapV opSFind ((fnd sq3 sq3.n).2 : Int) (errV 7)) w7) from by
    have := h7.sfind
    rwa [sf3.2, show ferr sq3 = wrapV opSFind ((fnd sq3 sq3.n).2 : Int) (errV 7) from if_neg (by rw [sf3.1]; decide)] at this)
  generalize ((fnd sq3 sq3.n).2 : Int) = hv at *
  clear h7 hc7
  go_wp2_with fail
  refine HF7.out.mono ?_
  rintro e w8 ⟨rfl, hb8⟩
  have hb9 := hb8.trans (Below.refl _ _)
  have H8 := Lib.hid (H7.out.below hb8)
  have hc9 := (HC7.out.1.below HC7.out.2 hb8).below (B := w8.heap.size) (Nat.lt_of_lt_of_le HC7.out.2 hb8.size) (one_below w8 (.cells (cfA zeroC) 24))
  have h19 := ((H1.out.1.below H1.out.2.1 (H7.out.base)).below (B := w7.heap.size) (Nat.lt_of_lt_of_le H1.out.2.1 H7.out.le) hb8)
  have hl9 : w.heap.size < w8.heap.size := Nat.lt_of_lt_of_le (Nat.lt_of_lt_of_le H1.out.2.1 H7.out.le) hb8.size
  have h10 := h19.below hl9 (one_below w8 (.cells (cfA zeroC) 24))
  obtain ⟨x0, x1, x2, x3, x4⟩ := hc9.cells
  obtain ⟨y0, y1, y2, y3, y4⟩ := h10.cells
  have HB10 := Lib.hid (show Below w.heap.size w (w8.alloc (.cells (cfA zeroC) 24)) from balloc (bthen H1.out.2.2 H8.out.base) _)
  have heq : ∀ w, (binOp .eql 24 (.agg (cfA cR)) (.agg (cfA cR))).run Tryz.prog w = .ok (.bool true) w := fun w => by rw [eql_conf, decide_eq_true rfl]
  have CK := Lib.hid (kind_err [(opSFind, hv)] 7 (w8.alloc (.cells (cfA zeroC) 24)) _ rfl (HT.out.below HB10.out))
  have H10 := Lib.hid (show CfB cR w.heap.size (w8.alloc (.cells (cfA zeroC) 24)) ∧ w.heap.size < (w8.alloc (.cells (cfA zeroC) 24)).heap.size from ⟨h10, by simp; omega⟩)
  clear hb8 hb9 hc9 h19 h10 hl9
  unfold wrapV errV
  unfold chain wrapV errV at CK
  go_wp2_with fail
  refine CK.out.mono ?_
  rintro e w9 ⟨rfl, hb9⟩
  have HB9 := Lib.hid (bthen HB10.out hb9)
  obtain ⟨u0, u1, u2, u3, u4⟩ := (H10.out.1.below H10.out.2 hb9).cells
  have CS := Lib.hid (show Calls Tryz.prog 82 #[.agg (cfA cR)] w9 (Num 4 w9) from ssectors_any cR w9 (by decide))
  clear hb9 x0 x1 x2 x3 x4 y0 y1 y2 y3 y4
  go_wp2_with fail
  refine CS.out.mono ?_
  rintro e w10 ⟨rfl, hb10⟩
  go_wp2_with fail
  go_ret
  exact bit rfl (bthen HB9.out hb10)
end Go.Proofs.YtidnmkghmaeniaaGreatDoor
