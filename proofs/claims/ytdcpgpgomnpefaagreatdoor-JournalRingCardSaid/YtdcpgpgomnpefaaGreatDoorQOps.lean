/-
  (*rack.Rack).Write, Flush, Read.
-/
import Derived.Test.YtdcpgpgomnpefaaGreatDoorQSmall
namespace Go.Proofs.YtdcpgpgomnpefaaGreatDoor
open Go.RowKit Go.Deep Dk Qk Go.Maps
theorem ready_yes {q : Rk} {i : Int} (h : q.ready i = 0) : ∃ k : Nat, i = (k : Int) ∧ k < q.n ∧ q.off = false ∧ (q.s k).dead = false := by
  unfold Rk.ready at h
  by_cases hi : q.has i
  · rw [if_pos hi] at h
    obtain ⟨k, rfl⟩ := Int.eq_ofNat_of_zero_le hi.1
    refine ⟨k, rfl, by have := hi.2; omega, ?_⟩
    cases ho : q.off
    · cases hd : (q.s k).dead
      · exact ⟨rfl, rfl⟩
      · rw [ho, Int.toNat_natCast, hd] at h; exact absurd h (by decide)
    · rw [ho, Bool.true_or] at h; exact absurd h (by decide)
  · rw [if_neg hi] at h; cases h
theorem RackIn.nocell {lo : Nat} {w : World} {c : Lc} {q : Rk} (h : RackIn lo w c q) (i : Nat) (x : Int) : w.cell? ⟨c.r, i, none⟩ ≠ some (.int .u8 x) := by
  rw [cell_of_row w c.r i _ _ _ h.top]
  match i with
  | 0 => intro e; cases e
  | 1 => intro e; cases e
  | 2 => intro e; cases e
  | i + 3 => intro e; simp at e
/-- Bytes lie off the rack's struct. -/
theorem SlB.spent {lo B : Nat} {w w' : World} {c : Lc} {q : Rk} {v : Value} {l : List UInt8} (h : SlB B w v l) (hr : RackIn lo w c q) (hw : ∀ k, k ≠ c.r → w'.heap[k]? = w.heap[k]?) : SlB B w' v l := by
  rcases h with h0 | ⟨b, o, cap, h1, h2, h3, h4, h5⟩
  · exact Or.inl h0
  · have hne : b ≠ c.r := fun e => by
      subst e
      exact hr.nocell _ _ (h3 0 h4)
    exact Or.inr ⟨b, o, cap, h1, h2, fun x hx => (World.cell?_of_block (a := ⟨b, o + x, none⟩) (hw b hne)).trans (h3 x hx), h4, h5⟩
theorem write_wait {q : Rk} {i sec : Int} {l : List UInt8} (h : ¬ q.ready i = 0) : q.write i sec l = q ∧ q.wcode i sec l.length = q.ready i := ⟨if_neg fun e => h e.1, if_neg h⟩
theorem write_odd {q : Rk} {i sec : Int} {l : List UInt8} (h : q.ready i = 0) (hf : ¬ q.fits sec l.length) : q.write i sec l = q ∧ q.wcode i sec l.length = 1 :=
  ⟨if_neg fun e => hf e.2, by unfold Rk.wcode; rw [if_pos h, if_neg hf]⟩
theorem write_last {q : Rk} {i sec : Int} {l : List UInt8} (h : q.ready i = 0) (hf : q.fits sec l.length) (h0 : q.rem = 0) : q.write i sec l = q.spent ∧ q.wcode i sec l.length = 5 :=
  ⟨by unfold Rk.write; rw [if_pos ⟨h, hf⟩, if_pos h0], by unfold Rk.wcode; rw [if_pos h, if_pos hf, if_pos h0]⟩
theorem write_goes {q : Rk} {i sec : Int} {l : List UInt8} (h : q.ready i = 0) (hf : q.fits sec l.length) (h0 : ¬ q.rem = 0) : q.write i sec l = q.spent.turn i.toNat ((q.s i.toNat).write sec.toNat l) ∧ q.wcode i sec l.length = 0 :=
  ⟨by unfold Rk.write; rw [if_pos ⟨h, hf⟩, if_neg h0], by unfold Rk.wcode; rw [if_pos h, if_pos hf, if_neg h0]⟩
set_option maxHeartbeats 2000000 in
set_option maxRecDepth 100000 in
theorem qwrite_wait {lo : Nat} {c : Lc} {q : Rk} (w : World) (h : RackIn lo w c q) (i sec : Int) (v : Value) (hr : ¬ q.ready i = 0) :
    Calls Tryz.prog 46 #[.pointer (some ⟨c.r, 0, none⟩), .int .i64 i, .int .i64 sec, v] w (ErrSame opQWrite (q.ready i) i w) := by
  have HR := Lib.hid (qready_any w h opQWrite i)
  unfold ErrSame at HR ⊢
  rw [evs_some _ _ hr] at HR ⊢
  clear h hr
  generalize q.ready i = rd at *
  unfold wrapV errV at HR
  go_enter Tryz.func46, Tryz.ntmps46
  go_wp2_with (go_at_call 97; refine HR.out.mono ?_; rintro e w' ⟨rfl, rfl⟩)
  exact bodyPost_ret (v := wrapV opQWrite i (errV rd)) (by simp [results, Tryz.results46, go_sem, wrapV, errV, opQWrite]) rfl ⟨rfl, rfl⟩
set_option maxHeartbeats 2000000 in
set_option maxRecDepth 100000 in
theorem qwrite_lo {lo : Nat} {c : Lc} {q : Rk} (w : World) (h : RackIn lo w c q) (i sec : Int) (a : Option Addr) (len cap : Nat) (hr : q.ready i = 0) (hx : sec < 0) :
    Calls Tryz.prog 46 #[.pointer (some ⟨c.r, 0, none⟩), .int .i64 i, .int .i64 sec, .slice a len cap] w (ErrSame opQWrite 1 i w) := by
  have HR := Lib.hid (qready_any w h opQWrite i)
  have HS := Lib.hid (qsectors_any w h)
  unfold ErrSame at HR ⊢
  rw [hr, evs_zero] at HR
  rw [evs_some _ _ (by decide)]
  clear h hr
  go_enter Tryz.func46, Tryz.ntmps46
  go_wp2_with (first
    | (go_at_call 97; refine HR.out.mono ?_; rintro e w' ⟨rfl, rfl⟩)
    | (go_at_call 96; refine HS.out.mono ?_; rintro e w' ⟨rfl, rfl⟩)
    | (go_at_call 45; refine (wrap_some _ _ _ _ _).mono ?_; rintro e w' ⟨rfl, rfl⟩))
  exact bodyPost_ret (v := wrapV opQWrite i (errV 1)) (by simp [results, Tryz.results46, go_sem, wrapV, errV, opQWrite]) rfl ⟨rfl, rfl⟩
set_option maxHeartbeats 2000000 in
set_option maxRecDepth 100000 in
theorem qwrite_hi {lo : Nat} {c : Lc} {q : Rk} (w : World) (h : RackIn lo w c q) (i sec : Int) (a : Option Addr) (len cap : Nat) (hr : q.ready i = 0) (hx : 0 ≤ sec) (hy : sec ≥ q.k) :
    Calls Tryz.prog 46 #[.pointer (some ⟨c.r, 0, none⟩), .int .i64 i, .int .i64 sec, .slice a len cap] w (ErrSame opQWrite 1 i w) := by
  have HR := Lib.hid (qready_any w h opQWrite i)
  have HS := Lib.hid (qsectors_any w h)
  unfold ErrSame at HR ⊢
  rw [hr, evs_zero] at HR
  rw [evs_some _ _ (by decide)]
  have i1 : ¬ sec < 0 := by omega
  clear h hr
  go_enter Tryz.func46, Tryz.ntmps46
  go_wp2_with (first
    | (go_at_call 97; refine HR.out.mono ?_; rintro e w' ⟨rfl, rfl⟩)
    | (go_at_call 96; refine HS.out.mono ?_; rintro e w' ⟨rfl, rfl⟩)
    | (go_at_call 45; refine (wrap_some _ _ _ _ _).mono ?_; rintro e w' ⟨rfl, rfl⟩))
  exact bodyPost_ret (v := wrapV opQWrite i (errV 1)) (by simp [results, Tryz.results46, go_sem, wrapV, errV, opQWrite]) rfl ⟨rfl, rfl⟩
set_option maxHeartbeats 2000000 in
set_option maxRecDepth 100000 in
theorem qwrite_len {lo : Nat} {c : Lc} {q : Rk} (w : World) (h : RackIn lo w c q) (i sec : Int) (a : Option Addr) (len cap : Nat) (hr : q.ready i = 0) (hx : 0 ≤ sec) (hy : sec < q.k) (hl : len ≠ 128) :
    Calls Tryz.prog 46 #[.pointer (some ⟨c.r, 0, none⟩), .int .i64 i, .int .i64 sec, .slice a len cap] w (ErrSame opQWrite 1 i w) := by
  have HR := Lib.hid (qready_any w h opQWrite i)
  have HS := Lib.hid (qsectors_any w h)
  unfold ErrSame at HR ⊢
  rw [hr, evs_zero] at HR
  rw [evs_some _ _ (by decide)]
  have i1 : ¬ sec < 0 := by omega
  have i2 : ¬ sec ≥ q.k := by omega
  have i3 : ¬ (len : Int) = 128 := by omega
  have i4 : ((len : Int) != 128) = true := by simpa using i3
  have i5 : ((len : Int) == 128) = false := by simpa using i3
  clear hx hy
  clear h hr
  go_enter Tryz.func46, Tryz.ntmps46
  go_wp2_with (first
    | (go_at_call 97; refine HR.out.mono ?_; rintro e w' ⟨rfl, rfl⟩)
    | (go_at_call 96; refine HS.out.mono ?_; rintro e w' ⟨rfl, rfl⟩)
    | (go_at_call 45; refine (wrap_some _ _ _ _ _).mono ?_; rintro e w' ⟨rfl, rfl⟩))
  exact bodyPost_ret (v := wrapV opQWrite i (errV 1)) (by simp [results, Tryz.results46, go_sem, wrapV, errV, opQWrite]) rfl ⟨rfl, rfl⟩
set_option maxHeartbeats 2000000 in
set_option maxRecDepth 100000 in
theorem qwrite_last {lo : Nat} {c : Lc} {q : Rk} (w : World) (h : RackIn lo w c q) (i sec : Int) (a : Option Addr) (len cap : Nat) (hr : q.ready i = 0) (hf : q.fits sec len) (h0 : q.rem = 0) :
    Calls Tryz.prog 46 #[.pointer (some ⟨c.r, 0, none⟩), .int .i64 i, .int .i64 sec, .slice a len cap] w (NextR lo c q.n q.spent (evs opQWrite 5 i) w) := by
  have HR := Lib.hid (qready_any w h opQWrite i)
  have HS := Lib.hid (qsectors_any w h)
  have HP := Lib.hid (qspend_any w h)
  unfold ErrSame at HR
  rw [hr, evs_zero] at HR
  rw [decide_eq_false (show ¬ q.rem ≠ 0 from fun e => e h0)] at HP
  rw [evs_some _ _ (by decide)]
  obtain ⟨f1, f2, rfl⟩ := hf
  obtain ⟨m, rfl⟩ := Int.eq_ofNat_of_zero_le f1
  have i1 : ¬ (m : Int) < 0 := by omega
  have i2 : ¬ q.k ≤ m := by omega
  have i3 : decide (q.k ≤ m) = false := by simpa using i2
  clear h hr f1 f2 h0
  go_enter Tryz.func46, Tryz.ntmps46
  go_wp2_with (first
    | (go_at_call 97; refine HR.out.mono ?_; rintro e w' ⟨rfl, rfl⟩)
    | (go_at_call 96; refine HS.out.mono ?_; rintro e w' ⟨rfl, rfl⟩)
    | (go_at_call 98; refine HP.out.mono ?_; rintro e w1 ⟨⟨rfl, hR1, hC1⟩, _, _⟩)
    | (go_at_call 45; refine (wrap_some _ _ _ _ _).mono ?_; rintro e w' ⟨rfl, rfl⟩))
  exact bodyPost_ret (v := wrapV opQWrite i (errV 5)) (by simp [results, Tryz.results46, go_sem, wrapV, errV, opQWrite]) rfl ⟨rfl, hR1, hC1⟩
set_option maxHeartbeats 2000000 in
set_option maxRecDepth 100000 in
theorem qwrite_goes {lo : Nat} {c : Lc} {q : Rk} (w : World) (h : RackIn lo w c q) (k m : Nat) (v : Value) (l : List UInt8) (hv : SlB w.heap.size w v l) (hr : q.ready (k : Int) = 0) (hm : m < q.k) (hl : l.length = 128) (h0 : ¬ q.rem = 0) :
    Calls Tryz.prog 46 #[.pointer (some ⟨c.r, 0, none⟩), .int .i64 (k : Int), .int .i64 (m : Int), v] w (NextR lo c q.n (q.spent.turn k ((q.s k).write m l)) .nilIface w) := by
  have HR := Lib.hid (qready_any w h opQWrite k)
  have HS := Lib.hid (qsectors_any w h)
  have HP := Lib.hid (qspend_any w h)
  unfold ErrSame at HR
  rw [hr, evs_zero] at HR
  rw [decide_eq_true (show q.rem ≠ 0 from h0)] at HP
  obtain ⟨k', e, hk, _, hdead⟩ := ready_yes hr
  obtain rfl : k = k' := by omega
  clear e
  obtain ⟨a, cap, rfl, _⟩ := hv.len
  rw [hl]
  rw [hl] at hv
  have i1 : ¬ (m : Int) < 0 := by omega
  have i2 : ¬ q.k ≤ m := by omega
  have i3 : decide (q.k ≤ m) = false := by simpa using i2
  have HQ := Lib.hid h
  have HV := Lib.hid hv
  have HF3 := Lib.hid hl
  have HDD := Lib.hid hdead
  clear h hr hv hl h0 hdead
  go_enter Tryz.func46, Tryz.ntmps46
  go_wp2_with (first
    | (go_at_call 97; refine HR.out.mono ?_; rintro e w' ⟨rfl, rfl⟩)
    | (go_at_call 96; refine HS.out.mono ?_; rintro e w' ⟨rfl, rfl⟩)
    | fail)
  refine HP.out.mono ?_
  rintro e w1 ⟨⟨rfl, hR1, hC1⟩, hsz, hoth⟩
  have hn1 : q.spent.n = q.n := spent_n q
  have hs1 := spent_s q
  have hk1 := spent_k q
  have c0 := hR1.c0
  have c1 := hR1.at_ (i := k) (by omega)
  have hD1 := hR1.disk k (by omega)
  rw [hs1] at hD1
  have hok := hR1.ok.k k (by omega)
  rw [hs1, hk1] at hok
  have HW := Lib.hid (write_yes w1 hD1 HDD.out m (.slice a 128 cap) l (by omega) (HV.out.spent HQ.out hoth) HF3.out)
  have HR1 := Lib.hid hR1
  have HC1 := Lib.hid hC1
  have HN := Lib.hid hok
  rw [hn1] at c0
  have j1 : (k : Int) < q.n := by omega
  have j2 : (0 : Int) ≤ k := by omega
  have HH := Lib.hid (show k < q.spent.n ∧ q.spent.k = q.k ∧ q.spent.n = q.n from ⟨by omega, hk1, hn1⟩)
  clear hR1 hC1 hD1 hok hsz hoth hn1 hs1 hk1
  go_wp2_with (first
    | (go_at_call 99; refine HW.out.mono ?_; rintro e w2 ⟨rfl, hD2, hC2⟩)
    | (go_at_call 45; refine (wrap_nil _ _ _).mono ?_; rintro e w' ⟨rfl, rfl⟩))
  go_ret
  exact ⟨rfl, HR1.out.turned HH.out.1 (by rw [HH.out.2.1]; exact HN.out) hD2 hC2, HC1.out.trans (RC.of_chg hC2 (by have := HH.out; omega))⟩
theorem qwrite_any {lo : Nat} {c : Lc} {q : Rk} (w : World) (h : RackIn lo w c q) (i sec : Int) (v : Value) (l : List UInt8) (hv : SlB w.heap.size w v l) :
    Calls Tryz.prog 46 #[.pointer (some ⟨c.r, 0, none⟩), .int .i64 i, .int .i64 sec, v] w (NextR lo c q.n (q.write i sec l) (evs opQWrite (q.wcode i sec l.length) i) w) := by
  by_cases hr : q.ready i = 0
  · by_cases hf : q.fits sec l.length
    · by_cases h0 : q.rem = 0
      · obtain ⟨e1, e2⟩ := write_last (l := l) hr hf h0
        rw [e1, e2]
        obtain ⟨a, cap, rfl, _⟩ := hv.len
        exact qwrite_last w h i sec a _ cap hr hf h0
      · obtain ⟨e1, e2⟩ := write_goes (l := l) hr hf h0
        rw [e1, e2, evs_zero]
        obtain ⟨k, rfl, _⟩ := ready_yes hr
        obtain ⟨m, rfl⟩ := Int.eq_ofNat_of_zero_le hf.1
        exact qwrite_goes w h k m v l hv hr (by have := hf.2.1; omega) hf.2.2 h0
    · obtain ⟨e1, e2⟩ := write_odd (l := l) hr hf
      rw [e1, e2]
      obtain ⟨a, cap, rfl, _⟩ := hv.len
      have hE : Calls Tryz.prog 46 #[.pointer (some ⟨c.r, 0, none⟩), .int .i64 i, .int .i64 sec, .slice a l.length cap] w (ErrSame opQWrite 1 i w) := by
        by_cases h1 : sec < 0
        · exact qwrite_lo w h i sec a _ cap hr h1
        · by_cases h2 : sec ≥ q.k
          · exact qwrite_hi w h i sec a _ cap hr (by omega) h2
          · exact qwrite_len w h i sec a _ cap hr (by omega) (by omega) (fun e => hf ⟨by omega, by omega, e⟩)
      refine hE.mono ?_
      rintro e w' ⟨rfl, rfl⟩
      exact ⟨rfl, h, RC.refl _ _ _⟩
  · obtain ⟨e1, e2⟩ := write_wait (sec := sec) (l := l) hr
    rw [e1, e2]
    refine (qwrite_wait w h i sec v hr).mono ?_
    rintro e w' ⟨rfl, rfl⟩
    exact ⟨rfl, h, RC.refl _ _ _⟩
theorem flush_wait {q : Rk} {i : Int} (h : ¬ q.ready i = 0) : q.flush i = q ∧ q.fcode i = q.ready i := ⟨if_neg h, if_neg h⟩
theorem flush_last {q : Rk} {i : Int} (h : q.ready i = 0) (h0 : q.rem = 0) : q.flush i = q.spent ∧ q.fcode i = 5 :=
  ⟨by unfold Rk.flush; rw [if_pos h, if_pos h0], by unfold Rk.fcode; rw [if_pos h, if_pos h0]⟩
theorem flush_goes {q : Rk} {i : Int} (h : q.ready i = 0) (h0 : ¬ q.rem = 0) : q.flush i = q.spent.turn i.toNat (q.s i.toNat).flush ∧ q.fcode i = 0 :=
  ⟨by unfold Rk.flush; rw [if_pos h, if_neg h0], by unfold Rk.fcode; rw [if_pos h, if_neg h0]⟩
set_option maxHeartbeats 2000000 in
set_option maxRecDepth 100000 in
theorem qflush_wait {lo : Nat} {c : Lc} {q : Rk} (w : World) (h : RackIn lo w c q) (i : Int) (hr : ¬ q.ready i = 0) :
    Calls Tryz.prog 49 #[.pointer (some ⟨c.r, 0, none⟩), .int .i64 i] w (ErrSame opQFlush (q.ready i) i w) := by
  have HR := Lib.hid (qready_any w h opQFlush i)
  unfold ErrSame at HR ⊢
  rw [evs_some _ _ hr] at HR ⊢
  clear h hr
  generalize q.ready i = rd at *
  unfold wrapV errV at HR
  go_enter Tryz.func49, Tryz.ntmps49
  go_wp2_with (go_at_call 97; refine HR.out.mono ?_; rintro e w' ⟨rfl, rfl⟩)
  exact bodyPost_ret (v := wrapV opQFlush i (errV rd)) (by simp [results, Tryz.results49, go_sem, wrapV, errV, opQFlush]) rfl ⟨rfl, rfl⟩
set_option maxHeartbeats 2000000 in
set_option maxRecDepth 100000 in
theorem qflush_last {lo : Nat} {c : Lc} {q : Rk} (w : World) (h : RackIn lo w c q) (i : Int) (hr : q.ready i = 0) (h0 : q.rem = 0) :
    Calls Tryz.prog 49 #[.pointer (some ⟨c.r, 0, none⟩), .int .i64 i] w (NextR lo c q.n q.spent (evs opQFlush 5 i) w) := by
  have HR := Lib.hid (qready_any w h opQFlush i)
  have HP := Lib.hid (qspend_any w h)
  unfold ErrSame at HR
  rw [hr, evs_zero] at HR
  rw [decide_eq_false (show ¬ q.rem ≠ 0 from fun e => e h0)] at HP
  rw [evs_some _ _ (by decide)]
  clear h hr h0
  go_enter Tryz.func49, Tryz.ntmps49
  go_wp2_with (first
    | (go_at_call 97; refine HR.out.mono ?_; rintro e w' ⟨rfl, rfl⟩)
    | (go_at_call 98; refine HP.out.mono ?_; rintro e w1 ⟨⟨rfl, hR1, hC1⟩, _, _⟩)
    | (go_at_call 45; refine (wrap_some _ _ _ _ _).mono ?_; rintro e w' ⟨rfl, rfl⟩))
  exact bodyPost_ret (v := wrapV opQFlush i (errV 5)) (by simp [results, Tryz.results49, go_sem, wrapV, errV, opQFlush]) rfl ⟨rfl, hR1, hC1⟩
set_option maxHeartbeats 2000000 in
set_option maxRecDepth 100000 in
theorem qflush_goes {lo : Nat} {c : Lc} {q : Rk} (w : World) (h : RackIn lo w c q) (k : Nat) (hr : q.ready (k : Int) = 0) (h0 : ¬ q.rem = 0) :
    Calls Tryz.prog 49 #[.pointer (some ⟨c.r, 0, none⟩), .int .i64 (k : Int)] w (NextR lo c q.n (q.spent.turn k (q.s k).flush) .nilIface w) := by
  have HR := Lib.hid (qready_any w h opQFlush k)
  have HP := Lib.hid (qspend_any w h)
  unfold ErrSame at HR
  rw [hr, evs_zero] at HR
  rw [decide_eq_true (show q.rem ≠ 0 from h0)] at HP
  obtain ⟨k', e, hk, _, hdead⟩ := ready_yes hr
  obtain rfl : k = k' := by omega
  clear e
  have HDD := Lib.hid hdead
  clear h hr h0 hdead
  go_enter Tryz.func49, Tryz.ntmps49
  go_wp2_with (first
    | (go_at_call 97; refine HR.out.mono ?_; rintro e w' ⟨rfl, rfl⟩)
    | fail)
  refine HP.out.mono ?_
  rintro e w1 ⟨⟨rfl, hR1, hC1⟩, _, _⟩
  have hn1 : q.spent.n = q.n := spent_n q
  have hs1 := spent_s q
  have hk1 := spent_k q
  have c0 := hR1.c0
  have c1 := hR1.at_ (i := k) (by omega)
  have hD1 := hR1.disk k (by omega)
  rw [hs1] at hD1
  have hok := hR1.ok.k k (by omega)
  rw [hs1, hk1] at hok
  have HW := Lib.hid (flush_yes w1 hD1 HDD.out)
  have HR1 := Lib.hid hR1
  have HC1 := Lib.hid hC1
  have HN := Lib.hid (show (q.s k).flush.n = q.k from (St.stores_n _ _).trans hok)
  rw [hn1] at c0
  have j1 : (k : Int) < q.n := by omega
  have j2 : (0 : Int) ≤ k := by omega
  have HH := Lib.hid (show k < q.spent.n ∧ q.spent.k = q.k ∧ q.spent.n = q.n from ⟨by omega, hk1, hn1⟩)
  clear hR1 hC1 hD1 hok hn1 hs1 hk1
  go_wp2_with (first
    | (go_at_call 103; refine HW.out.mono ?_; rintro e w2 ⟨rfl, hD2, hC2⟩)
    | (go_at_call 45; refine (wrap_nil _ _ _).mono ?_; rintro e w' ⟨rfl, rfl⟩))
  go_ret
  exact ⟨rfl, HR1.out.turned HH.out.1 (by rw [HH.out.2.1]; exact HN.out) hD2 hC2, HC1.out.trans (RC.of_chg hC2 (by have := HH.out; omega))⟩
theorem qflush_any {lo : Nat} {c : Lc} {q : Rk} (w : World) (h : RackIn lo w c q) (i : Int) :
    Calls Tryz.prog 49 #[.pointer (some ⟨c.r, 0, none⟩), .int .i64 i] w (NextR lo c q.n (q.flush i) (evs opQFlush (q.fcode i) i) w) := by
  by_cases hr : q.ready i = 0
  · by_cases h0 : q.rem = 0
    · obtain ⟨e1, e2⟩ := flush_last hr h0
      rw [e1, e2]
      exact qflush_last w h i hr h0
    · obtain ⟨e1, e2⟩ := flush_goes hr h0
      rw [e1, e2, evs_zero]
      obtain ⟨k, rfl, _⟩ := ready_yes hr
      exact qflush_goes w h k hr h0
  · obtain ⟨e1, e2⟩ := flush_wait hr
    rw [e1, e2]
    refine (qflush_wait w h i hr).mono ?_
    rintro e w' ⟨rfl, rfl⟩
    exact ⟨rfl, h, RC.refl _ _ _⟩
end Go.Proofs.YtdcpgpgomnpefaaGreatDoor
