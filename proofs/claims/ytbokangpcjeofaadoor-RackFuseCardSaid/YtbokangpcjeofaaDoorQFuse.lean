/-
  stavelaw8.RackFuse: the walk.
-/
import Derived.Test.YtbokangpcjeofaaDoorQRuns
import Derived.Test.YtbokangpcjeofaaDoorQOnline
import Derived.Test.YtbokangpcjeofaaDoorWithinI
import Derived.Test.YtbokangpcjeofaaDoorOpenI
namespace Go.Proofs.YtbokangpcjeofaaDoor
open Go.RowKit Go.Deep Dk Qk Go.Maps Hf
/-- K operations were armed, i have been asked for. -/
structure FI (K i : Nat) (q : Rk) : Prop where
  n : q.n = 3
  k : q.k = 4
  dead : ∀ d, d < 3 → (q.s d).dead = false
  on : i ≤ K → q.off = false ∧ q.rem = (K : Int) - i
  off : K < i → q.off = true
theorem fi_start (K : Nat) : FI K 0 ((newRk 3 4).arm (K : Int)) := ⟨rfl, rfl, fun _ _ => rfl, fun _ => ⟨rfl, by show (K : Int) = K - (0 : Nat); omega⟩, fun h => absurd h (by omega)⟩
theorem turn_dead {q : Rk} {d : Nat} {t : St} (ht : t.dead = (q.s d).dead) (i : Nat) : ((q.turn d t).s i).dead = (q.s i).dead := by
  by_cases e : i = d
  · subst e; rw [turn_at, ht]
  · rw [turn_off q t e]
theorem FI.goes {K i d : Nat} {q : Rk} {t : St} (h : FI K i q) (hi : i < K) (ht : t.dead = (q.s d).dead) : FI K (i + 1) (q.spent.turn d t) := by
  obtain ⟨h1, h2⟩ := h.on (by omega)
  have hr : ¬ q.rem = 0 := by omega
  obtain ⟨e1, e2⟩ := spent_goes hr
  refine ⟨(spent_n q).trans h.n, (spent_k q).trans h.k, fun j hj => ?_, fun _ => ⟨e1.trans h1, ?_⟩, fun hh => absurd hh (by omega)⟩
  · rw [turn_dead (by rw [spent_s]; exact ht), spent_s]; exact h.dead j hj
  · show q.spent.rem = _
    rw [e2, if_pos (by omega), h2]; omega
theorem FI.last {K : Nat} {q : Rk} (h : FI K K q) : FI K (K + 1) q.spent := by
  obtain ⟨h1, h2⟩ := h.on (Nat.le_refl _)
  obtain ⟨e1, e2⟩ := spent_last (q := q) (by omega)
  exact ⟨(spent_n q).trans h.n, (spent_k q).trans h.k, fun j hj => by rw [spent_s]; exact h.dead j hj, fun hh => absurd hh (by omega), fun _ => e1⟩
theorem FI.wait {K i : Nat} {q : Rk} (h : FI K i q) (hi : K < i) : FI K (i + 1) q := ⟨h.n, h.k, h.dead, fun hh => absurd hh (by omega), fun _ => h.off hi⟩
theorem FI.write {K i d m : Nat} {q : Rk} {l : List UInt8} (h : FI K i q) (hd : d < 3) (hm : m < 4) (hl : l.length = 128) :
    q.wcode (d : Int) (m : Int) l.length = (if i < K then 0 else 5) ∧ FI K (i + 1) (q.write (d : Int) (m : Int) l) := by
  have hf : q.fits (m : Int) l.length := ⟨by omega, by rw [h.k]; omega, hl⟩
  by_cases hi : i < K
  · obtain ⟨h1, h2⟩ := h.on (by omega)
    obtain ⟨e1, e2⟩ := write_goes (l := l) (ready_ok (by rw [h.n]; exact hd) h1 (h.dead d hd)) hf (by omega)
    rw [e1, e2, if_pos hi]
    exact ⟨rfl, h.goes hi rfl⟩
  · rw [if_neg hi]
    by_cases hk : i = K
    · subst hk
      obtain ⟨h1, h2⟩ := h.on (Nat.le_refl _)
      obtain ⟨e1, e2⟩ := write_last (l := l) (ready_ok (by rw [h.n]; exact hd) h1 (h.dead d hd)) hf (by omega)
      rw [e1, e2]
      exact ⟨rfl, h.last⟩
    · have hr := ready_off (q := q) (i := d) (by rw [h.n]; exact hd) (h.off (by omega))
      obtain ⟨e1, e2⟩ := write_wait (q := q) (sec := (m : Int)) (l := l) (i := (d : Int)) (by rw [hr]; decide)
      rw [e1, e2, hr]
      exact ⟨rfl, h.wait (by omega)⟩
theorem FI.flush {K i d : Nat} {q : Rk} (h : FI K i q) (hd : d < 3) :
    q.fcode (d : Int) = (if i < K then 0 else 5) ∧ FI K (i + 1) (q.flush (d : Int)) := by
  by_cases hi : i < K
  · obtain ⟨h1, h2⟩ := h.on (by omega)
    obtain ⟨e1, e2⟩ := flush_goes (ready_ok (by rw [h.n]; exact hd) h1 (h.dead d hd)) (by omega)
    rw [e1, e2, if_pos hi]
    exact ⟨rfl, h.goes hi (St.stores_dead _ _)⟩
  · rw [if_neg hi]
    by_cases hk : i = K
    · subst hk
      obtain ⟨h1, h2⟩ := h.on (Nat.le_refl _)
      obtain ⟨e1, e2⟩ := flush_last (ready_ok (by rw [h.n]; exact hd) h1 (h.dead d hd)) (by omega)
      rw [e1, e2]
      exact ⟨rfl, h.last⟩
    · have hr := ready_off (q := q) (i := d) (by rw [h.n]; exact hd) (h.off (by omega))
      obtain ⟨e1, e2⟩ := flush_wait (q := q) (i := (d : Int)) (by rw [hr]; decide)
      rw [e1, e2, hr]
      exact ⟨rfl, h.wait (by omega)⟩
theorem ups_all {q : Rk} (h : ∀ d, d < q.n → (q.s d).dead = false) : (ups q).length = q.n := by
  unfold ups upsN
  rw [List.filter_eq_self.2 fun a ha => by rw [h a (List.mem_range.1 ha)]; rfl, List.length_range]
/-- Behind a boot all goes on. -/
theorem FI.boot {K i : Nat} {q : Rk} (h : FI K i q) (bits : Nat → Nat) : (q.boot bits).off = false ∧ (q.boot bits).fcode 0 = 0 ∧ (ups ((q.boot bits).flush 0)).length = 3 := by
  have hd : ∀ d, d < 3 → ((q.boot bits).s d).dead = false := fun d hd => by
    show (if d < q.n then (q.s d).crash (bits d) else q.s d).dead = false
    split
    · exact (St.stores_dead _ _).trans (h.dead d hd)
    · exact h.dead d hd
  have hn : (q.boot bits).n = 3 := h.n
  have hr := ready_ok (q := q.boot bits) (i := 0) (by rw [hn]; decide) rfl (hd 0 (by decide))
  obtain ⟨e1, e2⟩ := flush_goes hr (show ¬ (-1 : Int) = 0 by decide)
  refine ⟨rfl, e2, ?_⟩
  rw [show (0 : Int) = ((0 : Nat) : Int) from rfl, e1]
  have hn2 : ((q.boot bits).spent.turn (((0 : Nat) : Int)).toNat (((q.boot bits).s (((0 : Nat) : Int)).toNat).flush)).n = 3 := (spent_n _).trans hn
  rw [ups_all (fun d hlt => ?_), hn2]
  rw [turn_dead (by rw [spent_s]; exact St.stores_dead _ _), spent_s]
  exact hd d (by omega)
def RelF (K : Nat) (w0 : World) (c : Lc) (len : Nat) (ci : Value) (wr : World) : Prop := ∃ (m : Nat) (q : Rk), m ≤ len ∧ m ≤ 40 ∧ ci = .int .i64 m ∧ FI K m q ∧ QS w0 c q wr
theorem cmod {x : Int} : (x.tmod 2 == 0) = true ∨ (x.tmod 2 == 0) = false := by cases (x.tmod 2 == 0) <;> simp
set_option maxHeartbeats 8000000 in
set_option maxRecDepth 100000 in
theorem fuse_any (n : Int) (v0 : Value) (l : List Int) (w : World) (hT : Typ w) (hA : SlI w.heap.size w v0 l) : Calls Tryd.prog 4 #[.int .i64 n, v0] w (Bit true w) := by
  have HT := Lib.hid hT
  obtain ⟨a, cap, rfl⟩ := hA.len
  have HA := Lib.hid hA
  have HN := Lib.hid (show Calls Tryd.prog 7 #[.int .i64 3, .int .i64 4] w (QNew w 3 4) from qs_new 3 4 w (by omega) (by omega) (by omega) (by omega))
  clear hT hA
  go_enter Tryd.func4, Tryd.ntmps4
  go_wp2_with fail
  refine HN.out.mono ?_
  rintro e w1 ⟨c, rfl, h1⟩
  have H1 := Lib.hid h1
  clear h1
  go_wp2_with fail
  refine (within_int n 0 30 w1 (by omega) (by omega) (by omega)).mono ?_
  rintro e w' ⟨kk, ⟨hk1, hk2⟩, rfl, rfl⟩
  obtain ⟨K, rfl⟩ := Int.eq_ofNat_of_zero_le hk1
  have hK : K ≤ 30 := by omega
  have HAR := Lib.hid (H1.out.arm (K : Int) (by omega) (by omega))
  clear hk1 hk2
  go_wp2_with fail
  refine HAR.out.mono ?_
  rintro e w2 ⟨rfl, h2, _⟩
  have H2 := Lib.hid h2
  clear h2
  go_wp2_with fail
  go_loopw [8] (fun ci wr => RelF K w c l.length ci wr) (fun ci _ => l.length - (RowKit.intOf ci).toNat)
  case atStart => exact ⟨0, _, Nat.zero_le _, Nat.zero_le _, rfl, fi_start K, H2.out⟩
  case round =>
    obtain ⟨k, q, hk, hk40, rfl, hq, hqs⟩ := hrel
    have HQ := Lib.hid hq
    have HS := Lib.hid hqs
    clear hq hqs
    by_cases hlt : k < l.length
    · by_cases hlt40 : k < 40
      · have i1 : (k : Int) < l.length := by omega
        have i2 : (0 : Int) ≤ k := by omega
        have i3 : (k : Int) < 40 := by omega
        obtain ⟨b, o, cap', e, ca⟩ := HA.out.num (Nat.le_refl _) HS.out.base hlt
        injection e with e _ e2
        subst e e2
        generalize l.getD k 0 = x at *
        go_wp2_with fail
        refine (within_int x 0 2 wr (by omega) (by omega) (by omega)).mono ?_
        rintro e w' ⟨dd, ⟨hd1, hd2⟩, rfl, rfl⟩
        obtain ⟨d, rfl⟩ := Int.eq_ofNat_of_zero_le hd1
        have HD := Lib.hid (show d < 3 by omega)
        clear hd1 hd2
        by_cases hx : x.tmod 2 = 0
        · obtain ⟨f1, f2⟩ := HQ.out.flush HD.out
          have F2 := Lib.hid f2
          have HF := Lib.hid (HS.out.flush (d : Int))
          rw [f1] at HF
          clear f1 f2
          by_cases hKK : k < K
          · skip
            rw [if_pos hKK, evs_zero] at HF
            have j1 : (k : Int) < K := by omega
            go_wp2_with fail
            refine HF.out.mono ?_
            rintro e w4 ⟨rfl, h4, _⟩
            have H4 := Lib.hid h4
            have hoff : (q.flush (d : Int)).off = false := (F2.out.on (by omega)).1
            have HO := Lib.hid h4.off
            rw [hoff] at HO
            clear h4 hoff
            go_wp2_with (go_at_call 14; refine HO.out.mono ?_; rintro e w' ⟨rfl, rfl⟩)
            go_roundw
            case rel => exact ⟨k + 1, _, by omega, by omega, by go_num, F2.out, H4.out⟩
            case measure => simp [RowKit.intOf]; omega
          · skip
            rw [if_neg hKK, evs_some _ _ (by decide)] at HF
            unfold wrapV errV at HF
            have j1 : ¬ (k : Int) < K := by omega
            go_wp2_with fail
            refine HF.out.mono ?_
            rintro e w4 ⟨rfl, h4, _⟩
            have H4 := Lib.hid h4
            have hoff : (q.flush (d : Int)).off = true := F2.out.off (by omega)
            have HO := Lib.hid h4.off
            rw [hoff] at HO
            clear h4 hoff
            have CK := Lib.hid (kind_err [(opQFlush, (d : Int))] 5 w4 _ rfl (HT.out.below H4.out.base))
            unfold Num at CK
            have HO5 := Lib.hid (fun w' (hb : Below w4.heap.size w4 w') => show Calls Tryd.prog 14 #[.pointer (some ⟨c.r, 0, none⟩)] w' (BitSame true w') from by have := (H4.out.below hb).off; rwa [show (q.flush (d : Int)).off = true from F2.out.off (by omega)] at this)
            go_wp2_with (first
              | (go_at_call 17; refine CK.out.mono ?_; rintro e w5 ⟨rfl, hb5⟩)
              | (go_at_call 14; refine (HO5.out _ hb5).mono ?_; rintro e w' ⟨rfl, rfl⟩))
            go_roundw
            case rel => exact ⟨k + 1, _, by omega, by omega, by go_num, F2.out, (H4.out.below hb5)⟩
            case measure => simp [RowKit.intOf]; omega
        · have HV := Lib.hid (sector_any k (by omega) wr)
          go_wp2_with fail
          refine HV.out.mono ?_
          rintro e w3 ⟨v3, rfl, hv3, hb3⟩
          have H3 := Lib.hid (HS.out.below hb3)
          obtain ⟨f1, f2⟩ := HQ.out.write (m := k % 4) HD.out (Nat.mod_lt _ (by decide)) (secL_length k)
          have F2 := Lib.hid f2
          have HF := Lib.hid (H3.out.write (d : Int) ((k % 4 : Nat) : Int) v3 (secL k) hv3.slb)
          rw [f1] at HF
          have hc : Int.tmod (k : Int) 4 = ((k % 4 : Nat) : Int) := by rw [Int.tmod_eq_emod_of_nonneg (by omega)]; omega
          clear f1 f2 hv3 hb3
          by_cases hKK : k < K
          · skip
            rw [if_pos hKK, evs_zero] at HF
            have j1 : (k : Int) < K := by omega
            go_wp2_with fail
            refine HF.out.mono ?_
            rintro e w4 ⟨rfl, h4, _⟩
            have H4 := Lib.hid h4
            have hoff : (q.write (d : Int) ((k % 4 : Nat) : Int) (secL k)).off = false := (F2.out.on (by omega)).1
            have HO := Lib.hid h4.off
            rw [hoff] at HO
            clear h4 hoff
            go_wp2_with (go_at_call 14; refine HO.out.mono ?_; rintro e w' ⟨rfl, rfl⟩)
            go_roundw
            case rel => exact ⟨k + 1, _, by omega, by omega, by go_num, F2.out, H4.out⟩
            case measure => simp [RowKit.intOf]; omega
          · skip
            rw [if_neg hKK, evs_some _ _ (by decide)] at HF
            unfold wrapV errV at HF
            have j1 : ¬ (k : Int) < K := by omega
            go_wp2_with fail
            refine HF.out.mono ?_
            rintro e w4 ⟨rfl, h4, _⟩
            have H4 := Lib.hid h4
            have hoff : (q.write (d : Int) ((k % 4 : Nat) : Int) (secL k)).off = true := F2.out.off (by omega)
            have HO := Lib.hid h4.off
            rw [hoff] at HO
            clear h4 hoff
            have CK := Lib.hid (kind_err [(opQWrite, (d : Int))] 5 w4 _ rfl (HT.out.below H4.out.base))
            unfold Num at CK
            have HO5 := Lib.hid (fun w' (hb : Below w4.heap.size w4 w') => show Calls Tryd.prog 14 #[.pointer (some ⟨c.r, 0, none⟩)] w' (BitSame true w') from by have := (H4.out.below hb).off; rwa [show (q.write (d : Int) ((k % 4 : Nat) : Int) (secL k)).off = true from F2.out.off (by omega)] at this)
            go_wp2_with (first
              | (go_at_call 17; refine CK.out.mono ?_; rintro e w5 ⟨rfl, hb5⟩)
              | (go_at_call 14; refine (HO5.out _ hb5).mono ?_; rintro e w' ⟨rfl, rfl⟩))
            go_roundw
            case rel => exact ⟨k + 1, _, by omega, by omega, by go_num, F2.out, (H4.out.below hb5)⟩
            case measure => simp [RowKit.intOf]; omega
      · have i1 : (k : Int) < l.length := by omega
        have i2 : ¬ (k : Int) < 40 := by omega
        clear hlt
        obtain ⟨e1, e2, e3⟩ := HQ.out.boot (fun i => [].getD i 0)
        have HE3 := Lib.hid e3
        have HB := Lib.hid (HS.out.boot (.slice none 0 0) [] (Or.inl ⟨rfl, none, 0, rfl⟩) (fun x hx => absurd hx (by simp)))
        clear e3
        go_wp2_with fail
        refine HB.out.mono ?_
        rintro e w4 ⟨rfl, h4, _⟩
        have HO := Lib.hid h4.off
        rw [e1] at HO
        have HF := Lib.hid (h4.flush 0)
        rw [e2, evs_zero] at HF
        clear e1 e2 h4
        go_wp2_with (first
          | (go_at_call 14; refine HO.out.mono ?_; rintro e w' ⟨rfl, rfl⟩)
          | (go_at_call 13; refine HF.out.mono ?_; rintro e w5 ⟨rfl, h5, _⟩; have H5 := Lib.hid h5; have HON := Lib.hid (qonline_any w5 h5.rack); unfold NumsNew at HON; rw [HE3.out] at HON; clear h5)
          | (go_at_call 19; refine HON.out.mono ?_; rintro e w6 ⟨v6, rfl, ho6, hb6⟩; obtain ⟨g6, c6, rfl, _⟩ := own_slice ho6; have H6 := Lib.hid (H5.out.below hb6); have HRR := Lib.hid (rack_runs w6 (HT.out.below H6.out.base)); clear ho6 hb6)
          | (go_at_call 3; refine HRR.out.mono ?_; rintro e w7 ⟨rfl, hb7⟩))
        go_ret
        exact bit rfl (H6.out.below hb7).base
    · have i1 : ¬ (k : Int) < l.length := by omega
      have i2 : (0 : Int) ≤ k := by omega
      obtain ⟨e1, e2, e3⟩ := HQ.out.boot (fun i => [].getD i 0)
      have HE3 := Lib.hid e3
      have HB := Lib.hid (HS.out.boot (.slice none 0 0) [] (Or.inl ⟨rfl, none, 0, rfl⟩) (fun x hx => absurd hx (by simp)))
      clear e3
      go_wp2_with fail
      refine HB.out.mono ?_
      rintro e w4 ⟨rfl, h4, _⟩
      have HO := Lib.hid h4.off
      rw [e1] at HO
      have HF := Lib.hid (h4.flush 0)
      rw [e2, evs_zero] at HF
      clear e1 e2 h4
      go_wp2_with (first
        | (go_at_call 14; refine HO.out.mono ?_; rintro e w' ⟨rfl, rfl⟩)
        | (go_at_call 13; refine HF.out.mono ?_; rintro e w5 ⟨rfl, h5, _⟩; have H5 := Lib.hid h5; have HON := Lib.hid (qonline_any w5 h5.rack); unfold NumsNew at HON; rw [HE3.out] at HON; clear h5)
        | (go_at_call 19; refine HON.out.mono ?_; rintro e w6 ⟨v6, rfl, ho6, hb6⟩; obtain ⟨g6, c6, rfl, _⟩ := own_slice ho6; have H6 := Lib.hid (H5.out.below hb6); have HRR := Lib.hid (rack_runs w6 (HT.out.below H6.out.base)); clear ho6 hb6)
        | (go_at_call 3; refine HRR.out.mono ?_; rintro e w7 ⟨rfl, hb7⟩))
      go_ret
      exact bit rfl (H6.out.below hb7).base
end Go.Proofs.YtbokangpcjeofaaDoor
