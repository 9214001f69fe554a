/-
  (*rack.Rack).Boot.
-/
import Derived.Test.YtdcpgpgomnpefaaGreatDoorQSmall
namespace Go.Proofs.YtdcpgpgomnpefaaGreatDoor
open Go.RowKit Go.Deep Dk Qk Go.Maps
/-- v is a slice of 64-bit numbers, in blocks ahead of B. -/
def SlU (B : Nat) (w : World) (v : Value) (l : List Nat) : Prop :=
  (l = [] ∧ ∃ a cap, v = .slice a 0 cap) ∨ ∃ b o cap, v = .slice (some ⟨b, o, none⟩) l.length cap ∧ b < B ∧ 0 < l.length ∧ ∀ x, x < l.length → w.cell? ⟨b, o + x, none⟩ = some (.int .u64 ((l.getD x 0 : Nat) : Int))
theorem SlU.len {B : Nat} {w : World} {v : Value} {l : List Nat} (h : SlU B w v l) : ∃ a cap, v = .slice a l.length cap := by
  rcases h with ⟨rfl, a, cap, h⟩ | ⟨b, o, cap, h1, _⟩
  · exact ⟨a, cap, h⟩
  · exact ⟨_, cap, h1⟩
theorem SlU.below {B : Nat} {w w' : World} {v : Value} {l : List Nat} (h : SlU B w v l) (hb : Below B w w') : SlU B w' v l := by
  rcases h with h | ⟨b, o, cap, h1, h2, h0, h3⟩
  · exact Or.inl h
  · exact Or.inr ⟨b, o, cap, h1, h2, h0, fun x hx => by rw [hb.cell (p := ⟨b, o + x, none⟩) h2]; exact h3 x hx⟩
theorem SlU.wider {B B' : Nat} {w : World} {v : Value} {l : List Nat} (h : SlU B w v l) (hB : B ≤ B') : SlU B' w v l := by
  rcases h with h | ⟨b, o, cap, h1, h2, h3⟩
  · exact Or.inl h
  · exact Or.inr ⟨b, o, cap, h1, by omega, h3⟩
theorem map_nocell {w : World} {M i : Nat} {es : Array MapEntry} {k : Nat} (h : w.heap[M]? = some (.map es k)) : w.cell? ⟨M, i, none⟩ = none := by
  unfold World.cell?; rw [h]
theorem sec_cells {n : Nat} {st : Nat → Sec} {rot : Nat → Bool} {v : Value} (h : v ∈ secsV n st rot) (x : Int) : v ≠ .int .u64 x := by
  obtain ⟨i, _, hv⟩ := List.mem_flatMap.1 h
  rcases List.mem_append.1 hv with hv | hv
  · obtain ⟨c, _, rfl⟩ := List.mem_map.1 hv; intro e; cases e
  · rw [List.mem_singleton.1 hv]; intro e; cases e
/-- Numbers of 64 bits lie off a rack. -/
theorem RackIn.off64 {lo : Nat} {w : World} {c : Lc} {q : Rk} (h : RackIn lo w c q) {b o : Nat} {x : Int} (hc : w.cell? ⟨b, o, none⟩ = some (.int .u64 x)) : b ≠ c.r ∧ ∀ i, i < q.n → b ≠ c.d i ∧ b ≠ c.S i ∧ b ≠ c.M i := by
  refine ⟨fun e => ?_, fun i hi => ⟨fun e => ?_, fun e => ?_, fun e => ?_⟩⟩
  · subst e
    rw [cell_of_row w c.r o _ _ _ h.top] at hc
    match o with
    | 0 => cases hc
    | 1 => cases hc
    | 2 => cases hc
    | o + 3 => simp at hc
  · subst e
    rw [cell_of_row w _ o _ _ _ (h.disk i hi).top] at hc
    match o with
    | 0 => cases hc
    | 1 => cases hc
    | 2 => cases hc
    | o + 3 => simp at hc
  · subst e
    rw [cell_of_row w _ o _ _ _ (h.disk i hi).secs, List.getElem?_toArray] at hc
    exact sec_cells (List.mem_of_getElem? hc) x rfl
  · subst e
    obtain ⟨es, k, hm⟩ := (h.disk i hi).mapObj
    rw [map_nocell hm] at hc; cases hc
theorem SlU.rc {lo B : Nat} {w w' : World} {c : Lc} {q : Rk} {v : Value} {l : List Nat} (h : SlU B w v l) (hr : RackIn lo w c q) (hc : RC c q.n w w') (hB : B ≤ w.heap.size) : SlU B w' v l := by
  rcases h with h | ⟨b, o, cap, h1, h2, h0, h3⟩
  · exact Or.inl h
  · obtain ⟨e1, e2⟩ := hr.off64 (h3 0 h0)
    exact Or.inr ⟨b, o, cap, h1, h2, h0, fun x hx => (World.cell?_of_block (a := ⟨b, o + x, none⟩) (hc.block b (by omega) e1 e2)).trans (h3 x hx)⟩
theorem SlU.num {B : Nat} {w : World} {v : Value} {l : List Nat} (h : SlU B w v l) {k : Nat} (hk : k < l.length) : ∃ b o cap, v = .slice (some ⟨b, o, none⟩) l.length cap ∧ w.cell? ⟨b, o + k, none⟩ = some (.int .u64 ((l.getD k 0 : Nat) : Int)) := by
  rcases h with ⟨rfl, _⟩ | ⟨b, o, cap, h1, _, _, h3⟩
  · simp at hk
  · exact ⟨b, o, cap, h1, h3 k hk⟩
theorem crashed_zero (q : Rk) (bits : Nat → Nat) : q.crashed bits 0 = q := by
  unfold Rk.crashed
  have : (fun i => if i < 0 then (q.s i).crash (bits i) else q.s i) = q.s := by funext i; rw [if_neg (by omega)]
  rw [this]
theorem crashed_succ (q : Rk) (bits : Nat → Nat) (m : Nat) : q.crashed bits (m + 1) = (q.crashed bits m).turn m (((q.crashed bits m).s m).crash (bits m)) := by
  unfold Rk.crashed Rk.turn
  have : (fun i => if i < m + 1 then (q.s i).crash (bits i) else q.s i) = upd (fun i => if i < m then (q.s i).crash (bits i) else q.s i) m ((if m < m then (q.s m).crash (bits m) else q.s m).crash (bits m)) := by
    funext i
    by_cases e : i = m
    · subst e; rw [upd_same, if_pos (by omega), if_neg (by omega)]
    · rw [upd_other _ _ e]
      by_cases h : i < m
      · rw [if_pos h, if_pos (by omega)]
      · rw [if_neg h, if_neg (by omega)]
  rw [this]
theorem crash_nn (s : St) (bits : Nat) : (s.crash bits).n = s.n := St.stores_n _ _
def RelQB (lo : Nat) (c : Lc) (q : Rk) (bits : Nat → Nat) (w0 : World) (i : Value) (wr : World) : Prop :=
  ∃ m : Nat, m ≤ q.n ∧ i = .int .i64 m ∧ RackIn lo wr c (q.crashed bits m) ∧ RC c q.n w0 wr
set_option maxHeartbeats 2000000 in
set_option maxRecDepth 100000 in
theorem qboot_any {lo B : Nat} {c : Lc} {q : Rk} (w : World) (h : RackIn lo w c q) (v : Value) (l : List Nat) (hv : SlU B w v l) (hB : B ≤ w.heap.size) (hl : ∀ x, x < l.length → l.getD x 0 < 18446744073709551616) :
    Calls Tryz.prog 38 #[.pointer (some ⟨c.r, 0, none⟩), v] w (NextR lo c q.n (q.boot fun i => l.getD i 0) (.tuple #[]) w) := by
  have c0 := h.c0
  have hn8 := h.ok.n8
  have HQ := Lib.hid h
  have HV := Lib.hid hv
  have HL := Lib.hid hl
  obtain ⟨a, cap, rfl⟩ := hv.len
  clear h hv hl
  go_enter Tryz.func38, Tryz.ntmps38
  go_wp2_with fail
  go_loopw [12] (fun i wr => RelQB lo c q (fun i => l.getD i 0) w i wr) (fun i _ => q.n - (intOf i).toNat)
  case atStart => exact ⟨0, Nat.zero_le _, rfl, by rw [crashed_zero]; exact HQ.out, RC.refl _ _ _⟩
  case round =>
    obtain ⟨m, hm, rfl, hR, hC⟩ := hrel
    have HR := Lib.hid hR
    have HC := Lib.hid hC
    have c1 := hR.c1
    have c2 := hR.c2
    have f1 := hR.fz 1
    have f2 := hR.fz 2
    by_cases hlt : m < q.n
    · have ca := hR.at_ hlt
      clear hR hC c1 c2 f1 f2
      have i1 : (m : Int) < q.n := by omega
      have i2 : (0 : Int) ≤ m := by omega
      have crash : ∀ x : Nat, x < 18446744073709551616 → x = l.getD m 0 → Calls Tryz.prog 86 #[.pointer (some ⟨c.d m, 0, none⟩), .int .u64 (x : Int)] wr (fun e w' => e = .returned (.tuple #[]) ∧ RelQB lo c q (fun i => l.getD i 0) w (.int .i64 ((m : Int) + 1)) w') := fun x hx hxe => by
        refine (crash_any wr (HR.out.disk m hlt) x hx).mono ?_
        rintro e w' ⟨rfl, hD, hG⟩
        refine ⟨rfl, m + 1, by omega, by go_num, ?_, HC.out.trans (RC.of_chg hG hlt)⟩
        rw [crashed_succ]
        subst hxe
        exact HR.out.turned hlt ((crash_nn _ _).trans (HR.out.ok.k m hlt)) hD hG
      have HCR := Lib.hid crash
      clear crash
      by_cases hb : m < l.length
      · have hb' : (m : Int) < l.length := by omega
        obtain ⟨b, o, cap', e, cb⟩ := (HV.out.rc HQ.out HC.out hB).num hb
        injection e with e _ e2
        subst e e2
        have HX := Lib.hid (HCR.out (l.getD m 0) (HL.out m hb) rfl)
        generalize l.getD m 0 = x at *
        go_wp2_with (go_at_call 86; refine HX.out.mono ?_; rintro e w2 ⟨rfl, hrel⟩)
        go_roundw
        case rel => exact hrel
        case measure => simp [intOf]; omega
      · have HX := Lib.hid (HCR.out 0 (by omega) (by simp [List.getD]; rw [List.getElem?_eq_none (by omega)]; rfl))
        go_wp2_with (go_at_call 86; refine HX.out.mono ?_; rintro e w2 ⟨rfl, hrel⟩)
        go_roundw
        case rel => exact hrel
        case measure => simp [intOf]; omega
    · obtain rfl : m = q.n := by omega
      have H1 := Lib.hid (hR.setOff false)
      have H2 := Lib.hid ((hR.setOff false).setRem (-1) (by omega) (by omega))
      have d2 := H1.out.c2
      have g2 := H1.out.fz 2
      clear hR hC
      go_wp2
      go_end0
      exact ⟨rfl, H2.out, (HC.out.trans (RC.set _ _ _ _ _)).trans (RC.set _ _ _ _ _)⟩
end Go.Proofs.YtdcpgpgomnpefaaGreatDoor
