/-
  The reference's disk: Read, keep.
-/
import Derived.Test.YtfhkccldgbgelaaDoorROps
namespace Go.Proofs.YtfhkccldgbgelaaDoor
open Go.RowKit Go.Deep Dk Go.Maps
theorem zero_slice (w : World) : (zeroValue 28).run Tryd.prog w = .ok (.slice none 0 0) w := Tryd.zeroValue28 w
theorem CacheIn.look {w : World} {C n i : Nat} {D : DataW Unit} {f : Nat → Option Sec} (h : CacheIn w C n D f) (hi : i < n) {v : Value} {ps : List MemPlace} (hv : slR v = some (D.atKey (kI i) .nil, ps)) :
    (f i = none ∧ Maps.has D (kI i) = false ∧ v = .slice none 0 0) ∨ ∃ l, f i = some l ∧ Maps.has D (kI i) = true ∧ ByteRow w v l := by
  cases hf : f i with
  | none =>
    have hh := h.miss i hi hf
    rw [Maps.atKey_of_not_has hh] at hv
    exact Or.inl ⟨rfl, hh, slR_inj hv slR_nil rfl⟩
  | some l =>
    obtain ⟨v', d, a1, a2, a3, a4⟩ := h.hit i l hi hf
    rw [a2] at hv
    have e : v = v' := slR_inj hv a1 rfl
    subst e
    exact Or.inr ⟨l, rfl, a3, a4⟩
theorem wpList_lookup_cache (w : World) {ops : Array Oper} {rest : List Oper} {o : Oper} {a : Act} {Q : Exit → Act → World → Prop} (hg : o.guard = none) (m x : Operand) (hop : o.op = Op.lookup 53 m x true)
    {C n i : Nat} {f : Nat → Option Sec} {D : DataW Unit} (hm : a.eval m = .map (some C)) (hx : a.eval x = .int .i64 (i : Int)) (hM : CacheIn w C n D f) (hi : i < n) (hn : n ≤ 128)
    (hK : ∀ v, ((f i = none ∧ v = .slice none 0 0) ∨ ∃ l, f i = some l ∧ ByteRow w v l) → wpList Tryd.prog ops Q rest (a.put o.dst (.tuple #[v, .bool (f i).isSome])) w) : wpList Tryd.prog ops Q (o :: rest) a w := by
  refine wpList_lookup_own_ok w hg m x 53 hop 3 28 keyed Tryd.underlying53 slR (zero_slice w) _ [] slR_nil C (Maps.size D) D hm hM.own _ (kI i) hx (key_kI (by omega)) fun v ps hv => ?_
  rcases hM.look hi hv with ⟨h1, h2, h3⟩ | ⟨l, h1, h2, h3⟩
  · rw [h2]
    have := hK v (Or.inl ⟨h1, h3⟩)
    rwa [h1] at this
  · rw [h2]
    have := hK v (Or.inr ⟨l, h1, h3⟩)
    rwa [h1] at this
def RReads (l : List UInt8) (w : World) (e : Ending) (w' : World) : Prop := ∃ v, e = .returned (.tuple #[v, .int .i64 0]) ∧ SlB w'.heap.size w' v l ∧ Below w.heap.size w w'
set_option maxHeartbeats 1000000 in
set_option maxRecDepth 100000 in
theorem rread_dead {r A C E : Nat} {s : St} (w : World) (h : RefIn w r A C E s) (hd : s.dead = true) (i : Int) : Calls Tryd.prog 30 #[.pointer (some ⟨r, 0, none⟩), .int .i64 i] w fun e w' => e = .returned (.tuple #[.slice none 0 0, .int .i64 5]) ∧ w = w' := by
  obtain ⟨capA, _, _, _, _, c3⟩ := h.cells
  rw [hd] at c3
  clear h hd
  go_enter Tryd.func30, Tryd.ntmps30
  go_wp2
  exact bodyPost_ret (v := .tuple #[.slice none 0 0, .int .i64 5]) (by simp [results, Tryd.results30, go_sem]) rfl ⟨rfl, rfl⟩
set_option maxHeartbeats 1000000 in
set_option maxRecDepth 100000 in
theorem rread_no {r A C E : Nat} {s : St} (w : World) (h : RefIn w r A C E s) (hd : s.dead = false) (i : Int) (hno : ¬ (0 ≤ i ∧ i < s.n)) : Calls Tryd.prog 30 #[.pointer (some ⟨r, 0, none⟩), .int .i64 i] w fun e w' => e = .returned (.tuple #[.slice none 0 0, .int .i64 1]) ∧ w = w' := by
  obtain ⟨capA, _, _, _, _, c3⟩ := h.cells
  rw [hd] at c3
  have HH := Lib.hid (rhas_any w h i)
  rw [decide_eq_false hno] at HH
  clear h hd hno
  go_enter Tryd.func30, Tryd.ntmps30
  go_wp2_with (go_at_call 43; refine HH.out.mono ?_; rintro e w' ⟨rfl, rfl⟩)
  exact bodyPost_ret (v := .tuple #[.slice none 0 0, .int .i64 1]) (by simp [results, Tryd.results30, go_sem]) rfl ⟨rfl, rfl⟩
set_option maxHeartbeats 2000000 in
set_option maxRecDepth 100000 in
theorem rread_yes {r A C E : Nat} {s : St} (w : World) (h : RefIn w r A C E s) (hd : s.dead = false) (i : Nat) (hi : i < s.n) :
    Calls Tryd.prog 30 #[.pointer (some ⟨r, 0, none⟩), .int .i64 (i : Int)] w (RReads (s.read i) w) := by
  obtain ⟨capA, hcap, c0, c1, _, c3⟩ := h.cells
  rw [hd] at c3
  have HH := Lib.hid (rhas_any w h i)
  rw [decide_eq_true (by omega)] at HH
  obtain ⟨D, hC⟩ := h.cache
  have HC := Lib.hid hC
  obtain ⟨vr, cr, hrow⟩ := h.row hi
  have HR := Lib.hid hrow
  have hn := h.ok.n
  have hlt := h.lt
  have HE := Lib.hid (show s.read i = (s.wt i).getD (s.st i) from rfl)
  have hlen : (s.read i).length = 128 := h.ok.read i
  have HLN := Lib.hid hlen
  generalize s.read i = rd at HE HLN ⊢
  have i1 : (i : Int) < s.n := by omega
  have i2 : (0 : Int) ≤ i := by omega
  clear h hd hC hrow hlen
  cases hw : s.wt i with
  | none =>
    have HW := Lib.hid hw
    have hE : rd = s.st i := by rw [HE.out, hw]; rfl
    have HE2 := Lib.hid hE
    clear hw hE
    obtain ⟨ga, cpa, rfl, _⟩ := HR.out.slb.len
    go_enter Tryd.func30, Tryd.ntmps30
    go_wp2_with (first
      | (go_at_call 43; refine HH.out.mono ?_; rintro e w' ⟨rfl, rfl⟩)
      | (at_lookup; refine wpList_lookup_cache _ rfl _ _ rfl rfl rfl HC.out hi (by omega) ?_; rw [HW.out]; intro v hv; have hv := (hv.resolve_right (by rintro ⟨_, h, _⟩; cases h)).2; subst hv)
      | (at_builtin; refine wpList_append_bytes (o := ⟨some 37, _, _, _, _, _⟩) _ rfl (.tmp 29) (.tmp 36) rfl w.heap.size _ _ _ rfl (own_new w w.heap.size #[] 5 1 0 (Nat.le_refl _) rfl (by decide)) w.heap.size _ (s.st i) rfl ?_ ?_ ?_ ?_; exact HR.out.slb.below (one_below _ _); (rw [← HE2.out, HLN.out]; omega); simp; intro v2 w2 hown2 hg2; have HX := Lib.hid (wrote_row (w := w) (by rw [← HE2.out]; exact HLN.out) (KB.alloc (KB.refl w) _) hown2 hg2); clear hown2 hg2))
    refine bodyPost_ret (v := .tuple #[v2, .int .i64 0]) (by simp [results, Tryd.results30, go_sem]) rfl ⟨v2, rfl, ?_, HX.out.2⟩
    rw [HE2.out]; exact HX.out.1.slb
  | some l =>
    have HW := Lib.hid hw
    have hE : rd = l := by rw [HE.out, hw]; rfl
    have HE2 := Lib.hid hE
    clear hw hE
    go_enter Tryd.func30, Tryd.ntmps30
    go_wp2_with (first
      | (go_at_call 43; refine HH.out.mono ?_; rintro e w' ⟨rfl, rfl⟩)
      | (at_lookup; refine wpList_lookup_cache _ rfl _ _ rfl rfl rfl HC.out hi (by omega) ?_; rw [HW.out]; intro v hv; have HV := Lib.hid (show ByteRow w v l by obtain ⟨l', h1, h2⟩ := hv.resolve_left (by rintro ⟨h, _⟩; cases h); cases h1; exact h2); clear hv; obtain ⟨ga, cpa, rfl, _⟩ := HV.out.slb.len)
      | (at_builtin; refine wpList_append_bytes (o := ⟨some 28, _, _, _, _, _⟩) _ rfl (.tmp 26) (.tmp 27) rfl w.heap.size _ _ _ rfl (own_new w w.heap.size #[] 5 1 0 (Nat.le_refl _) rfl (by decide)) w.heap.size _ (l) rfl ?_ ?_ ?_ ?_; exact HV.out.slb.below (one_below _ _); (rw [← HE2.out, HLN.out]; omega); simp; intro v2 w2 hown2 hg2; have HX := Lib.hid (wrote_row (w := w) (by rw [← HE2.out]; exact HLN.out) (KB.alloc (KB.refl w) _) hown2 hg2); clear hown2 hg2))
    refine bodyPost_ret (v := .tuple #[v2, .int .i64 0]) (by simp [results, Tryd.results30, go_sem]) rfl ⟨v2, rfl, ?_, HX.out.2⟩
    rw [HE2.out]; exact HX.out.1.slb
end Go.Proofs.YtfhkccldgbgelaaDoor
