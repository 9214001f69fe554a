/-
  Slices of numbers: read, compared, appended to.
-/
import Derived.Test.YtbokangpcjeofaaGreatDoorCTab
namespace Go.Proofs.YtbokangpcjeofaaGreatDoor
open Go.RowKit Go.Deep
def numsV (l : List Nat) : List Value := l.map fun (i : Nat) => Value.int .i64 (i : Int)
theorem numsV_at {l : List Nat} {i : Nat} (h : i < l.length) : (numsV l)[i]? = some (.int .i64 ((l.getD i 0 : Nat) : Int)) := by simp [numsV, List.getD, h]
/-- v is a slice of the numbers l, in blocks ahead of B. -/
def SlN (B : Nat) (w : World) (v : Value) (l : List Nat) : Prop :=
  (l = [] ∧ ∃ a cap, v = .slice a 0 cap) ∨ ∃ b cap, v = .slice (some ⟨b, 0, none⟩) l.length cap ∧ b < B ∧ ∀ x, x < l.length → w.cell? ⟨b, x, none⟩ = some (.int .i64 ((l.getD x 0 : Nat) : Int))
theorem SlN.len {B : Nat} {w : World} {v : Value} {l : List Nat} (h : SlN B w v l) : ∃ a cap, v = .slice a l.length cap := by
  rcases h with ⟨rfl, a, cap, h⟩ | ⟨b, cap, h1, _⟩
  · exact ⟨a, cap, h⟩
  · exact ⟨_, cap, h1⟩
theorem SlN.below {B : Nat} {w w' : World} {v : Value} {l : List Nat} (h : SlN B w v l) (hb : Below B w w') : SlN B w' v l := by
  rcases h with h | ⟨b, cap, h1, h2, h3⟩
  · exact Or.inl h
  · exact Or.inr ⟨b, cap, h1, h2, fun x hx => by rw [hb.cell (p := ⟨b, x, none⟩) h2]; exact h3 x hx⟩
theorem SlN.num {B : Nat} {w wr : World} {v : Value} {l : List Nat} (h : SlN B w v l) (hB : B ≤ w.heap.size) (hb : Below w.heap.size w wr) {k : Nat} (hk : k < l.length) :
    ∃ b cap, v = .slice (some ⟨b, 0, none⟩) l.length cap ∧ wr.cell? ⟨b, k, none⟩ = some (.int .i64 ((l.getD k 0 : Nat) : Int)) := by
  rcases h with ⟨rfl, _⟩ | ⟨b, cap, h1, h2, h3⟩
  · simp at hk
  · exact ⟨b, cap, h1, by rw [hb.cell (by show b < _; omega)]; exact h3 k hk⟩
theorem sln_own {B n : Nat} {w : World} {v : Value} {l : List Nat} (h : w.ownsRow B 3 1 v n (numsV l)) (hn : n = l.length) : SlN w.heap.size w v l := by
  subst hn
  have hh := h
  rcases hh.2 with ⟨rfl, h0⟩ | ⟨g, cap, cur, rfl, _, hg, hle, _⟩
  · exact Or.inl ⟨List.eq_nil_of_length_eq_zero h0, ⟨_, _, rfl⟩⟩
  · exact Or.inr ⟨g, cap, rfl, (Array.getElem?_eq_some_iff.1 hg).1, fun x hx => holds_own h x _ (numsV_at hx)⟩
theorem nums_eq_getD {l m : List Nat} (hl : l.length = m.length) (h : ∀ x, x < l.length → l.getD x 0 = m.getD x 0) : l = m := by
  refine List.ext_getElem hl fun i h1 h2 => ?_
  have := h i h1
  simpa [List.getD, h1, h2] using this
def RelSN (l m : List Nat) (w : World) (c : Value) (wr : World) : Prop := ∃ k : Nat, k ≤ l.length ∧ c = .int .i64 k ∧ (∀ x, x < k → l.getD x 0 = m.getD x 0) ∧ Below w.heap.size w wr
set_option maxHeartbeats 1000000 in
theorem same_nums (B : Nat) (va vb : Value) (l m : List Nat) (w : World) (ha : SlN B w va l) (hb : SlN B w vb m) (hB : B ≤ w.heap.size) (hl : l.length ≤ 100000) :
    Calls Tryz.prog 35 #[va, vb] w (Bit (decide (l = m)) w) := by
  have HA := Lib.hid ha
  have HM := Lib.hid hb
  by_cases hlen : l.length = m.length
  · obtain ⟨a1, cap1, rfl⟩ := ha.len
    obtain ⟨a2, cap2, rfl⟩ := hb.len
    have Hlen := Lib.hid hlen
    generalize hr : decide (l = m) = r
    have Hr := Lib.hid hr
    clear ha hb hr
    rw [← hlen]
    clear hlen
    go_enter Tryz.func35, Tryz.ntmps35
    go_wp2_with fail
    go_loopw [5] (fun c wr => RelSN l m w c wr) (fun c _ => l.length - (intOf c).toNat)
    case atStart => exact ⟨0, Nat.zero_le _, rfl, fun x hx => absurd hx (by omega), Below.refl _ _⟩
    case round =>
      obtain ⟨k, hk, rfl, hno, hB1⟩ := hrel
      have Hno := Lib.hid hno
      have HB1 := Lib.hid hB1
      by_cases hlt : k < l.length
      · obtain ⟨b, cap', h1, h2⟩ := HA.out.num hB hB1 hlt
        obtain ⟨b', cap'', h3, h4⟩ := HM.out.num hB hB1 (k := k) (by have := Hlen.out; omega)
        rw [← Hlen.out] at h3
        injection h1 with h1 h1' h1''
        injection h3 with h3 h3' h3''
        subst h1 h1'' h3 h3''
        clear h1' h3' hno hB1
        by_cases he : l.getD k 0 = m.getD k 0
        · have He := Lib.hid he
          rw [← he] at h4
          clear he
          generalize hx : l.getD k 0 = x at *
          have Hx := Lib.hid hx; clear hx
          go_wp2_with fail
          go_quiet (fail)
          go_wp2_with fail
          go_roundw
          case rel =>
            refine ⟨k + 1, by omega, by go_num, fun y hy => ?_, below_drewN HB1.out _⟩
            rcases Nat.lt_or_ge y k with h | h
            · exact Hno.out y h
            · obtain rfl : y = k := by omega
              rw [Hx.out]; exact He.out
          case measure => simp [intOf]; omega
        · have hne : ((l.getD k 0 : Nat) : Int) ≠ (m.getD k 0 : Nat) := fun e => he (by omega)
          have e1 : (((l.getD k 0 : Nat) : Int) == (m.getD k 0 : Nat)) = false := by simpa using hne
          have e2 : (((l.getD k 0 : Nat) : Int) != (m.getD k 0 : Nat)) = true := by simpa using hne
          have He := Lib.hid (show ¬ l = m from fun e => he (by rw [e]))
          clear he hne
          generalize l.getD k 0 = x at *
          generalize m.getD k 0 = y at *
          go_wp2_with fail
          go_quiet (fail)
          go_wp2_with fail
          go_ret
          exact bit (by rw [← Hr.out]; simpa using He.out) (below_drewN HB1.out _)
      · obtain rfl : k = l.length := by omega
        clear hno hB1
        go_wp2_with fail
        go_ret
        exact bit (by rw [← Hr.out, decide_eq_true (nums_eq_getD Hlen.out Hno.out)]) HB1.out
  · obtain ⟨a1, cap1, rfl⟩ := ha.len
    obtain ⟨a2, cap2, rfl⟩ := hb.len
    have e2 : ((l.length : Int) != m.length) = true := by simpa using (by omega : ¬ (l.length : Int) = m.length)
    have hne : decide (l = m) = false := decide_eq_false fun e => hlen (by rw [e])
    rw [hne]
    clear ha hb hlen hne HA HM
    go_enter Tryz.func35, Tryz.ntmps35
    go_wp2_with fail
    go_ret
    exact ⟨rfl, Below.refl _ _⟩
theorem info_int : (Tryz.prog.info? 3).map (fun i => (i.zero, i.size, i.bytes)) = some (some (.int .i64 0), 1, 8) := by kernel_rfl
set_option maxRecDepth 100000 in
theorem wpList_append_num (w : World) {ops : Array Oper} {rest : List Oper} {o : Oper} {a : Act} {Q : Exit → Act → World → Prop} (hgd : o.guard = none) (s x : Operand)
    (ho : o.op = .call { callee := .builtin .append, args := #[s, x], argTypes := #[59, 59] })
    (base : Nat) (v : Value) (n : Nat) (xs : List Value) (hsv : a.eval s = v) (hown : w.ownsRow base 3 1 v n xs)
    (b : Nat) (u : Value) (hx : a.eval x = .slice (some ⟨b, 0, none⟩) 1 1) (hb : w.cell? ⟨b, 0, none⟩ = some u) (hu : u.oneCell' = true) (h63 : n + 1 ≤ 100000) (hbase : base ≤ w.heap.size)
    (h : ∀ v' w', w'.ownsRow base 3 1 v' (n + 1) (xs ++ [u]) → Grew w v.ownBlock w' v'.ownBlock → wpList Tryz.prog ops Q rest (a.put o.dst v') w') : wpList Tryz.prog ops Q (o :: rest) a w := by
  obtain ⟨i0, hi0, hz⟩ := Option.map_eq_some_iff.1 info_int
  simp only [Prod.mk.injEq] at hz
  obtain ⟨hz0, hz1, hz2⟩ := hz
  have hsrc : Src Tryz.prog 1 59 (.slice (some ⟨b, 0, none⟩) 1 1) 1 [u] w := Src.ofSlice _ Tryz.underlying59 ⟨b, 0, none⟩ 1 1 [u] rfl (fun j y hy => by
    match j, hy with
    | 0, hy => injection hy with hy; subst hy; simpa [Addr.add] using hb
    | j + 1, hy => simp at hy) (fun y hy => by rw [List.mem_singleton.1 hy]; exact hu)
  exact wpList_append_src w hgd s x 59 59 ho base 3 i0 (.int .i64 0) 1 8 Tryz.underlying59 hi0 hz0 hz1 hz2 rfl v n xs hsv hown (.slice (some ⟨b, 0, none⟩) 1 1) 1 [u] hx hsrc (by unfold maxLen; omega) (by omega) hbase fun v' w' h1 h2 _ => h v' w' h1 h2
end Go.Proofs.YtbokangpcjeofaaGreatDoor
