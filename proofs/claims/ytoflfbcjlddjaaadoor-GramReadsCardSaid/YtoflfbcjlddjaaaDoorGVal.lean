/-
  gram's reader: a value.
-/
import Derived.Test.YtoflfbcjlddjaaaDoorGText
namespace Go.Proofs.YtoflfbcjlddjaaaDoor
open Go.RowKit

/-- A value that was read: its texts in a row of the call's own, from block B on. -/
def ValV (B : Nat) (w : World) (x : Vl) (v : Value) : Prop := ∃ lv, v = .agg #[.int .i64 x.n, .string x.s, lv] ∧ TextsV B w x.l lv
def zeroV : Value := .agg #[.int .i64 0, .string ⟨#[]⟩, .slice none 0 0]
theorem textsV_nil (B : Nat) (w : World) : TextsV B w [] (.slice none 0 0) := World.ownsRow_nil _ _ _ _
theorem own_setCell {w : World} {B e size n : Nat} {v : Value} {xs : List Value} (h : w.ownsRow B e size v n xs) {a : Addr} (hB : a.block < B) (u : Value) : (w.setCell a u).ownsRow B e size v n xs := by
  obtain ⟨h1, h2⟩ := h
  refine ⟨h1, ?_⟩
  rcases h2 with h2 | ⟨g, cap, cur, hv, hg, hh, r⟩
  · exact Or.inl h2
  · exact Or.inr ⟨g, cap, cur, hv, hg, by rw [heap_setCell_other w a g u (by omega)]; exact hh, r⟩
theorem Rd.setCell {rb : Nat} {bv : Value} {a : Nat} {w : World} (h : Rd rb bv a w) {p : Addr} (hp : p.block ≠ rb) (u : Value) : Rd rb bv a (w.setCell p u) := by
  have n0 : p ≠ ⟨rb, 0, none⟩ := fun e => hp (by rw [e])
  have n1 : p ≠ ⟨rb, 1, none⟩ := fun e => hp (by rw [e])
  exact ⟨by rw [World.cell?_setCell_other (h := n0)]; exact h.c0, by rw [World.cell?_setCell_other (h := n1)]; exact h.c1, by rw [World.frozen?_setCell]; exact h.f1⟩

theorem read1 {w1 : World} {n : Nat} {o : Value} (h : w1.cell? ⟨n, 1, none⟩ = some o) (u x v : Value) : (((w1.setCell ⟨n, 1, none⟩ u).setCell ⟨n, 0, none⟩ x).setCell ⟨n, 1, none⟩ v).cell? ⟨n, 1, none⟩ = some v := by
  have n1 : (⟨n, 0, none⟩ : Addr) ≠ ⟨n, 1, none⟩ := by simp
  exact World.cell?_setCell_same _ _ _ (by rw [World.cell?_setCell_other (h := n1)]; exact World.cell?_setCell_same _ _ _ h)
theorem read2 {w1 : World} {n : Nat} {o : Value} (h : w1.cell? ⟨n, 2, none⟩ = some o) (u x y v : Value) : ((((w1.setCell ⟨n, 2, none⟩ u).setCell ⟨n, 0, none⟩ x).setCell ⟨n, 1, none⟩ y).setCell ⟨n, 2, none⟩ v).cell? ⟨n, 2, none⟩ = some v := by
  have n1 : (⟨n, 0, none⟩ : Addr) ≠ ⟨n, 2, none⟩ := by simp
  have n2 : (⟨n, 1, none⟩ : Addr) ≠ ⟨n, 2, none⟩ := by simp
  exact World.cell?_setCell_same _ _ _ (by rw [World.cell?_setCell_other (h := n2), World.cell?_setCell_other (h := n1)]; exact World.cell?_setCell_same _ _ _ h)
theorem grew4 {w w1 : World} {r : Option Nat} (h : Grew w r w1 r) (i : Nat) (a b c d : Value) :
    Grew w r ((((w1.setCell ⟨w.heap.size + 1, i, none⟩ a).setCell ⟨w.heap.size + 1, 0, none⟩ b).setCell ⟨w.heap.size + 1, 1, none⟩ c).setCell ⟨w.heap.size + 1, 2, none⟩ d) r :=
  (((h.setCell (Nat.le_succ _) _).setCell (Nat.le_succ _) _).setCell (Nat.le_succ _) _).setCell (Nat.le_succ _) _
theorem rd4 {w1 : World} {rb n : Nat} {bv : Value} {at_ : Nat} (h : Rd rb bv at_ w1) (hn : rb < n) (i : Nat) (a b c d : Value) :
    Rd rb bv at_ ((((w1.setCell ⟨n + 1, i, none⟩ a).setCell ⟨n + 1, 0, none⟩ b).setCell ⟨n + 1, 1, none⟩ c).setCell ⟨n + 1, 2, none⟩ d) :=
  (((h.setCell (by show n + 1 ≠ rb; omega) _).setCell (by show n + 1 ≠ rb; omega) _).setCell (by show n + 1 ≠ rb; omega) _).setCell (by show n + 1 ≠ rb; omega) _
theorem own4 {w1 : World} {n : Nat} {v : Value} {l : List ByteArray} (h : TextsV (n + 1 + 1) w1 l v) (i : Nat) (a b c d : Value) :
    TextsV n ((((w1.setCell ⟨n + 1, i, none⟩ a).setCell ⟨n + 1, 0, none⟩ b).setCell ⟨n + 1, 1, none⟩ c).setCell ⟨n + 1, 2, none⟩ d) l v :=
  own_base (own_setCell (own_setCell (own_setCell (own_setCell h (Nat.lt_succ_self _) _) (Nat.lt_succ_self _) _) (Nat.lt_succ_self _) _) (Nat.lt_succ_self _) _) (by omega)

set_option maxHeartbeats 2000000 in
set_option maxRecDepth 100000 in
theorem value_num (B rb at_ size : Nat) (k lo hi mo : Int) (bv : Value) (bs : List UInt8) (w : World) (hk : k = 1) (hr : Rd rb bv at_ w) (hb : SlB B w bv bs) (hB : B ≤ rb) (hl : bs.length ≤ 100000) (hat : at_ ≤ bs.length)
    (h1 : 1 ≤ size) (h8 : size ≤ 8) (hlo : 0 ≤ lo) (hlh : lo ≤ hi) (hhi : hi ≤ 9223372036854775807) :
    Calls Tryd.prog 32 #[.pointer (some ⟨rb, 0, none⟩), .agg #[.int .i64 k, .int .i64 size, .int .i64 lo, .int .i64 hi, .int .i64 mo]] w (Read (ValV w.heap.size) zeroV rb bv (valG ⟨k, size, lo, hi, mo⟩ bs at_) w) := by
  subst hk
  have hrl := hr.lt
  have hn := Lib.hid (fun o1 o2 => number_any B rb at_ size lo hi bv bs ((w.alloc o1).alloc o2) (hr.below (balloc (one_below _ _) _)) (hb.below ((balloc (one_below w o1) o2).mono (by omega))) hB hl hat h1 h8 hlo hlh hhi)
  have hG : valG ⟨1, size, lo, hi, mo⟩ bs at_ = match numG size lo hi bs at_ with
    | .bad k => .bad k
    | .good n a => .good ⟨n, ByteArray.empty, []⟩ a := by unfold valG; rfl
  rw [hG]
  clear hr hb hG
  cases hN : numG size lo hi bs at_ with
  | bad k =>
    rw [hN] at hn
    clear hN
    go_enter Tryd.func32, Tryd.ntmps32
    go_wp2_with fail
    refine (hn.out _ _).mono ?_
    rintro e w1 ⟨rfl, hg⟩
    have Hg := Lib.hid ((((Grew.refl w (some rb)).alloc _).alloc _).trans hg)
    have c0 := (hg.cell (a := ⟨w.heap.size + 1, 0, none⟩) (by simp) (by simp; omega))
    have c1 := (hg.cell (a := ⟨w.heap.size + 1, 1, none⟩) (by simp) (by simp; omega))
    have c2 := (hg.cell (a := ⟨w.heap.size + 1, 2, none⟩) (by simp) (by simp; omega))
    have f0 : ∀ i, w1.frozen? ⟨w.heap.size + 1, i, none⟩ = false := fun i => by rw [hg.frozen (a := ⟨w.heap.size + 1, i, none⟩) (by simp) (by simp; omega)]; simp
    simp at c0 c1 c2
    clear hg
    unfold errV
    go_wp2_with fail
    refine bodyPost_ret (v := .tuple #[.agg #[.int .i64 0, .string ⟨#[]⟩, .slice none 0 0], .iface 40 (.int .i64 k)]) (by simp [results, Tryd.results32, go_sem, c0, c1, c2]) rfl ⟨rfl, ?_⟩
    exact grew4 Hg.out _ _ _ _ _
  | good n a =>
    rw [hN] at hn
    clear hN
    go_enter Tryd.func32, Tryd.ntmps32
    go_wp2_with fail
    refine (hn.out _ _).mono ?_
    rintro e w1 ⟨v, rfl, rfl, hrd, hg⟩
    have Hg := Lib.hid ((((Grew.refl w (some rb)).alloc _).alloc _).trans hg)
    have Hrd := Lib.hid hrd
    have c0 := (hg.cell (a := ⟨w.heap.size + 1, 0, none⟩) (by simp) (by simp; omega))
    have c1 := (hg.cell (a := ⟨w.heap.size + 1, 1, none⟩) (by simp) (by simp; omega))
    have c2 := (hg.cell (a := ⟨w.heap.size + 1, 2, none⟩) (by simp) (by simp; omega))
    have f0 : ∀ i, w1.frozen? ⟨w.heap.size + 1, i, none⟩ = false := fun i => by rw [hg.frozen (a := ⟨w.heap.size + 1, i, none⟩) (by simp) (by simp; omega)]; simp
    simp at c0 c1 c2
    have s2 : ∀ u v, ((w1.setCell ⟨w.heap.size + 1, 0, none⟩ u).setCell ⟨w.heap.size + 1, 0, none⟩ v).cell? ⟨w.heap.size + 1, 0, none⟩ = some v := fun u v => World.cell?_setCell_same _ _ _ (World.cell?_setCell_same _ _ _ c0)
    clear hg hrd
    go_wp2_with fail
    refine bodyPost_ret (v := .tuple #[.agg #[.int .i64 n, .string ⟨#[]⟩, .slice none 0 0], .nilIface]) (by simp [results, Tryd.results32, go_sem, c1, c2, s2]) rfl ⟨_, rfl, ⟨_, rfl, ?_⟩, rd4 Hrd.out hrl _ _ _ _ _, grew4 Hg.out _ _ _ _ _⟩
    exact textsV_nil _ _
set_option maxHeartbeats 2000000 in
set_option maxRecDepth 100000 in
theorem value_text (B rb at_  : Nat) (k sz lo hi mo : Int) (bv : Value) (bs : List UInt8) (w : World) (hk : k = 2) (hr : Rd rb bv at_ w) (hb : SlB B w bv bs) (hB : B ≤ rb) (hl : bs.length ≤ 100000) (hat : at_ ≤ bs.length)
    (hlo : 0 ≤ lo) (hlh : lo ≤ hi) (hhi : hi ≤ 65535) :
    Calls Tryd.prog 32 #[.pointer (some ⟨rb, 0, none⟩), .agg #[.int .i64 k, .int .i64 sz, .int .i64 lo, .int .i64 hi, .int .i64 mo]] w (Read (ValV w.heap.size) zeroV rb bv (valG ⟨k, sz, lo, hi, mo⟩ bs at_) w) := by
  subst hk
  have hrl := hr.lt
  have hn := Lib.hid (fun o1 o2 => text_any B rb at_ lo hi bv bs ((w.alloc o1).alloc o2) (hr.below (balloc (one_below _ _) _)) (hb.below ((balloc (one_below w o1) o2).mono (by omega))) hB hl hat hlo hlh hhi)
  have hG : valG ⟨2, sz, lo, hi, mo⟩ bs at_ = match textG lo hi bs at_ with
    | .bad k => .bad k
    | .good n a => .good ⟨0, n, []⟩ a := by unfold valG; rfl
  rw [hG]
  clear hr hb hG
  cases hN : textG lo hi bs at_ with
  | bad k =>
    rw [hN] at hn
    clear hN
    go_enter Tryd.func32, Tryd.ntmps32
    go_wp2_with fail
    refine (hn.out _ _).mono ?_
    rintro e w1 ⟨rfl, hg⟩
    have Hg := Lib.hid ((((Grew.refl w (some rb)).alloc _).alloc _).trans hg)
    have c0 := (hg.cell (a := ⟨w.heap.size + 1, 0, none⟩) (by simp) (by simp; omega))
    have c1 := (hg.cell (a := ⟨w.heap.size + 1, 1, none⟩) (by simp) (by simp; omega))
    have c2 := (hg.cell (a := ⟨w.heap.size + 1, 2, none⟩) (by simp) (by simp; omega))
    have f0 : ∀ i, w1.frozen? ⟨w.heap.size + 1, i, none⟩ = false := fun i => by rw [hg.frozen (a := ⟨w.heap.size + 1, i, none⟩) (by simp) (by simp; omega)]; simp
    simp at c0 c1 c2
    clear hg
    unfold errV
    go_wp2_with fail
    refine bodyPost_ret (v := .tuple #[.agg #[.int .i64 0, .string ⟨#[]⟩, .slice none 0 0], .iface 40 (.int .i64 k)]) (by simp [results, Tryd.results32, go_sem, c0, c1, c2]) rfl ⟨rfl, ?_⟩
    exact grew4 Hg.out _ _ _ _ _
  | good n a =>
    rw [hN] at hn
    clear hN
    go_enter Tryd.func32, Tryd.ntmps32
    go_wp2_with fail
    refine (hn.out _ _).mono ?_
    rintro e w1 ⟨v, rfl, rfl, hrd, hg⟩
    have Hg := Lib.hid ((((Grew.refl w (some rb)).alloc _).alloc _).trans hg)
    have Hrd := Lib.hid hrd
    have c0 := (hg.cell (a := ⟨w.heap.size + 1, 0, none⟩) (by simp) (by simp; omega))
    have c1 := (hg.cell (a := ⟨w.heap.size + 1, 1, none⟩) (by simp) (by simp; omega))
    have c2 := (hg.cell (a := ⟨w.heap.size + 1, 2, none⟩) (by simp) (by simp; omega))
    have f0 : ∀ i, w1.frozen? ⟨w.heap.size + 1, i, none⟩ = false := fun i => by rw [hg.frozen (a := ⟨w.heap.size + 1, i, none⟩) (by simp) (by simp; omega)]; simp
    simp at c0 c1 c2
    have s2 := read1 c1
    clear hg hrd
    go_wp2_with fail
    refine bodyPost_ret (v := .tuple #[.agg #[.int .i64 0, .string n, .slice none 0 0], .nilIface]) (by simp [results, Tryd.results32, go_sem, c0, c2, s2]) rfl ⟨_, rfl, ⟨_, rfl, ?_⟩, rd4 Hrd.out hrl _ _ _ _ _, grew4 Hg.out _ _ _ _ _⟩
    exact textsV_nil _ _
theorem own_sl {w : World} {B e size n : Nat} {v : Value} {xs : List Value} (h : w.ownsRow B e size v n xs) : ∃ a cap, v = .slice a n cap := by
  rcases h.2 with ⟨rfl, rfl⟩ | ⟨g, cap, cur, rfl, _⟩
  · exact ⟨_, _, rfl⟩
  · exact ⟨_, _, rfl⟩
set_option maxHeartbeats 2000000 in
set_option maxRecDepth 100000 in
theorem value_texts (B rb at_  : Nat) (k sz lo hi mo : Int) (bv : Value) (bs : List UInt8) (w : World) (hk : k = 3) (hr : Rd rb bv at_ w) (hb : SlB B w bv bs) (hB : B ≤ rb) (hl : bs.length ≤ 100000) (hat : at_ ≤ bs.length)
    (hlo : 0 ≤ lo) (hlh : lo ≤ hi) (hhi : hi ≤ 255) (hm0 : 0 ≤ mo) (hm1 : mo ≤ 65535) :
    Calls Tryd.prog 32 #[.pointer (some ⟨rb, 0, none⟩), .agg #[.int .i64 k, .int .i64 sz, .int .i64 lo, .int .i64 hi, .int .i64 mo]] w (Read (ValV w.heap.size) zeroV rb bv (valG ⟨k, sz, lo, hi, mo⟩ bs at_) w) := by
  subst hk
  have hrl := hr.lt
  have hn := Lib.hid (fun o1 o2 => (fun bs w => texts_any B rb at_ 3 sz lo hi mo bv bs w) bs ((w.alloc o1).alloc o2) (hr.below (balloc (one_below _ _) _)) (hb.below ((balloc (one_below w o1) o2).mono (by omega))) hB hl hat hlo hlh hhi hm0 hm1)
  have hG : valG ⟨3, sz, lo, hi, mo⟩ bs at_ = match textsG lo hi mo bs at_ with
    | .bad k => .bad k
    | .good n a => .good ⟨0, ByteArray.empty, n⟩ a := by unfold valG; rfl
  rw [hG]
  clear hr hb hG
  cases hN : textsG lo hi mo bs at_ with
  | bad k =>
    rw [hN] at hn
    clear hN
    go_enter Tryd.func32, Tryd.ntmps32
    go_wp2_with fail
    refine (hn.out _ _).mono ?_
    rintro e w1 ⟨rfl, hg⟩
    have Hg := Lib.hid ((((Grew.refl w (some rb)).alloc _).alloc _).trans hg)
    have c0 := (hg.cell (a := ⟨w.heap.size + 1, 0, none⟩) (by simp) (by simp; omega))
    have c1 := (hg.cell (a := ⟨w.heap.size + 1, 1, none⟩) (by simp) (by simp; omega))
    have c2 := (hg.cell (a := ⟨w.heap.size + 1, 2, none⟩) (by simp) (by simp; omega))
    have f0 : ∀ i, w1.frozen? ⟨w.heap.size + 1, i, none⟩ = false := fun i => by rw [hg.frozen (a := ⟨w.heap.size + 1, i, none⟩) (by simp) (by simp; omega)]; simp
    simp at c0 c1 c2
    clear hg
    unfold errV
    go_wp2_with fail
    refine bodyPost_ret (v := .tuple #[.agg #[.int .i64 0, .string ⟨#[]⟩, .slice none 0 0], .iface 40 (.int .i64 k)]) (by simp [results, Tryd.results32, go_sem, c0, c1, c2]) rfl ⟨rfl, ?_⟩
    exact grew4 Hg.out _ _ _ _ _
  | good n a =>
    rw [hN] at hn
    clear hN
    go_enter Tryd.func32, Tryd.ntmps32
    go_wp2_with fail
    refine (hn.out _ _).mono ?_
    rintro e w1 ⟨v, rfl, htv, hrd, hg⟩
    have Hg := Lib.hid ((((Grew.refl w (some rb)).alloc _).alloc _).trans hg)
    have Hrd := Lib.hid hrd
    have c0 := (hg.cell (a := ⟨w.heap.size + 1, 0, none⟩) (by simp) (by simp; omega))
    have c1 := (hg.cell (a := ⟨w.heap.size + 1, 1, none⟩) (by simp) (by simp; omega))
    have c2 := (hg.cell (a := ⟨w.heap.size + 1, 2, none⟩) (by simp) (by simp; omega))
    have f0 : ∀ i, w1.frozen? ⟨w.heap.size + 1, i, none⟩ = false := fun i => by rw [hg.frozen (a := ⟨w.heap.size + 1, i, none⟩) (by simp) (by simp; omega)]; simp
    simp at c0 c1 c2
    have s2 := read2 c2
    have Htv := Lib.hid htv
    obtain ⟨sa, scap, rfl⟩ := own_sl htv
    clear hg hrd htv
    go_wp2_with fail
    refine bodyPost_ret (v := .tuple #[.agg #[.int .i64 0, .string ⟨#[]⟩, .slice sa n.length scap], .nilIface]) (by simp [results, Tryd.results32, go_sem, c0, c1, s2]) rfl ⟨_, rfl, ⟨_, rfl, ?_⟩, rd4 Hrd.out hrl _ _ _ _ _, grew4 Hg.out _ _ _ _ _⟩
    exact own4 (by simpa using Htv.out) _ _ _ _ _
theorem value_any (B rb at_ : Nat) (f : Fl) (bv : Value) (bs : List UInt8) (w : World) (hf : rightF f = true) (hr : Rd rb bv at_ w) (hb : SlB B w bv bs) (hB : B ≤ rb) (hl : bs.length ≤ 100000) (hat : at_ ≤ bs.length) (hhi : f.hi ≤ 9223372036854775807) :
    Calls Tryd.prog 32 #[.pointer (some ⟨rb, 0, none⟩), .agg #[.int .i64 f.k, .int .i64 f.sz, .int .i64 f.lo, .int .i64 f.hi, .int .i64 f.mo]] w (Read (ValV w.heap.size) zeroV rb bv (valG f bs at_) w) := by
  have hh := hf
  simp only [rightF, decide_eq_true_eq] at hh
  rcases right_kind hf with h | h | h
  · obtain ⟨s, h1, h2, h3⟩ := right_size hf h
    have := value_num B rb at_ s f.k f.lo f.hi f.mo bv bs w h hr hb hB hl hat h3 h2 (by omega) (by omega) hhi
    rw [← h1] at this
    exact this
  · exact value_text B rb at_ f.k f.sz f.lo f.hi f.mo bv bs w h hr hb hB hl hat (by omega) (by omega) (by omega)
  · exact value_texts B rb at_ f.k f.sz f.lo f.hi f.mo bv bs w h hr hb hB hl hat (by omega) (by omega) (by omega) (by omega) (by omega)
end Go.Proofs.YtoflfbcjlddjaaaDoor
