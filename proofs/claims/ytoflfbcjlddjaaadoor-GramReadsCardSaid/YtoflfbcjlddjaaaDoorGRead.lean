/-
  gram's reader: take, number, text, texts, value.
-/
import Derived.Test.YtoflfbcjlddjaaaDoorGGetM
import Derived.Test.YtoflfbcjlddjaaaDoorGPut
import Derived.Test.YtoflfbcjlddjaaaDoorOr
namespace Go.Proofs.YtoflfbcjlddjaaaDoor
open Go.RowKit

/-- The reader at block rb stands ahead of byte at_ of the slice bv. -/
structure Rd (rb : Nat) (bv : Value) (at_ : Nat) (w : World) : Prop where
  c0 : w.cell? ⟨rb, 0, none⟩ = some bv
  c1 : w.cell? ⟨rb, 1, none⟩ = some (.int .i64 at_)
  f1 : w.frozen? ⟨rb, 1, none⟩ = false
theorem Rd.lt {rb : Nat} {bv : Value} {a : Nat} {w : World} (h : Rd rb bv a w) : rb < w.heap.size := World.block_lt_of_cell? w ⟨rb, 0, none⟩ h.c0
theorem Rd.below {rb : Nat} {bv : Value} {a : Nat} {w w' : World} (h : Rd rb bv a w) (hb : Below w.heap.size w w') : Rd rb bv a w' :=
  ⟨by rw [hb.cell h.lt]; exact h.c0, by rw [hb.cell h.lt]; exact h.c1, by rw [hb.frozen h.lt]; exact h.f1⟩

/-- What take leaves: the piece, and the reader behind it. -/
def Took (rb : Nat) (bv : Value) (B : Nat) (l : List UInt8) (a : Nat) (w : World) (e : Ending) (w' : World) : Prop :=
  ∃ v, e = .returned (.tuple #[v, .nilIface]) ∧ SlB B w' v l ∧ Rd rb bv a w' ∧ Grew w (some rb) w' (some rb)
/-- What an error leaves. -/
def Fell (z : Value) (k : Int) (rb : Nat) (w : World) (e : Ending) (w' : World) : Prop :=
  e = .returned (.tuple #[z, errV k]) ∧ Grew w (some rb) w' (some rb)

set_option maxHeartbeats 1000000 in
set_option maxRecDepth 100000 in
theorem take_short (rb : Nat) (a : Option Addr) (len cap at_ : Nat) (n : Int) (w : World) (hr : Rd rb (.slice a len cap) at_ w) (h : (len : Int) - at_ < n) (hl : len ≤ 100000) (hat : at_ ≤ len) :
    Calls Tryd.prog 82 #[.pointer (some ⟨rb, 0, none⟩), .int .i64 n] w (Fell (.slice none 0 0) 3 rb w) := by
  have c0 := hr.c0
  have c1 := hr.c1
  clear hr
  go_enter Tryd.func82, Tryd.ntmps82
  go_wp2
  go_quiet (fail)
  go_wp2
  go_ret2
  exact ⟨rfl, (Grew.refl _ _).drewN _⟩
theorem Grew.setAt {w w' : World} {rb : Nat} (h : Grew w (some rb) w' (some rb)) {a : Addr} (ha : a.block = rb) (v : Value) : Grew w (some rb) (w'.setCell a v) (some rb) :=
  ⟨⟨h.by_.os, h.by_.tape, h.by_.output, by simpa using h.by_.size, fun k hk hr => by
    rw [heap_setCell_other w' a k v (fun e => hr (by rw [e, ha]))]; exact h.by_.block k hk hr⟩, Or.inl rfl⟩
theorem cut_getD (bs : List UInt8) (at_ n x : Nat) (hx : x < n) : (cut bs at_ n).getD x 0 = bs.getD (at_ + x) 0 := by
  unfold cut
  simp only [List.getD_eq_getElem?_getD, List.getElem?_take, List.getElem?_drop, if_pos hx]
theorem slb_cut {B b o cap at_ n : Nat} {bs : List UInt8} {w : World} (hb : BytesAt w b o bs) (hbB : b < B) (h : at_ + n ≤ bs.length) (hcap : bs.length ≤ cap) :
    SlB B w (.slice (some ⟨b, o + at_, none⟩) n (cap - at_)) (cut bs at_ n) := by
  have hl := cut_length bs at_ n h
  rcases Nat.eq_zero_or_pos n with rfl | h0
  · exact Or.inl ⟨List.eq_nil_of_length_eq_zero hl, _, _, rfl⟩
  · refine Or.inr ⟨b, o + at_, cap - at_, by rw [hl], hbB, fun x hx => ?_, by omega, by omega⟩
    rw [hl] at hx
    rw [cut_getD _ _ _ _ hx, Nat.add_assoc]
    exact hb (at_ + x) (by omega)
theorem dsd0 (w : World) (a c rb : Nat) (v : Value) : (((w.drewN a).setCell ⟨rb, 1, none⟩ v).drewN c).cell? ⟨rb, 0, none⟩ = w.cell? ⟨rb, 0, none⟩ := by
  have n1 : (⟨rb, 1, none⟩ : Addr) ≠ ⟨rb, 0, none⟩ := by simp
  show (w.setCell ⟨rb, 1, none⟩ v).cell? ⟨rb, 0, none⟩ = _
  rw [World.cell?_setCell_other (h := n1)]
theorem dsd1 {w : World} (a c rb : Nat) (v : Value) {u : Value} (h : w.cell? ⟨rb, 1, none⟩ = some u) : (((w.drewN a).setCell ⟨rb, 1, none⟩ v).drewN c).cell? ⟨rb, 1, none⟩ = some v := by
  show (w.setCell ⟨rb, 1, none⟩ v).cell? ⟨rb, 1, none⟩ = _
  exact World.cell?_setCell_same _ _ _ h
theorem BytesAt.grew {w w' : World} {b o rb : Nat} {bs : List UInt8} (h : BytesAt w b o bs) (hg : Grew w (some rb) w' (some rb)) (hne : rb ≠ b) : BytesAt w' b o bs := fun x hx => by
  have hlt := World.block_lt_of_cell? w _ (h x hx)
  rw [hg.cell hlt (fun e => hne (by injection e with e; exact e.symm))]; exact h x hx
set_option maxHeartbeats 1000000 in
set_option maxRecDepth 100000 in
theorem take_ok (B rb b o cap at_ n : Nat) (bs : List UInt8) (w : World) (hr : Rd rb (.slice (some ⟨b, o, none⟩) bs.length cap) at_ w) (hb : BytesAt w b o bs) (hbB : b < B) (hB : rb ≠ b) (h : at_ + n ≤ bs.length) (hl : bs.length ≤ 100000) (hcap : bs.length ≤ cap) :
    Calls Tryd.prog 82 #[.pointer (some ⟨rb, 0, none⟩), .int .i64 n] w (Took rb (.slice (some ⟨b, o, none⟩) bs.length cap) B (cut bs at_ n) (at_ + n) w) := by
  have c0 := hr.c0
  have c1 := hr.c1
  have f1 := hr.f1
  have Hr := Lib.hid hr
  have Hb := Lib.hid hb
  have hend : ∀ (w' : World) (v : Value), w'.cell? ⟨rb, 0, none⟩ = some (.slice (some ⟨b, o, none⟩) bs.length cap) → w'.cell? ⟨rb, 1, none⟩ = some (.int .i64 ((at_ + n : Nat) : Int)) → w'.frozen? ⟨rb, 1, none⟩ = false →
      Grew w (some rb) w' (some rb) → (∃ a m c, v = .slice a m c ∧ m = n ∧ (m < 1 ∨ (a = some ⟨b, o + at_, none⟩ ∧ c = cap - at_))) →
      Took rb (.slice (some ⟨b, o, none⟩) bs.length cap) B (cut bs at_ n) (at_ + n) w (.returned (.tuple #[v, .nilIface])) w' := by
    intro w' v e0 e1 e2 hg hv
    refine ⟨v, rfl, ?_, ⟨e0, e1, e2⟩, hg⟩
    obtain ⟨a, m, c, rfl, rfl, hm⟩ := hv
    rcases hm with hm | ⟨rfl, rfl⟩
    · obtain rfl : m = 0 := by omega
      exact Or.inl ⟨List.eq_nil_of_length_eq_zero (cut_length bs at_ 0 h), a, c, rfl⟩
    · exact slb_cut (hb.grew hg hB) hbB h hcap
  have Hend := Lib.hid hend
  clear hr hb hend
  by_cases hc : at_ = cap
  · obtain rfl : n = 0 := by omega
    obtain rfl : at_ = cap := hc
    go_enter Tryd.func82, Tryd.ntmps82
    go_wp2
    go_quiet (fail)
    go_wp2
    go_quiet (fail)
    go_wp2
    go_ret2
    refine Hend.out _ _ ?_ ?_ ?_ ((((Grew.refl _ _).drewN _).setAt (a := ⟨rb, 1, none⟩) rfl _).drewN _) ⟨_, _, _, rfl, rfl, Or.inl (by omega)⟩
    · rw [dsd0]; exact c0
    · exact dsd1 _ _ _ _ c1
    · simpa using f1
  · go_enter Tryd.func82, Tryd.ntmps82
    go_wp2
    go_quiet (fail)
    go_wp2
    go_quiet (fail)
    go_wp2
    go_ret2
    refine Hend.out _ _ ?_ ?_ ?_ ((((Grew.refl _ _).drewN _).setAt (a := ⟨rb, 1, none⟩) rfl _).drewN _) ⟨_, _, _, rfl, by omega, Or.inr ⟨rfl, rfl⟩⟩
    · rw [dsd0]; exact c0
    · exact dsd1 _ _ _ _ c1
    · simpa using f1
theorem take_bad (B rb at_ n : Nat) (bv : Value) (bs : List UInt8) (w : World) (hr : Rd rb bv at_ w) (hb : SlB B w bv bs) (h : bs.length < at_ + n) (hl : bs.length ≤ 100000) (hat : at_ ≤ bs.length) :
    Calls Tryd.prog 82 #[.pointer (some ⟨rb, 0, none⟩), .int .i64 n] w (Fell (.slice none 0 0) 3 rb w) := by
  obtain ⟨a, cap, rfl, _⟩ := hb.len
  exact take_short rb a bs.length cap at_ n w hr (by omega) hl hat
theorem take_good (B rb at_ n : Nat) (bv : Value) (bs : List UInt8) (w : World) (hr : Rd rb bv at_ w) (hb : SlB B w bv bs) (hB : B ≤ rb) (h : at_ + n ≤ bs.length) (h0 : 0 < bs.length) (hl : bs.length ≤ 100000) :
    Calls Tryd.prog 82 #[.pointer (some ⟨rb, 0, none⟩), .int .i64 n] w (Took rb bv B (cut bs at_ n) (at_ + n) w) := by
  rcases hb with ⟨rfl, _⟩ | ⟨b, o, cap, rfl, h2, h3, _, h5⟩
  · simp at h0
  · exact take_ok B rb b o cap at_ n bs w hr h3 h2 (by omega) h hl h5
theorem SlB.grew {rb B : Nat} {bv : Value} {bs : List UInt8} {w w' : World} (hb : SlB B w bv bs) (hB : B ≤ rb) (hg : Grew w (some rb) w' (some rb)) : SlB B w' bv bs := by
  rcases hb with h | ⟨b, o, cap, h1, h2, h3, h4⟩
  · exact Or.inl h
  · exact Or.inr ⟨b, o, cap, h1, h2, h3.grew hg (by omega), h4⟩

/-- What was read, or the error. -/
def Read {α : Type} (val : World → α → Value → Prop) (z : Value) (rb : Nat) (bv : Value) (g : Got α) (w : World) (e : Ending) (w' : World) : Prop :=
  match g with
  | .bad k => Fell z k rb w e w'
  | .good x a => ∃ v, e = .returned (.tuple #[v, .nilIface]) ∧ val w' x v ∧ Rd rb bv a w' ∧ Grew w (some rb) w' (some rb)
def IntV (_ : World) (n : Int) (v : Value) : Prop := v = .int .i64 n

def RelR (l : List UInt8) (w : World) (v c : Value) (wr : World) : Prop := ∃ k : Nat, k ≤ l.length ∧ c = .int .i64 k ∧ v = .int .u64 (leN (l.take k) : Nat) ∧ Below w.heap.size w wr
set_option maxHeartbeats 1000000 in
set_option maxRecDepth 100000 in
theorem number_bad (B rb at_ size : Nat) (lo hi : Int) (bv : Value) (bs : List UInt8) (w : World) (hr : Rd rb bv at_ w) (hb : SlB B w bv bs) (h : bs.length < at_ + size) (hl : bs.length ≤ 100000) (hat : at_ ≤ bs.length) :
    Calls Tryd.prog 57 #[.pointer (some ⟨rb, 0, none⟩), .int .i64 size, .int .i64 lo, .int .i64 hi] w (Fell (.int .i64 0) 3 rb w) := by
  have Ht := Lib.hid (take_bad B rb at_ size bv bs w hr hb h hl hat)
  clear hr hb
  go_enter Tryd.func57, Tryd.ntmps57
  go_wp2_with fail
  refine Ht.out.mono ?_
  rintro e w1 ⟨rfl, hg⟩
  have Hg := Lib.hid hg; clear hg
  unfold errV
  go_wp2_with fail
  go_ret2
  exact ⟨rfl, Hg.out⟩
set_option maxHeartbeats 1000000 in
set_option maxRecDepth 100000 in
theorem number_ok (B rb at_ size : Nat) (lo hi : Int) (bv : Value) (bs : List UInt8) (w : World) (hr : Rd rb bv at_ w) (hb : SlB B w bv bs) (hB : B ≤ rb) (h : at_ + size ≤ bs.length) (hl : bs.length ≤ 100000)
    (h1 : 1 ≤ size) (h8 : size ≤ 8) (hlo : 0 ≤ lo) (hlh : lo ≤ hi) (hhi : hi ≤ 9223372036854775807) :
    Calls Tryd.prog 57 #[.pointer (some ⟨rb, 0, none⟩), .int .i64 size, .int .i64 lo, .int .i64 hi] w (Read IntV (.int .i64 0) rb bv (numG size lo hi bs at_) w) := by
  have Ht := Lib.hid (take_good B rb at_ size bv bs w hr hb hB h (by omega) hl)
  have hcl := cut_length bs at_ size h
  have hG : numG size lo hi bs at_ = if (leN (cut bs at_ size) : Int) < lo ∨ hi < (leN (cut bs at_ size) : Int) then .bad 2 else .good (leN (cut bs at_ size)) (at_ + size) := by
    unfold numG; rw [if_neg (by omega)]
  generalize numG size lo hi bs at_ = G at *
  have Hb := Lib.hid hb
  clear hr hb
  generalize cut bs at_ size = l at *
  have HG := Lib.hid hG; clear hG
  go_enter Tryd.func57, Tryd.ntmps57
  go_wp2_with fail
  refine Ht.out.mono ?_
  rintro e w1 ⟨v, rfl, hs, hrd, hg⟩
  rcases hs with ⟨rfl, _⟩ | ⟨b, o, cap, rfl, hbB, hby, _⟩
  · simp at hcl; omega
  have Hrd := Lib.hid hrd
  have Hg := Lib.hid hg
  have Hby := Lib.hid hby
  have hbl : b < w1.heap.size := World.block_lt_of_cell? w1 _ (hby 0 (by omega))
  clear hrd hg hby
  go_wp2_with fail
  go_loopw [12, 26] (fun v c wr => RelR l w1 v c wr) (fun _ c _ => l.length - (intOf c).toNat)
  case atStart => exact ⟨0, Nat.zero_le _, rfl, by simp [leN], Below.refl _ _⟩
  case round =>
    obtain ⟨k, hk, rfl, rfl, hB1⟩ := hrel
    by_cases hlt : k < l.length
    · have hc := (hB1.cell (p := ⟨b, o + k, none⟩) hbl).trans (Hby.out k hlt)
      have Hts := Lib.hid (take_snoc l k 0 hlt)
      have hn := leN_lt (l.take k)
      generalize hacc : leN (l.take k) = acc at *
      have Hacc := Lib.hid hacc; clear hacc
      generalize l.getD k 0 = x at *
      have HB1 := Lib.hid hB1
      have Hn := Lib.hid hn
      clear hB1 hn
      go_wp2_with fail
      go_roundw
      case rel =>
        refine ⟨k + 1, by omega, by go_num, ?_, HB1.out⟩
        rw [or_byte acc x.toNat k (by omega) (Nat.lt_of_lt_of_le Hn.out (Nat.pow_le_pow_right (by decide) (List.length_take_le _ _))) x.toNat_lt, Hts.out, leN_append, Hacc.out, List.length_take, Nat.min_eq_left (by omega)]
        simp [leN]
      case measure => simp [intOf]; omega
    · obtain rfl : k = l.length := by omega
      rw [List.take_length]
      have hn := leN_lt l
      have hp : 256 ^ l.length ≤ 256 ^ 8 := Nat.pow_le_pow_right (by decide) (by omega)
      generalize leN l = acc at *
      have HB1 := Lib.hid hB1
      have hacc : acc < 18446744073709551616 := Nat.lt_of_lt_of_le hn (Nat.le_trans hp (by decide))
      clear hB1 hn hp
      go_wp2_with fail
      · have h2 : (acc : Int) < lo := by assumption
        go_ret2
        have hG := HG.out
        rw [if_pos (Or.inl h2)] at hG
        subst hG
        exact ⟨rfl, Hg.out.then HB1.out⟩
      · have h2 : hi < (acc : Int) := by assumption
        go_ret2
        have hG := HG.out
        rw [if_pos (Or.inr h2)] at hG
        subst hG
        exact ⟨rfl, Hg.out.then HB1.out⟩
      · have h2 : (acc : Int) ≤ hi := by assumption
        have h3 : lo ≤ (acc : Int) := by assumption
        go_ret2
        have hG := HG.out
        rw [if_neg (by omega)] at hG
        subst hG
        exact ⟨_, rfl, rfl, Hrd.out.below HB1.out, Hg.out.then HB1.out⟩
theorem number_any (B rb at_ size : Nat) (lo hi : Int) (bv : Value) (bs : List UInt8) (w : World) (hr : Rd rb bv at_ w) (hb : SlB B w bv bs) (hB : B ≤ rb) (hl : bs.length ≤ 100000) (hat : at_ ≤ bs.length)
    (h1 : 1 ≤ size) (h8 : size ≤ 8) (hlo : 0 ≤ lo) (hlh : lo ≤ hi) (hhi : hi ≤ 9223372036854775807) :
    Calls Tryd.prog 57 #[.pointer (some ⟨rb, 0, none⟩), .int .i64 size, .int .i64 lo, .int .i64 hi] w (Read IntV (.int .i64 0) rb bv (numG size lo hi bs at_) w) := by
  by_cases h : bs.length < at_ + size
  · rw [show numG size lo hi bs at_ = .bad 3 by unfold numG; rw [if_pos h]]
    exact number_bad B rb at_ size lo hi bv bs w hr hb h hl hat
  · exact number_ok B rb at_ size lo hi bv bs w hr hb hB (by omega) hl h1 h8 hlo hlh hhi
theorem numG_good {size : Nat} {lo hi : Int} {bs : List UInt8} {at_ a : Nat} {n : Int} (h : numG size lo hi bs at_ = .good n a) : a = at_ + size ∧ a ≤ bs.length ∧ lo ≤ n ∧ n ≤ hi ∧ 0 ≤ n := by
  unfold numG at h
  split at h
  · cases h
  · split at h
    · cases h
    · injection h with h1 h2
      omega
end Go.Proofs.YtoflfbcjlddjaaaDoor
