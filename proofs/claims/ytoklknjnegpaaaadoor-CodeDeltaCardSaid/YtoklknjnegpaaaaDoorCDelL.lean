/-
  A block exchanged: what becomes of the fragments; copy onto a row of the call's own; append of rows.
-/
import Derived.Test.YtoklknjnegpaaaaDoorCBytesL
import Derived.Test.YtoklknjnegpaaaaDoorCReb
import Derived.Laws.CopyOwn
namespace Go.Proofs.YtoklknjnegpaaaaDoor
open Go.RowKit Gf Cd
/-- What copy leaves of a row. -/
def nextL (l now : List UInt8) : List UInt8 := now.take l.length ++ l.drop now.length
theorem nextL_length (l now : List UInt8) : (nextL l now).length = l.length := by unfold nextL; rw [List.length_append, List.length_take, List.length_drop]; omega
theorem set_mat {bs : List (List UInt8)} {x : Nat} {l : List UInt8} (hx : x < bs.length) (j y : Nat) : mat (bs.set x l) j y = if j = x then (l.getD y 0).toNat else mat bs j y := by
  unfold mat
  by_cases e : j = x
  · subst e; rw [getD_set_eq _ _ _ _ hx, if_pos rfl]
  · rw [getD_set_ne _ _ _ _ _ e, if_neg e]
theorem set_len {k s x : Nat} {bs : List (List UInt8)} {l : List UInt8} (hl : bs.length = k) (h : ∀ j, j < k → (bs.getD j []).length = s) (hs : l.length = s) : ∀ j, j < k → ((bs.set x l).getD j []).length = s := fun j hj => by
  by_cases e : j = x
  · subst e; rw [getD_set_eq _ _ _ _ (by omega), hs]
  · rw [getD_set_ne _ _ _ _ _ e, h _ hj]
theorem delta_byte {k a b y : Nat} {l m : List UInt8} (h : l.length = m.length) (hy : y < l.length) : ((deltaL k a b l m).getD y 0).toNat = mul ((l.getD y 0).toNat ^^^ (m.getD y 0).toNat) (cf k a b) := by
  unfold deltaL
  rw [addB_getD _ _ _ _ (by rw [addB_length, zeros_length]; exact hy), if_pos (by omega), addB_getD _ _ _ _ (by rw [zeros_length]; exact hy), if_pos hy, zeros_getD, Nat.zero_xor, xor_mul (UInt8.toNat_lt _) (UInt8.toNat_lt _)]
/-- Each fragment and its delta are the fragment of the new blocks. -/
theorem enc_delta {k n s i x y : Nat} {bs : List (List UInt8)} {m : List UInt8} (hl : bs.length = k) (h : ∀ j, j < k → (bs.getD j []).length = s) (hm : m.length = s) (hx : x < k) (hi : i < n) (hy : y < s) :
    (((encL k n bs s).getD i []).getD y 0).toNat ^^^ ((deltaL k i x (bs.getD x []) m).getD y 0).toNat = (((encL k n (bs.set x m) s).getD i []).getD y 0).toNat := by
  rw [enc_byte hi hy h, enc_byte hi hy (set_len hl h hm), delta_byte (by rw [h x hx, hm]) (by rw [h x hx]; exact hy)]
  have e1 : dot (cf k i) (fun j => mat (bs.set x m) j y) k = dot (cf k i) (fun j => mat bs j y ^^^ (if j = x then mat bs x y ^^^ (m.getD y 0).toNat else 0)) k := dot_congr fun j _ => ⟨rfl, by
    rw [set_mat (by omega)]
    by_cases e : j = x
    · subst e; rw [if_pos rfl, if_pos rfl, ← Nat.xor_assoc, Nat.xor_self, Nat.zero_xor]
    · rw [if_neg e, if_neg e, Nat.xor_zero]⟩
  have hb : ∀ j, (if j = x then mat bs x y ^^^ (m.getD y 0).toNat else 0) < 256 := fun j => by
    split
    · exact xor_lt (mat_bm bs x y) (UInt8.toNat_lt _)
    · omega
  have e2 : dot (cf k i) (fun j => if j = x then mat bs x y ^^^ (m.getD y 0).toNat else 0) k = mul (mat bs x y ^^^ (m.getD y 0).toNat) (cf k i x) := by
    rw [dot_one (i := x) hx (fun j _ hne => by rw [if_neg hne, zero_mul]), if_pos rfl]
  rw [e1, dot_v_xor (fun j => mat_bm bs j y) hb, e2]
  rfl
theorem add_at (b off j : Nat) : (⟨b, off, none⟩ : Addr).add j = ⟨b, off + j, none⟩ := by unfold Addr.add; split <;> simp_all
/-- copy onto a row of the call's own. -/
theorem copied {w' : World} {B g n cap : Nat} {cur : Array Value} {l now : List UInt8} (hB : B ≤ g) (hle : n ≤ cap) (hm : cap ≤ maxLen) (hs : cur.size = cap * 1) (ht : cur.toList.take (n * 1) = bytesV l) (hn : l.length = n)
    (h : w'.heap[g]? = some (.cells (splice cur.toList 0 (bytesV (now.take (Nat.min now.length n)))).toArray 5 (0, 0))) :
    w'.ownsRow B 5 1 (.slice (some ⟨g, 0, none⟩) n cap) n (bytesV (nextL l now)) := by
  have hnl := nextL_length l now
  have hc : cur.toList = bytesV l ++ cur.toList.drop n := by
    have h1 := List.take_append_drop n cur.toList
    rw [Nat.mul_one] at ht
    rw [← ht]; exact h1.symm
  have hmin : (now.take (Nat.min now.length n)).length = min now.length n := by rw [List.length_take]; exact Nat.min_eq_left (Nat.min_le_left _ _)
  have hsp : splice cur.toList 0 (bytesV (now.take (Nat.min now.length n))) = bytesV (nextL l now) ++ cur.toList.drop n := by
    unfold splice
    rw [List.take_zero, List.nil_append, bytesV_length, hmin, Nat.zero_add]
    have e1 : cur.toList.drop (min now.length n) = bytesV (l.drop now.length) ++ cur.toList.drop n := by
      by_cases hnn : now.length ≤ n
      · rw [Nat.min_eq_left hnn]
        conv => lhs; rw [hc]
        rw [List.drop_append_of_le_length (by rw [bytesV_length]; omega)]
        unfold bytesV; rw [List.map_drop]
      · rw [Nat.min_eq_right (by omega), List.drop_of_length_le (by omega : l.length ≤ now.length)]; rfl
    rw [e1]
    unfold nextL
    rw [bytesV_append, List.append_assoc, hn]
    congr 2
    by_cases hnn : now.length ≤ n
    · rw [show Nat.min now.length n = now.length from Nat.min_eq_left hnn, List.take_length, List.take_of_length_le hnn]
    · rw [show Nat.min now.length n = n from Nat.min_eq_right (by omega)]
  rw [hsp] at h
  refine ⟨by rw [bytesV_length, hnl, hn, Nat.mul_one], Or.inr ⟨g, cap, _, rfl, hB, h, hle, hm, ?_, ?_⟩⟩
  · simp only [List.size_toArray, List.length_append, bytesV_length, hnl, List.length_drop, Array.length_toList]; omega
  · have : (bytesV (nextL l now)).length = n := by rw [bytesV_length, hnl, hn]
    simp only [Nat.mul_one]
    rw [← this]; exact List.take_left
theorem wpList_copy_bytes {w : World} {ops : Array Oper} {rest : List Oper} {o : Oper} {a : Act} {Q : Exit → Act → World → Prop} (hgd : o.guard = none) (d s : Operand)
    (ho : o.op = .call { callee := .builtin .copy, args := #[d, s], argTypes := #[24, 24] }) (B g n cap : Nat) (l : List UInt8) (hown : w.ownsRow B 5 1 (.slice (some ⟨g, 0, none⟩) n cap) n (bytesV l))
    (hd : a.eval d = .slice (some ⟨g, 0, none⟩) n cap) (B' : Nat) (ap : Option Addr) (ml mc : Nat) (now : List UInt8) (hs : a.eval s = .slice ap ml mc) (hml : now.length = ml) (hsl : SlB B' w (.slice ap ml mc) now)
    (h : ∀ w', w'.ownsRow B 5 1 (.slice (some ⟨g, 0, none⟩) n cap) n (bytesV (nextL l now)) → Below B w w' → Grew w (some g) w' (some g) → wpList Tryd.prog ops Q rest (a.put o.dst (goInt (Nat.min now.length n))) w') : wpList Tryd.prog ops Q (o :: rest) a w := by
  have hl := hown.1
  rw [bytesV_length, Nat.mul_one] at hl
  have hoo := hown
  rcases hoo.2 with ⟨h1, _⟩ | ⟨g', cap', cur, h1, hBg, hg, hle, hm, hsz, htk⟩
  · cases h1
  injection h1 with h1 _ h2
  injection h1 with h1
  injection h1 with h1 _ _
  subst h1 h2
  have hu8 : (Tryd.prog.info? 5).map (·.size) = some 1 := by kernel_rfl
  have hlen : (bytesV (now.take (Nat.min now.length n))).length = Nat.min ml n := by
    rw [bytesV_length, List.length_take, hml]; exact Nat.min_eq_left (Nat.min_le_left _ _)
  have key : ∀ w', Hid (w'.heap[g]? = some (.cells (splice cur.toList 0 (bytesV (now.take (Nat.min now.length n)))).toArray 5 (0, 0))) → (Below B w w' ∧ Grew w (some g) w' (some g)) → wpList Tryd.prog ops Q rest (a.put o.dst (goInt (bytesV (now.take (Nat.min now.length n))).length)) w' := fun w' hg' hb => by
    have e : (bytesV (now.take (Nat.min now.length n))).length = Nat.min now.length n := by rw [hlen, hml]
    rw [e]
    exact h w' (copied hBg hle hm hsz htk hl hg'.out) hb.1 hb.2
  have hsrc : 0 < (bytesV (now.take (Nat.min now.length n))).length → (some (⟨g, 0, none⟩ : Addr) = some ⟨g, 0, none⟩) ∧ ∃ ad, ap = some ad ∧ ∀ (j : Nat) (v : Value), (bytesV (now.take (Nat.min now.length n)))[j]? = some v → w.cell? (ad.add j) = some v := by
    intro h0
    rcases hsl with ⟨rfl, _⟩ | ⟨b, off, cap'', h1, h2, h3, _⟩
    · simp [bytesV] at h0
    · injection h1 with h1 _ _
      refine ⟨rfl, ⟨b, off, none⟩, h1, fun j v hv => ?_⟩
      have hj := (List.getElem?_eq_some_iff.1 hv).1
      rw [hlen] at hj
      have hj2 : j < now.length := by have := Nat.min_le_left ml n; have : Nat.min ml n ≤ ml := this; omega
      have h4 := h3 j hj2
      rw [add_at, h4, ← hv]
      have hj3 : j < Nat.min now.length n := by rw [hml]; exact hj
      simp [bytesV, List.getD, hj2, hj3]
  by_cases h0 : (bytesV (now.take (Nat.min now.length n))).length = 0
  · refine wpList_copy_nothing hgd d s _ _ ho 5 Tryd.underlying24 hu8 _ _ n cap ml mc hd hs (by rw [← hlen]; exact h0) ?_
    have := key w (Lib.hid (by rw [List.eq_nil_of_length_eq_zero h0, show splice cur.toList 0 [] = cur.toList by unfold splice; simp, Array.toArray_toList]; exact hg)) ⟨Below.refl _ _, Grew.refl _ _⟩
    rw [h0] at this
    exact this
  · obtain ⟨_, ad, rfl, hsr2⟩ := hsrc (by omega)
    refine wpList_copy_own hgd d s _ _ ho 5 Tryd.underlying24 hu8 g 0 n cap ad ml mc hd hs cur 5 hg _ hlen hsr2 (by rw [hlen, hsz]; have : Nat.min ml n ≤ n := Nat.min_le_right _ _; omega) (fun v hv => by obtain ⟨c, _, rfl⟩ := List.mem_map.1 hv; rfl) ?_
    exact key _ (Lib.hid (by simpa [splice] using setRow_heap w g _ _ 5 _ hg)) ⟨below_setRow (Below.refl _ _) hBg _, ⟨⟨rfl, rfl, rfl, by simp, fun k _ hk => setRow_other w g k _ (fun e => hk (by rw [e]))⟩, Or.inl rfl⟩⟩
theorem src_rows {w : World} {B g n c : Nat} {us : List Value} {ls : List (List UInt8)} (h : OwnLs B w (.slice (some ⟨g, 0, none⟩) n c) us ls) (hn : ls.length = n) : Src Tryd.prog 1 53 (.slice (some ⟨g, 0, none⟩) n c) n us w := by
  subst hn
  have hu := h.ulen
  refine Src.ofSlice _ Tryd.underlying53 ⟨g, 0, none⟩ ls.length c us (by rw [Nat.mul_one]; exact hu) (fun j u hj => ?_) (fun u hu' => ?_)
  · rw [add_at, Nat.zero_add]; exact own_cell h.top hj
  · obtain ⟨i, hi, rfl⟩ := List.getElem_of_mem hu'
    obtain ⟨a, c', e, _⟩ := own_slice (h.each i (by omega))
    have : us.getD i nilB = us[i] := by simp [List.getD, hi]
    rw [← this, e]; rfl
theorem wpList_append_rows (w : World) {ops : Array Oper} {rest : List Oper} {o : Oper} {a : Act} {Q : Exit → Act → World → Prop} (hgd : o.guard = none) (s x : Operand)
    (ho : o.op = .call { callee := .builtin .append, args := #[s, x], argTypes := #[53, 53] })
    (base : Nat) (v : Value) (n : Nat) (xs : List Value) (hsv : a.eval s = v) (hown : w.ownsRow base 24 1 v n xs)
    (y : Value) (m : Nat) (news : List Value) (hx : a.eval x = y) (hs : Src Tryd.prog 1 53 y m news w) (h63 : n + m ≤ 100000) (hbase : base ≤ w.heap.size)
    (h : ∀ v' w', w'.ownsRow base 24 1 v' (n + m) (xs ++ news) → Grew w v.ownBlock w' v'.ownBlock → wpList Tryd.prog ops Q rest (a.put o.dst v') w') : wpList Tryd.prog ops Q (o :: rest) a w := by
  obtain ⟨i0, hi0, hz⟩ := Option.map_eq_some_iff.1 Tryd.info24
  simp only [Prod.mk.injEq] at hz
  obtain ⟨hz0, hz1, hz2⟩ := hz
  exact wpList_append_src w hgd s x 53 53 ho base 24 i0 (.slice none 0 0) 1 24 Tryd.underlying53 hi0 hz0 hz1 hz2 rfl v n xs hsv hown y m news hx hs (by unfold maxLen; omega) (by omega) hbase fun v' w' h1 h2 _ => h v' w' h1 h2
/-- A row of rows, one of them another's. -/
theorem slbs_set {w : World} {B C n x g c : Nat} {us : List Value} {u : Value} {ls : List (List UInt8)} {l : List UInt8} (ho : w.ownsRow B 24 1 (.slice (some ⟨g, 0, none⟩) n c) n (us.set x u)) (hn : ls.length = n) (hx : x < n) (hC : C ≤ w.heap.size)
    (hL : ∀ j, j < n → j ≠ x → SlB C w (us.getD j nilB) (ls.getD j [])) (hu : SlB C w u l) : SlBs w.heap.size w (.slice (some ⟨g, 0, none⟩) n c) (ls.set x l) := by
  have hlen : (us.set x u).length = n := by have := ho.1; omega
  rw [List.length_set] at hlen
  have hgl := own_lt ho
  refine Or.inr ⟨g, 0, c, by rw [List.length_set, hn], hgl.2.1, fun i hi => ?_, by rw [List.length_set]; omega, by rw [List.length_set]; omega⟩
  rw [List.length_set, hn] at hi
  refine ⟨(us.set x u).getD i nilB, ?_, ?_⟩
  · rw [Nat.zero_add]
    exact own_cell ho (by simp [List.getD, hlen, hi])
  · by_cases e : i = x
    · subst e
      rw [getD_set_eq _ _ _ _ (by omega), getD_set_eq _ _ _ _ (by omega)]
      exact hu.wider hC
    · rw [getD_set_ne _ _ _ _ _ e, getD_set_ne _ _ _ _ _ e]
      exact (hL i hi e).wider hC
/-- Behind an append onto a new row. -/
theorem grew_new0 {w1 w2 : World} {o : Obj} {r : Option Nat} (hg : Grew (w1.alloc o) (some w1.heap.size) w2 r) : Below w1.heap.size w1 w2 :=
  (one_below w1 o).trans (hg.below (by simp) (fun k hk => by injection hk with hk; omega))
theorem row_src {w : World} {B n : Nat} {v : Value} {l : List UInt8} (h : w.ownsRow B 5 1 v n (bytesV l)) (hn : n = l.length) : SlB w.heap.size w v l := by subst hn; exact slb_own h
end Go.Proofs.YtoklknjnegpaaaaDoor
