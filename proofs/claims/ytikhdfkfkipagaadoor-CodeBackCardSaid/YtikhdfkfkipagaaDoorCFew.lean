/-
  stavelaw4.CodeFew: the walk.
-/
import Derived.Test.YtikhdfkfkipagaaDoorCBytesL
import Derived.Test.YtikhdfkfkipagaaDoorWhere
namespace Go.Proofs.YtikhdfkfkipagaaDoor
open Go.RowKit Gf Cd
section
variable {P : Program} (w : World)
/-- An append of cells from whatever source: the elder row reads as it did. -/
theorem run_append_keeps (base : Nat) (t tx ty e : TypeId) (i : TypeInfo) (z : Value) (size bytes : Nat) (ht : P.underlying t = some (.slice e)) (hi : P.info? e = some i) (hz : i.zero = some z)
    (hsize : i.size = size) (hby : i.bytes = bytes) (hzs : z.cells.size = size)
    (v : Value) (n : Nat) (xs : List Value) (hown : w.ownsRow base e size v n xs) (x : Value) (m : Nat) (news : List Value) (hs : Src P size tx x m news w)
    (h63 : n + m ≤ maxLen) (hbytes : (n + m) * bytes ≤ 140737488355328) (hbase : base ≤ w.heap.size) :
    ∃ v' w', (Builtin.append_ #[t, tx] ty #[v, x]).run P w = .ok v' w' ∧ w'.ownsRow base e size v' (n + m) (xs ++ news) ∧ Grew w v.ownBlock w' v'.ownBlock ∧ w'.ownsRow base e size v n xs := by
  subst hsize
  subst hby
  have hl := hs.newsLen
  have hlen : (xs ++ news).length = (n + m) * i.size := by rw [List.length_append, hown.1, hl, Nat.add_mul]
  have hsmall : ((n + m : Nat) : Int) ≤ 9223372036854775807 := by simp only [maxLen] at h63; omega
  have grown : ∀ (old : Nat) (row : Option Nat),
      (w.drew.alloc (.cells ((xs ++ news).toArray ++ Builtin.zeroCells z.cells (grownCap w (n + m) old e - (n + m))) e)).ownsRow base e i.size
        (.slice (some ⟨w.heap.size, 0, none⟩) (n + m) (grownCap w (n + m) old e)) (n + m) (xs ++ news) ∧
      Grew w row (w.drew.alloc (.cells ((xs ++ news).toArray ++ Builtin.zeroCells z.cells (grownCap w (n + m) old e - (n + m))) e)) (some w.heap.size) := by
    intro old row
    have hge := grownCap_ge w (n + m) old e
    have hcm : grownCap w (n + m) old e ≤ maxLen := grownCap_le_maxLen w (n + m) old e h63
    refine ⟨⟨hlen, .inr ⟨w.heap.size, _, _, rfl, hbase, heap_alloc_new w.drew _, hge, hcm, ?_, ?_⟩⟩, ⟨⟨rfl, rfl, rfl, by simp, fun k hk _ => heap_alloc_old w.drew _ hk⟩, Or.inr fun k hk => by injection hk with hk; omega⟩⟩
    · simp only [Array.size_append, List.size_toArray, size_zeroCells, hzs, hlen, ← Nat.add_mul]
      congr 1
      omega
    · simp only [Array.toList_append, ← hlen]
      exact List.take_left
  have kept : ∀ o, (w.drew.alloc o).ownsRow base e i.size v n xs := fun o => World.ownsRow.kept (row := none) hown ⟨rfl, rfl, rfl, by simp, fun k hk _ => heap_alloc_old w.drew _ hk⟩ (by cases v.ownBlock <;> simp)
  have hown' := hown
  rcases hown.2 with ⟨rfl, rfl⟩ | ⟨g, cap, cur, rfl, hbg, hg, hnc, hcm, hcs, htake⟩
  · have hx : xs = [] := List.eq_nil_of_length_eq_zero (by simpa using hown.1)
    subst hx
    by_cases hm : m = 0
    · subst hm
      have hn : news = [] := List.eq_nil_of_length_eq_zero (by simpa using hl)
      subst hn
      refine ⟨.slice none 0 0, w, ?_, World.ownsRow_nil w base e i.size, Grew.refl _ _, hown'⟩
      rcases hs.kind with ⟨e', hk⟩ | hk <;> simp [Builtin.append_, run_underlying ht, run_underlying hk, sizeOf, typeInfo, hi, hs.len, hs.cells]
    · have hr := run_append_grow_src (P := P) w t tx ty e i z ht hi hz none 0 0 [] (by simp [run_firstCells_none]) x m news hs (by omega) hsmall (growslice_fits (by omega) hbytes)
      have hgr := grown 0 (Value.ownBlock (.slice none 0 0))
      exact ⟨_, _, hr, hgr.1, hgr.2, kept _⟩
  · by_cases hroom : n + m ≤ cap
    · have hfit : n * i.size + news.length ≤ cur.size := by rw [hl, hcs, ← Nat.add_mul]; exact Nat.mul_le_mul_right _ hroom
      have hr := run_append_room_own (P := P) w t tx ty e i ht hi g n cap cur hg x m news hs hroom hfit
      have hnl : n * i.size ≤ cur.size := by rw [hcs]; exact Nat.mul_le_mul_right _ hnc
      have hsz : (cur.toList.take (n * i.size) ++ news ++ cur.toList.drop (n * i.size + news.length)).toArray.size = cap * i.size := by
        simp only [List.size_toArray, List.length_append, List.length_take, List.length_drop, Array.length_toList]
        omega
      refine ⟨_, _, hr, ⟨hlen, .inr ⟨g, cap, _, rfl, hbg, setRow_heap w g cur _ e _ hg, hroom, hcm, hsz, ?_⟩⟩, ⟨⟨rfl, rfl, rfl, by simp, fun k _ hk => setRow_other w g k _ (fun e => hk (by simp [Value.ownBlock, e]))⟩, Or.inl rfl⟩, ⟨hown.1, .inr ⟨g, cap, _, rfl, hbg, setRow_heap w g cur _ e _ hg, hnc, hcm, hsz, ?_⟩⟩⟩
      · rw [htake, ← hlen]
        exact List.take_left
      · rw [List.append_assoc, htake, ← hown.1]
        exact List.take_left
    · have holds : ∀ j u, xs[j]? = some u → w.cell? ((⟨g, 0, none⟩ : Addr).add j) = some u := hown.cells (g := g) rfl
      have hr := run_append_grow_src (P := P) w t tx ty e i z ht hi hz (some ⟨g, 0, none⟩) n cap xs (run_firstCells_some w.drew i.size n ⟨g, 0, none⟩ n cap xs hown.1 (by simpa using holds)) x m news hs (by omega) hsmall (growslice_fits (by omega) hbytes)
      have hgr := grown cap (Value.ownBlock (.slice (some ⟨g, 0, none⟩) n cap))
      exact ⟨_, _, hr, hgr.1, hgr.2, kept _⟩
end
theorem wpList_append_part2 (w : World) {ops : Array Oper} {rest : List Oper} {o : Oper} {a : Act} {Q : Exit → Act → World → Prop} (hgd : o.guard = none) (s x : Operand)
    (ho : o.op = .call { callee := .builtin .append, args := #[s, x], argTypes := #[43, 43] })
    (base : Nat) (v : Value) (n : Nat) (xs : List Value) (hsv : a.eval s = v) (hown : w.ownsRow base 35 2 v n xs)
    (b : Nat) (c0 c1 : Value) (hx : a.eval x = .slice (some ⟨b, 0, none⟩) 1 1) (hb0 : w.cell? ⟨b, 0, none⟩ = some c0) (hb1 : w.cell? ⟨b, 1, none⟩ = some c1) (h0 : c0.oneCell' = true) (h1 : c1.oneCell' = true) (h63 : n + 1 ≤ 100000) (hbase : base ≤ w.heap.size)
    (h : ∀ v' w', w'.ownsRow base 35 2 v' (n + 1) (xs ++ [c0, c1]) → Grew w v.ownBlock w' v'.ownBlock → w'.ownsRow base 35 2 v n xs → wpList Tryd.prog ops Q rest (a.put o.dst v') w') : wpList Tryd.prog ops Q (o :: rest) a w := by
  obtain ⟨i0, hi0, hz⟩ := Option.map_eq_some_iff.1 Tryd.info35
  simp only [Prod.mk.injEq] at hz
  obtain ⟨hz0, hz1, hz2⟩ := hz
  obtain ⟨v', w', hr, h2, h3, h4⟩ := run_append_keeps (P := Tryd.prog) w base 43 43 o.type 35 i0 (.agg #[.int .i64 0, .slice none 0 0]) 2 32 Tryd.underlying43 hi0 hz0 hz1 hz2 rfl v n xs hown (.slice (some ⟨b, 0, none⟩) 1 1) 1 [c0, c1] (part_src hb0 hb1 h0 h1) (by unfold maxLen; omega) (by omega) hbase
  refine wpList_plain hgd fun _ hK => ?_
  unfold Oper.wp execOp
  simp only [ho, resolve, invoke, builtin, Sem.run_bind, Sem.run_pure, Result.andThen_ok, List.map_toArray, List.map_cons, List.map_nil, hsv, hx, hr]
  exact hK _ _ (h v' w' h2 h3 h4)
theorem rep_getD {α : Type} (n i : Nat) (a d : α) (h : i < n) : (List.replicate n a).getD i d = a := by simp [List.getD, h]
/-- The same part many times. -/
def rep (i : Nat) (p : Pt) : List Pt := List.replicate i p
theorem own_slice' {w : World} {B e size n : Nat} {v : Value} {xs : List Value} (h : w.ownsRow B e size v n xs) : ∃ g c, v = .slice g n c ∧ n ≤ c := by
  rcases h.2 with ⟨rfl, h0⟩ | ⟨g, c, cur, rfl, _, _, h, _⟩
  · exact ⟨none, 0, by rw [h0], by omega⟩
  · exact ⟨_, _, rfl, h⟩
theorem rep_ok {n i : Nat} {p : Pt} (h0 : 0 ≤ p.1 ∧ p.1 < n) : ¬ 0 ≤ wrongAt n (rep i p) := by
  have : wrongAt n (rep i p) = -1 := firstAt_none _ pt0 _ fun x hx => by
    have hx' : x < i := by simpa [rep] using hx
    unfold rep wrongP
    rw [rep_getD _ _ _ _ hx', rep_getD _ _ _ _ (by omega), decide_eq_true h0, decide_eq_false (by simp)]
    rfl
  omega
theorem rep_diff (i : Nat) (p : Pt) : (diffP (rep i p)).length ≤ 1 := by
  have h := (diffP_nodup (rep i p)).length_le_of_subset (l₂ := [p.1]) fun a ha => by
    obtain ⟨q, hq, rfl⟩ := List.mem_map.1 ha
    have := diffP_sub _ _ hq
    unfold rep at this
    rw [List.eq_of_mem_replicate this]
    exact List.mem_singleton.2 rfl
  simpa using h
theorem app_getD_lt {α : Type} (l : List α) (a d : α) (i : Nat) (h : i < l.length) : (l ++ [a]).getD i d = l.getD i d := by simp only [List.getD]; rw [List.getElem?_append_left h]
theorem app_getD_end {α : Type} (l : List α) (a d : α) : (l ++ [a]).getD l.length d = a := by simp [List.getD]
theorem rep_bad {n i s : Nat} {p q : Pt} (hi : 0 < i) (h0 : 0 ≤ p.1 ∧ p.1 < n) (hs : p.2.length = s) (hq : ¬ (0 ≤ q.1 ∧ q.1 < n) ∨ q.2.length ≠ s) : wrongAt n (rep i p ++ [q]) = i := by
  have hl : (rep i p).length = i := by simp [rep]
  have hf : (rep i p ++ [q]).getD 0 pt0 = p := by rw [app_getD_lt _ _ _ _ (by omega)]; exact rep_getD _ _ _ _ hi
  unfold wrongAt
  rw [hf]
  have := firstAt_here (wrongP n p.2.length) pt0 (rep i p ++ [q]) i (by simp [hl]) (fun x hx => ?_) ?_
  · exact this
  · rw [app_getD_lt _ _ _ _ (by omega)]
    unfold rep wrongP
    rw [rep_getD _ _ _ _ hx, decide_eq_true h0, decide_eq_false (by simp)]
    rfl
  · have : (rep i p ++ [q]).getD i pt0 = q := by have h := app_getD_end (rep i p) q pt0; rwa [hl] at h
    rw [this]
    unfold wrongP
    rcases hq with h | h
    · rw [decide_eq_false h]; rfl
    · rw [show decide (q.2.length ≠ p.2.length) = true from decide_eq_true (by rw [hs]; exact h)]; exact Bool.or_true _
theorem slb_drop1 {B s c g : Nat} {w : World} {l : List UInt8} (h : SlB B w (.slice (some ⟨g, 0, none⟩) s c) l) (hl : l.length = s) : SlB B w (.slice (some ⟨g, 1, none⟩) (s - 1) (c - 1)) (l.drop 1) := by
  by_cases h1 : 1 < s
  · exact slb_drop h hl h1
  · have : l.drop 1 = [] := List.drop_eq_nil_of_le (by omega)
    rw [this]
    exact Or.inl ⟨rfl, _, _, by rw [show s - 1 = 0 by omega]⟩
def RelFe (B x : Nat) (f : List UInt8) (u : Value) (w : World) (v c : Value) (wr : World) : Prop :=
  ∃ i : Nat, i ≤ 9 ∧ c = .int .i64 i ∧ wr.ownsRow B 35 2 v i ((List.replicate i (((x : Int), f), u)).flatMap cellsPt) ∧ Below w.heap.size w wr
theorem relFe_next {B x i : Nat} {f : List UInt8} {u v v2 : Value} {w wr w2 : World} {o : Obj} (hi : i < 9) (hB : w.heap.size ≤ B) (ho : wr.ownsRow B 35 2 v i ((List.replicate i (((x : Int), f), u)).flatMap cellsPt)) (hb : Below w.heap.size w wr)
    (ho2 : w2.ownsRow B 35 2 v2 (i + 1) ((List.replicate i (((x : Int), f), u)).flatMap cellsPt ++ [.int .i64 x, u])) (hg : Grew (wr.alloc o) v.ownBlock w2 v2.ownBlock) : RelFe B x f u w v2 (.int .i64 ((i : Int) + 1)) w2 := by
  refine ⟨i + 1, by omega, by go_num, ?_, ?_⟩
  · rw [List.replicate_succ', List.flatMap_append]; exact ho2
  · have h1 : Below w.heap.size w (wr.alloc o) := balloc hb o
    exact h1.trans (hg.below h1.size fun q hq => Nat.le_trans hB (ho.lt q hq).1)
theorem slp_rep {B Bd x i : Nat} {f : List UInt8} {u v : Value} {w : World} (ho : w.ownsRow B 35 2 v i ((List.replicate i (((x : Int), f), u)).flatMap cellsPt)) (hd : SlB Bd w u f) (hB : Bd ≤ w.heap.size) : SlP w.heap.size w v (rep i ((x : Int), f)) := by
  have h := slp_own (qs := List.replicate i (((x : Int), f), u)) (by rw [List.length_replicate]; exact ho) (fun q hq => by rw [List.eq_of_mem_replicate hq]; exact hd) hB
  rwa [List.map_replicate] at h
theorem slp_rep1 {B Bd x i : Nat} {f g : List UInt8} {u u2 v : Value} {a : Int} {w : World} (ho : w.ownsRow B 35 2 v (i + 1) ((List.replicate i (((x : Int), f), u)).flatMap cellsPt ++ [.int .i64 a, u2])) (hd : SlB Bd w u f) (hd2 : SlB Bd w u2 g) (hB : Bd ≤ w.heap.size) :
    SlP w.heap.size w v (rep i ((x : Int), f) ++ [(a, g)]) := by
  have h := slp_own (qs := List.replicate i (((x : Int), f), u) ++ [((a, g), u2)]) (w := w) (v := v) (B := B) (Bd := Bd) (by rw [List.length_append, List.length_replicate, List.flatMap_append]; exact ho) (fun q hq => by
    rcases List.mem_append.1 hq with h | h
    · rw [List.eq_of_mem_replicate h]; exact hd
    · rw [List.mem_singleton.1 h]; exact hd2) hB
  rwa [List.map_append, List.map_replicate] at h
set_option maxHeartbeats 4000000 in
set_option maxRecDepth 100000 in
theorem few_any (k n size at_ many : Int) (vb : Value) (bl : List UInt8) (w : World) (hT : Typ w) (hv : SlB w.heap.size w vb bl) (hbl : bl.length ≤ maxLen) :
    Calls Tryd.prog 9 #[.int .i64 k, .int .i64 n, .int .i64 size, .int .i64 at_, .int .i64 many, vb] w (Bit true w) := by
  unfold maxLen at hbl
  have HT := Lib.hid hT
  have HV := Lib.hid hv
  obtain ⟨av, cv, rfl, _⟩ := hv.len
  clear hT hv
  go_enter Tryd.func9, Tryd.ntmps9
  go_wp2_with fail
  refine (within_num k 2 8 _ (by omega) (by omega) (by omega)).mono ?_
  rintro e w' ⟨kk, ⟨hk1, hk8⟩, rfl, rfl⟩
  go_wp2_with fail
  refine (within_num n kk 8 _ (by omega) (by omega) (by omega)).mono ?_
  rintro e w' ⟨nn, ⟨hn1, hn8⟩, rfl, rfl⟩
  go_wp2_with fail
  refine (new_yes kk nn w (by omega) (by omega) (by omega)).mono ?_
  rintro e w1 ⟨c, rfl, hC, hb1⟩
  have HC := Lib.hid hC
  have HB1 := Lib.hid hb1
  clear hC hb1
  go_wp2_with fail
  refine (within_num size 1 9 _ (by omega) (by omega) (by omega)).mono ?_
  rintro e w' ⟨s, ⟨hs1, hs9⟩, rfl, rfl⟩
  go_wp2_with fail
  refine (made_any w.heap.size kk s _ bl w1 (HV.out.below HB1.out) HB1.out.size (by omega) (by omega) hbl).mono ?_
  rintro e w2 ⟨v2, us2, rfl, hO2, hb2⟩
  have HO2 := Lib.hid hO2
  have HB2 := Lib.hid hb2
  obtain ⟨a2, c2, rfl, _⟩ := hO2.slice
  have hml : (madeL kk s bl).length = kk := madeL_length ..
  have HML := Lib.hid hml
  have HLE := Lib.hid (show ∀ j, j < kk → ((madeL kk s bl).getD j []).length = s from madeL_len)
  clear hO2 hb2
  rw [HML.out] at HO2 ⊢
  clear hml
  generalize madeL kk s bl = bs at *
  go_wp2_with fail
  have hslb2 := HO2.out.slbs
  refine (encode_yes w1.heap.size w2.heap.size c kk nn s _ bs w2 (HC.out.below HB2.out) HB2.out.size hslb2 (Nat.le_refl _) HML.out HLE.out (by omega)).mono ?_
  rintro e w3 ⟨v3, us3, rfl, hO3, hb3⟩
  have HB3 := Lib.hid (bthen HB1.out (bthen HB2.out hb3))
  have HC3 := Lib.hid (HC.out.below (bthen HB2.out hb3))
  have HB13 := Lib.hid (bthen HB2.out hb3).size
  have hL := encL_length kk nn s bs
  obtain ⟨a3, c3, rfl, hc3⟩ := hO3.slice
  have htop := hO3.top
  rw [hL] at hc3 htop
  obtain ⟨g3, rfl⟩ := own_addr htop (by omega)
  have hrow : ∀ i, i < nn → ∃ gi ci, w3.cell? ⟨g3, i, none⟩ = some (.slice (some ⟨gi, 0, none⟩) s ci) ∧ s ≤ ci ∧ SlB w3.heap.size w3 (.slice (some ⟨gi, 0, none⟩) s ci) ((encL kk nn bs s).getD i []) := fun i hi => by
    obtain ⟨gi, ci, e, hci⟩ := own_slice (hO3.each i (by rw [hL]; exact hi))
    have hs := hO3.slb (i := i) (by rw [hL]; exact hi)
    have hei := hO3.each i (by rw [hL]; exact hi)
    rw [encL_len i hi] at e hci
    rw [e, encL_len i hi] at hei
    rw [e] at hs
    obtain ⟨gb, rfl⟩ := own_addr hei (by omega)
    exact ⟨gb, ci, e ▸ hO3.cell (by rw [hL]; exact hi), hci, hs⟩
  have HROW := Lib.hid hrow
  have HLL := Lib.hid (fun i (hi : i < nn) => encL_len (k := kk) (n := nn) (s := s) (bs := bs) i hi)
  have hg3 := (own_lt htop).2.1
  rw [hL]
  clear hslb2 hO3 hb3 hrow htop hL
  generalize encL kk nn bs s = ll at *
  have hn1' : (0 : Int) ≤ (nn : Int) - 1 := by omega
  go_wp2_with fail
  refine (within_num at_ 0 ((nn : Int) - 1) _ (by omega) (by omega) (by omega)).mono ?_
  rintro e w' ⟨x, ⟨hx0, hxn⟩, rfl, rfl⟩
  have hxn' : x < nn := by omega
  obtain ⟨gx, cx, hx1, hx2, hx3⟩ := HROW.out x hxn'
  obtain ⟨g0, c0, hz1, hz2, hz3⟩ := HROW.out 0 (by omega)
  have HX1 := Lib.hid hx1
  have HX3 := Lib.hid hx3
  have HZ1 := Lib.hid hz1
  have HZ3 := Lib.hid hz3
  have HFX := Lib.hid (HLL.out x hxn')
  have HF0 := Lib.hid (HLL.out 0 (by omega))
  have HG3 := Lib.hid hg3
  clear hx1 hx3 hz1 hz3 hg3
  generalize ll.getD x [] = fx at *
  generalize ll.getD 0 [] = f0 at *
  go_wp2_with fail
  go_loopw [20, 21] (fun v c wr => RelFe w3.heap.size x fx (.slice (some ⟨gx, 0, none⟩) s cx) w3 v c wr) (fun _ c _ => 9 - (intOf c).toNat)
  case atStart => exact ⟨0, by omega, rfl, World.ownsRow_nil _ _ _ _, Below.refl _ _⟩
  case round =>
    obtain ⟨i, hi9, rfl, hown, hb⟩ := hrel
    have HO := Lib.hid hown
    have HB := Lib.hid hb
    obtain ⟨gp, cp, rfl, _⟩ := own_slice' hown
    have hcx := (hb.cell (p := ⟨g3, x, none⟩) HG3.out).trans HX1.out
    have hc0 := (hb.cell (p := ⟨g3, 0, none⟩) HG3.out).trans HZ1.out
    clear hown hb
    go_wp2_with fail
    refine (within_num many 1 9 _ (by omega) (by omega) (by omega)).mono ?_
    rintro e w' ⟨m, ⟨hm1, hm9⟩, rfl, rfl⟩
    by_cases him : i < m
    · have HS1 := Lib.hid (show i + 1 ≤ 100000 by omega)
      have HS2 := Lib.hid (fun o => show w3.heap.size ≤ (wr.alloc o).heap.size from (balloc HB.out o).size)
      have HOA := Lib.hid (fun o => HO.out.alloc o)
      go_wp2_with (at_builtin; refine wpList_append_part _ rfl (.tmp 81) (.tmp 88) rfl w3.heap.size _ _ _ rfl (HOA.out _) _ (.int .i64 x) (.slice (some ⟨gx, 0, none⟩) s cx) rfl (new_cells _ _ _ _ _ rfl) (new_cells _ _ _ _ _ rfl) rfl rfl HS1.out (HS2.out _) ?_; intro v2 w2 hown2 hg2; have HOW := Lib.hid hown2; have HGR := Lib.hid hg2; clear hown2 hg2)
      go_roundw
      case rel => exact relFe_next (by omega) (Nat.le_refl _) HO.out HB.out HOW.out HGR.out
      case measure => simp [intOf]; omega
    · have hi1 : 0 < i := by omega
      have hP := slp_rep HO.out (HX3.out.below HB.out) HB.out.size
      have HP := Lib.hid hP
      have HOK := Lib.hid (show ¬ 0 ≤ wrongAt nn (rep i ((x : Int), fx)) from rep_ok ⟨by omega, by omega⟩)
      have HDI := Lib.hid (rep_diff i ((x : Int), fx))
      have hlr : (rep i ((x : Int), fx)).length = i := by simp [rep]
      have hwb : w1.heap.size ≤ wr.heap.size := Nat.le_trans HB13.out HB.out.size
      have HCr := Lib.hid (HC3.out.below (Below.mono HB.out HB13.out))
      have HDF := Lib.hid (decode_few w1.heap.size wr.heap.size c kk nn _ _ wr HCr.out hwb hP (Nat.le_refl _) (by rw [hlr]; omega) HOK.out (by have := HDI.out; omega))
      clear hP
      have HFR : Hid (∀ w', Below w3.heap.size w3 w' → w'.cell? ⟨g3, 0, none⟩ = some (.slice (some ⟨g0, 0, none⟩) s c0)) := Lib.hid (fun w' h => (h.cell (p := ⟨g3, 0, none⟩) HG3.out).trans HZ1.out)
      generalize (diffP (rep i ((x : Int), fx))).length = d at *
      go_wp2_with fail
      refine HDF.out.mono ?_
      rintro e w4 ⟨rfl, hb4⟩
      have HO4 := Lib.hid (own_below HO.out hb4)
      have HB34 := Lib.hid (HB.out.trans (Below.mono hb4 HB.out.size))
      have hc0' := HFR.out w4 HB34.out
      have HOA4 := Lib.hid (fun o => HO4.out.alloc o)
      have HS1 := Lib.hid (show i + 1 ≤ 100000 by omega)
      have HS4 := Lib.hid (fun o => show w3.heap.size ≤ (w4.alloc o).heap.size from (balloc HB34.out o).size)
      clear hb4 hcx hc0
      go_wp2_with (at_builtin; refine wpList_append_part2 _ rfl (.tmp 98) (.tmp 104) rfl w3.heap.size _ _ _ rfl (HOA4.out _) _ (.int .i64 nn) (.slice (some ⟨g0, 0, none⟩) s c0) rfl (new_cells _ _ _ _ _ rfl) (new_cells _ _ _ _ _ rfl) rfl rfl HS1.out (HS4.out _) ?_; intro v5 w5 hown5 hg5 hkeep5; have HO5 := Lib.hid hown5; have HG5 := Lib.hid hg5; have HK5 := Lib.hid hkeep5; obtain ⟨g5, c5, rfl, _⟩ := own_slice' hown5; clear hown5 hg5 hkeep5)
      have HB35 := Lib.hid (show Below w3.heap.size w3 w5 from (balloc HB34.out _).trans (HG5.out.below (balloc HB34.out _).size fun q hq => (HO4.out.lt q hq).1))
      have hb15 : w1.heap.size ≤ w5.heap.size := Nat.le_trans HB13.out HB35.out.size
      have HWR := Lib.hid (show wrongAt nn (rep i ((x : Int), fx) ++ [((nn : Int), f0)]) = i from rep_bad (s := s) hi1 ⟨by omega, by omega⟩ HFX.out (Or.inl (by simp)))
      have HDB := Lib.hid (decode_bad w1.heap.size w5.heap.size c kk nn _ _ w5 (HC3.out.below (Below.mono HB35.out HB13.out)) hb15 (slp_rep1 HO5.out (HX3.out.below HB35.out) (HZ3.out.below HB35.out) HB35.out.size) (Nat.le_refl _) (by rw [List.length_append, hlr]; simp; omega) (by rw [HWR.out]; omega))
      rw [HWR.out] at HDB
      refine HDB.out.mono ?_
      rintro e w6 ⟨rfl, hb6⟩
      have HO6 := Lib.hid (own_below HK5.out hb6)
      have HB36 := Lib.hid (HB35.out.trans (Below.mono hb6 HB35.out.size))
      have hc0'' := HFR.out w6 HB36.out
      have HOA6 := Lib.hid (fun o => HO6.out.alloc o)
      have HS6 := Lib.hid (fun o => show w3.heap.size ≤ (w6.alloc o).heap.size from (balloc HB36.out o).size)
      clear hb6 hc0' hb15
      by_cases hs1c : c0 = 1
      · obtain rfl : s = 1 := by omega
        subst hs1c
        go_wp2_with (at_builtin; refine wpList_append_part2 _ rfl (.tmp 111) (.tmp 117) rfl w3.heap.size _ _ _ rfl (HOA6.out _) _ (.int .i64 0) (.slice (some ⟨g0, 0, none⟩) 0 0) rfl (new_cells _ _ _ _ _ rfl) (new_cells _ _ _ _ _ rfl) rfl rfl HS1.out (HS6.out _) ?_; intro v7 w7 hown7 hg7 hkeep7; have HO7 := Lib.hid hown7; have HG7 := Lib.hid hg7; obtain ⟨g7, c7, rfl, _⟩ := own_slice' hown7; clear hown7 hg7 hkeep7)
        have HB37 := Lib.hid (show Below w3.heap.size w3 w7 from (balloc HB36.out _).trans (HG7.out.below (balloc HB36.out _).size fun q hq => (HO6.out.lt q hq).1))
        have HWO := Lib.hid (show wrongAt nn (rep i ((x : Int), fx) ++ [((0 : Int), f0.drop 1)]) = i from rep_bad (s := 1) hi1 ⟨by omega, by omega⟩ HFX.out (Or.inr (by rw [List.length_drop, HF0.out]; omega)))
        have HDO := Lib.hid (decode_bad w1.heap.size w7.heap.size c kk nn _ _ w7 (HC3.out.below (Below.mono HB37.out HB13.out)) (Nat.le_trans HB13.out HB37.out.size) (slp_rep1 HO7.out (HX3.out.below HB37.out) (show SlB w3.heap.size w7 (.slice (some ⟨g0, 0, none⟩) 0 0) (f0.drop 1) from Or.inl ⟨List.drop_eq_nil_of_le (by have := HF0.out; omega), _, _, rfl⟩) HB37.out.size) (Nat.le_refl _) (by rw [List.length_append, hlr]; simp; omega) (by rw [HWO.out]; omega))
        rw [HWO.out] at HDO
        refine HDO.out.mono ?_
        rintro e w8 ⟨rfl, hb8⟩
        have HB38 := Lib.hid (HB37.out.trans (Below.mono hb8 HB37.out.size))
        have HB8 := Lib.hid (HB3.out.trans (Below.mono HB38.out HB3.out.size))
        clear hb8
        go_wp2_with fail
        refine (where_err [(opDecode, (i : Int))] 2 w8 _ rfl (HT.out.below HB8.out)).mono ?_
        rintro e w9 ⟨rfl, hb9⟩
        have HB9 := Lib.hid (bthen HB8.out hb9)
        have HB39 := Lib.hid (bthen HB38.out hb9)
        clear hb9
        simp only [show lastS [(opDecode, (i : Int))] = opDecode from rfl, show lastN [(opDecode, (i : Int))] = i from rfl, List.isEmpty_cons, Bool.not_false]
        go_wp2_with fail
        refine (where_err [(opDecode, (i : Int))] 2 w9 _ rfl (HT.out.below HB9.out)).mono ?_
        rintro e w10 ⟨rfl, hb10⟩
        have HB10 := Lib.hid (bthen HB9.out hb10)
        have HB310 := Lib.hid (bthen HB39.out hb10)
        clear hb10
        simp only [show lastS [(opDecode, (i : Int))] = opDecode from rfl, show lastN [(opDecode, (i : Int))] = i from rfl, List.isEmpty_cons, Bool.not_false]
        go_wp2_with fail
        refine (rebuild_bad w1.heap.size c kk nn nn _ w10 (HC3.out.below (Below.mono HB310.out HB13.out)) (by omega)).mono ?_
        rintro e w11 ⟨rfl, hb11⟩
        have HB11 := Lib.hid (bthen HB10.out hb11)
        clear hb11
        go_wp2_with fail
        refine (kind_err [(opDecode, (d : Int))] 3 w11 _ rfl (HT.out.below HB11.out)).mono ?_
        rintro e w12 ⟨rfl, hb12⟩
        have HB12 := Lib.hid (bthen HB11.out hb12)
        clear hb12
        go_wp2_with fail
        refine (kind_err [(opDecode, (i : Int))] 2 w12 _ rfl (HT.out.below HB12.out)).mono ?_
        rintro e w13 ⟨rfl, hb13⟩
        have HB13' := Lib.hid (bthen HB12.out hb13)
        clear hb13
        go_wp2_with fail
        refine (kind_err [(opDecode, (i : Int))] 2 w13 _ rfl (HT.out.below HB13'.out)).mono ?_
        rintro e w14 ⟨rfl, hb14⟩
        have HB14 := Lib.hid (bthen HB13'.out hb14)
        clear hb14
        go_wp2_with fail
        refine (kind_err [(opRebuild, (nn : Int))] 1 w14 _ rfl (HT.out.below HB14.out)).mono ?_
        rintro e w15 ⟨rfl, hb15⟩
        have HB15 := Lib.hid (bthen HB14.out hb15)
        clear hb15
        go_wp2_with fail
        refine (code_runs w15 (HT.out.below HB15.out)).mono ?_
        rintro e w16 ⟨rfl, hb16⟩
        have HB16 := Lib.hid (bthen HB15.out hb16)
        clear hb16
        go_wp2_with fail
        go_ret
        exact ⟨rfl, HB16.out⟩
      · have hc01 : (1 : Int) < c0 := by omega
        go_wp2_with (at_builtin; refine wpList_append_part2 _ rfl (.tmp 111) (.tmp 117) rfl w3.heap.size _ _ _ rfl (HOA6.out _) _ (.int .i64 0) (.slice (some ⟨g0, 1, none⟩) (s - 1) (c0 - 1)) rfl (new_cells _ _ _ _ _ rfl) (new_cells _ _ _ _ _ rfl) rfl rfl HS1.out (HS6.out _) ?_; intro v7 w7 hown7 hg7 hkeep7; have HO7 := Lib.hid hown7; have HG7 := Lib.hid hg7; obtain ⟨g7, c7, rfl, _⟩ := own_slice' hown7; clear hown7 hg7 hkeep7)
        have HB37 := Lib.hid (show Below w3.heap.size w3 w7 from (balloc HB36.out _).trans (HG7.out.below (balloc HB36.out _).size fun q hq => (HO6.out.lt q hq).1))
        have HWO := Lib.hid (show wrongAt nn (rep i ((x : Int), fx) ++ [((0 : Int), f0.drop 1)]) = i from rep_bad (s := s) hi1 ⟨by omega, by omega⟩ HFX.out (Or.inr (by rw [List.length_drop, HF0.out]; omega)))
        have HDO := Lib.hid (decode_bad w1.heap.size w7.heap.size c kk nn _ _ w7 (HC3.out.below (Below.mono HB37.out HB13.out)) (Nat.le_trans HB13.out HB37.out.size) (slp_rep1 HO7.out (HX3.out.below HB37.out) (slb_drop1 (HZ3.out.below HB37.out) HF0.out) HB37.out.size) (Nat.le_refl _) (by rw [List.length_append, hlr]; simp; omega) (by rw [HWO.out]; omega))
        rw [HWO.out] at HDO
        refine HDO.out.mono ?_
        rintro e w8 ⟨rfl, hb8⟩
        have HB38 := Lib.hid (HB37.out.trans (Below.mono hb8 HB37.out.size))
        have HB8 := Lib.hid (HB3.out.trans (Below.mono HB38.out HB3.out.size))
        clear hb8
        go_wp2_with fail
        refine (where_err [(opDecode, (i : Int))] 2 w8 _ rfl (HT.out.below HB8.out)).mono ?_
        rintro e w9 ⟨rfl, hb9⟩
        have HB9 := Lib.hid (bthen HB8.out hb9)
        have HB39 := Lib.hid (bthen HB38.out hb9)
        clear hb9
        simp only [show lastS [(opDecode, (i : Int))] = opDecode from rfl, show lastN [(opDecode, (i : Int))] = i from rfl, List.isEmpty_cons, Bool.not_false]
        go_wp2_with fail
        refine (where_err [(opDecode, (i : Int))] 2 w9 _ rfl (HT.out.below HB9.out)).mono ?_
        rintro e w10 ⟨rfl, hb10⟩
        have HB10 := Lib.hid (bthen HB9.out hb10)
        have HB310 := Lib.hid (bthen HB39.out hb10)
        clear hb10
        simp only [show lastS [(opDecode, (i : Int))] = opDecode from rfl, show lastN [(opDecode, (i : Int))] = i from rfl, List.isEmpty_cons, Bool.not_false]
        go_wp2_with fail
        refine (rebuild_bad w1.heap.size c kk nn nn _ w10 (HC3.out.below (Below.mono HB310.out HB13.out)) (by omega)).mono ?_
        rintro e w11 ⟨rfl, hb11⟩
        have HB11 := Lib.hid (bthen HB10.out hb11)
        clear hb11
        go_wp2_with fail
        refine (kind_err [(opDecode, (d : Int))] 3 w11 _ rfl (HT.out.below HB11.out)).mono ?_
        rintro e w12 ⟨rfl, hb12⟩
        have HB12 := Lib.hid (bthen HB11.out hb12)
        clear hb12
        go_wp2_with fail
        refine (kind_err [(opDecode, (i : Int))] 2 w12 _ rfl (HT.out.below HB12.out)).mono ?_
        rintro e w13 ⟨rfl, hb13⟩
        have HB13' := Lib.hid (bthen HB12.out hb13)
        clear hb13
        go_wp2_with fail
        refine (kind_err [(opDecode, (i : Int))] 2 w13 _ rfl (HT.out.below HB13'.out)).mono ?_
        rintro e w14 ⟨rfl, hb14⟩
        have HB14 := Lib.hid (bthen HB13'.out hb14)
        clear hb14
        go_wp2_with fail
        refine (kind_err [(opRebuild, (nn : Int))] 1 w14 _ rfl (HT.out.below HB14.out)).mono ?_
        rintro e w15 ⟨rfl, hb15⟩
        have HB15 := Lib.hid (bthen HB14.out hb15)
        clear hb15
        go_wp2_with fail
        refine (code_runs w15 (HT.out.below HB15.out)).mono ?_
        rintro e w16 ⟨rfl, hb16⟩
        have HB16 := Lib.hid (bthen HB15.out hb16)
        clear hb16
        go_wp2_with fail
        go_ret
        exact ⟨rfl, HB16.out⟩
end Go.Proofs.YtikhdfkfkipagaaDoor
