/-
  gram.Put: the bytes, or the error and where.
-/
import Derived.Test.YtoflfbcjlddjaaaDoorGPutM
import Derived.Test.YtoflfbcjlddjaaaDoorWhere
namespace Go.Proofs.YtoflfbcjlddjaaaDoor
open Go.RowKit

structure ValAt (B : Nat) (w : World) (b o : Nat) (x : Vl) : Prop where
  c0 : w.cell? ⟨b, o, none⟩ = some (.int .i64 x.n)
  c1 : w.cell? ⟨b, o + 1, none⟩ = some (.string x.s)
  c2 : ∃ lv, w.cell? ⟨b, o + 2, none⟩ = some lv ∧ SlT B w lv x.l
def ValsAt (B : Nat) (w : World) (b o : Nat) (xs : List Vl) : Prop := ∀ x, x < xs.length → ValAt B w b (o + x * 3) (xs.getD x v0)
/-- v is a slice of the values xs, in blocks ahead of B. -/
def SlV (B : Nat) (w : World) (v : Value) (xs : List Vl) : Prop :=
  (xs = [] ∧ ∃ a cap, v = .slice a 0 cap) ∨ ∃ b o cap, v = .slice (some ⟨b, o, none⟩) xs.length cap ∧ b < B ∧ ValsAt B w b o xs ∧ 0 < xs.length
theorem ValAt.mono {B : Nat} {w w' : World} {b o : Nat} {x : Vl} (h : ValAt B w b o x) (hb : b < B) (hc : ∀ b o, b < B → w'.cell? ⟨b, o, none⟩ = w.cell? ⟨b, o, none⟩) : ValAt B w' b o x := by
  obtain ⟨lv, h1, h2⟩ := h.c2
  exact ⟨by rw [hc _ _ hb]; exact h.c0, by rw [hc _ _ hb]; exact h.c1, lv, by rw [hc _ _ hb]; exact h1, h2.mono hc⟩
theorem SlV.mono {B : Nat} {w w' : World} {v : Value} {l : List Vl} (h : SlV B w v l) (hc : ∀ b o, b < B → w'.cell? ⟨b, o, none⟩ = w.cell? ⟨b, o, none⟩) : SlV B w' v l := by
  rcases h with h | ⟨b, o, cap, h1, h2, h3, h4⟩
  · exact Or.inl h
  · exact Or.inr ⟨b, o, cap, h1, h2, fun x hx => (h3 x hx).mono h2 hc, h4⟩
theorem SlV.below {B : Nat} {w w' : World} {v : Value} {l : List Vl} (h : SlV B w v l) (hb : Below B w w') : SlV B w' v l := h.mono fun b o hl => hb.cell (p := ⟨b, o, none⟩) hl
theorem SlV.wider {B B' : Nat} {w : World} {v : Value} {l : List Vl} (h : SlV B w v l) (hB : B ≤ B') : SlV B' w v l := by
  rcases h with h | ⟨b, o, cap, h1, h2, h3, h4⟩
  · exact Or.inl h
  · refine Or.inr ⟨b, o, cap, h1, by omega, fun x hx => ?_, h4⟩
    obtain ⟨lv, e1, e2⟩ := (h3 x hx).c2
    exact ⟨(h3 x hx).c0, (h3 x hx).c1, lv, e1, e2.wider hB⟩
theorem SlV.len {B : Nat} {w : World} {v : Value} {l : List Vl} (h : SlV B w v l) : ∃ a cap, v = .slice a l.length cap := by
  rcases h with ⟨rfl, a, cap, h⟩ | ⟨b, o, cap, h1, _⟩
  · exact ⟨a, cap, h⟩
  · exact ⟨_, cap, h1⟩

theorem fits_any (B : Nat) (f : Fl) (x : Vl) (lv : Value) (w : World) (hr : rightF f = true) (hlv : SlT B w lv x.l) (hB : B ≤ w.heap.size) (hl : x.l.length ≤ 100) :
    Calls Tryd.prog 39 #[.agg #[.int .i64 f.k, .int .i64 f.sz, .int .i64 f.lo, .int .i64 f.hi, .int .i64 f.mo], .agg #[.int .i64 x.n, .string x.s, lv]] w (Bit (fitsF f x) w) := by
  rcases right_kind hr with h | h | h
  · exact fits1 B f.k f.sz f.lo f.hi f.mo x.n x.s lv x.l w h hlv hB hl
  · exact fits2 B f.k f.sz f.lo f.hi f.mo x.n x.s lv x.l w h hlv hB hl
  · exact fits3 B f.k f.sz f.lo f.hi f.mo x.n x.s lv x.l w h hlv hB hl
theorem appendValue_any (B : Nat) (v : Value) (n : Nat) (f : Fl) (x : Vl) (lv : Value) (xs : List Value) (w : World) (hr : rightF f = true) (hok : x.ok) (hn : n ≤ 5000) (hlv : SlT B w lv x.l)
    (hown : w.ownsRow B 5 1 v n xs) (hB : B ≤ w.heap.size) :
    Calls Tryd.prog 40 #[v, .agg #[.int .i64 f.k, .int .i64 f.sz, .int .i64 f.lo, .int .i64 f.hi, .int .i64 f.mo], .agg #[.int .i64 x.n, .string x.s, lv]] w
      (App B v n (encF f x).length xs (bytesV (encF f x)) w) := by
  rcases right_kind hr with h | h | h
  · obtain ⟨s, h1, h2, _⟩ := right_size hr h
    rw [h1, encF, if_pos h, h1, Int.toNat_natCast, numB_length]
    exact appNum_any f.k B v n s f.lo f.hi f.mo x.n x.s lv xs w h h2 (by omega) hown hB
  · rw [encF, if_neg (by omega), if_pos h, textB_length]
    exact appText_any f.k B v n f.sz f.lo f.hi f.mo x.n x.s lv xs w h hok.s (by omega) hown hB
  · rw [encF, if_neg (by omega), if_neg (by omega)]
    exact appTexts_any f.k B v n f.sz f.lo f.hi f.mo x.n x.s lv x.l xs w h hn hok.l hok.t hlv hown hB

def gramPut : ByteArray := ⟨#[103, 114, 97, 109, 46, 80, 117, 116]⟩
/-- An error, and nothing beside it. -/
def Wrong (op : ByteArray) (k at_ : Int) (w : World) (e : Ending) (w' : World) : Prop := e = .returned (.tuple #[.slice none 0 0, wrapV op at_ (errV k)]) ∧ Below w.heap.size w w'

set_option maxHeartbeats 1000000 in
theorem put_wrong1 (B : Nat) (fv xv : Value) (fs : List Fl) (w : World) (hf : SlF B w fv fs) (hB : B ≤ w.heap.size) (hl : fs.length ≤ 100) (hh : ∀ f ∈ fs, f.hi ≤ 9223372036854775807)
    (h : 0 ≤ firstAt wrongF fs 0) : Calls Tryd.prog 17 #[fv, xv] w (Wrong gramPut 1 (firstAt wrongF fs 0) w) := by
  have Hfw := Lib.hid (firstWrong_any B fv fs w hf hB hl hh); clear hf hh
  generalize firstAt wrongF fs 0 = n at *
  go_enter Tryd.func17, Tryd.ntmps17
  go_wp2_with fail
  refine Hfw.out.mono ?_
  rintro e w1 ⟨rfl, hb⟩
  have Hb := Lib.hid hb; clear hb
  go_wp2_with (go_at_call 31; refine (wrap_some _ _ _ _ _).mono ?_; rintro e w' ⟨rfl, rfl⟩)
  go_ret2
  exact ⟨rfl, Hb.out⟩
set_option maxHeartbeats 1000000 in
theorem put_wrong2 (B : Nat) (fv xv : Value) (fs : List Fl) (xs : List Vl) (w : World) (hf : SlF B w fv fs) (hx : SlV B w xv xs) (hB : B ≤ w.heap.size) (hl : fs.length ≤ 100) (hh : ∀ f ∈ fs, f.hi ≤ 9223372036854775807)
    (h : firstAt wrongF fs 0 < 0) (hne : xs.length ≠ fs.length) : Calls Tryd.prog 17 #[fv, xv] w (Wrong gramPut 1 xs.length w) := by
  have Hfw := Lib.hid (firstWrong_any B fv fs w hf hB hl hh); clear hh
  generalize firstAt wrongF fs 0 = n at *
  obtain ⟨a, cap, rfl⟩ := hf.len
  obtain ⟨a2, cap2, rfl⟩ := hx.len
  clear hf hx
  go_enter Tryd.func17, Tryd.ntmps17
  go_wp2_with fail
  refine Hfw.out.mono ?_
  rintro e w1 ⟨rfl, hb⟩
  have Hb := Lib.hid hb; clear hb
  go_wp2_with (go_at_call 31; refine (wrap_some _ _ _ _ _).mono ?_; rintro e w' ⟨rfl, rfl⟩)
  go_ret2
  exact ⟨rfl, Hb.out⟩

theorem zip_getD (fs : List Fl) (xs : List Vl) (k : Nat) (h1 : k < fs.length) (h2 : k < xs.length) : (fs.zip xs).getD k (f0, v0) = (fs.getD k f0, xs.getD k v0) := by
  have h3 : k < (fs.zip xs).length := by rw [List.length_zip]; omega
  rw [List.getD_eq_getElem?_getD, List.getElem?_eq_getElem h3, List.getElem_zip]
  simp [List.getD, h1, h2]

def RelC (n : Nat) (p : Nat → Bool) (w : World) (c : Value) (wr : World) : Prop := ∃ k : Nat, k ≤ n ∧ c = .int .i64 k ∧ (∀ x, x < k → p x = true) ∧ Below w.heap.size w wr

set_option maxHeartbeats 2000000 in
set_option maxRecDepth 100000 in
theorem put_misfit (fv xv : Value) (fs : List Fl) (xs : List Vl) (w : World) (hf : SlF w.heap.size w fv fs) (hx : SlV w.heap.size w xv xs) (hl : fs.length ≤ 100) (hh : ∀ f ∈ fs, f.hi ≤ 9223372036854775807)
    (h : firstAt wrongF fs 0 < 0) (he : xs.length = fs.length) (hok : ∀ x ∈ xs, x.ok) (j : Nat) (hj : firstAt misfit (fs.zip xs) 0 = j) :
    Calls Tryd.prog 17 #[fv, xv] w (Wrong gramPut 2 j w) := by
  have Hfw := Lib.hid (firstWrong_any w.heap.size fv fs w hf (Nat.le_refl _) hl hh); clear hh
  have hra := right_all fs (by omega)
  generalize firstAt wrongF fs 0 = n at *
  have HF := Lib.hid hf
  have HX := Lib.hid hx
  have Hra := Lib.hid hra
  have Hok := Lib.hid hok
  have Hj := Lib.hid hj
  obtain ⟨a, cap, rfl⟩ := hf.len
  obtain ⟨a2, cap2, rfl⟩ := hx.len
  have He := Lib.hid he
  rw [he]
  clear hf hx hra hok hj he
  go_enter Tryd.func17, Tryd.ntmps17
  go_wp2_with fail
  refine Hfw.out.mono ?_
  rintro e w1 ⟨rfl, hb⟩
  have Hb := Lib.hid hb; clear hb
  go_wp2_with fail
  go_loopw [30] (fun c wr => RelC fs.length (fun x => !misfit ((fs.zip xs).getD x (f0, v0))) w c wr) (fun c _ => fs.length - (intOf c).toNat)
  case atStart => exact ⟨0, Nat.zero_le _, rfl, fun x hx => absurd hx (by omega), Hb.out⟩
  case round =>
    obtain ⟨k, hk, rfl, hno, hB⟩ := hrel
    have Hno := Lib.hid hno; clear hno
    have HB := Lib.hid hB
    by_cases hlt : k < fs.length
    · rcases HF.out.below hB with ⟨h0, _⟩ | ⟨b, o, cap', h1, h2, h3, h4⟩
      · simp [h0] at hlt
      injection h1 with h1 h1' h1''
      subst h1 h1''
      rcases HX.out.below hB with ⟨h0, _⟩ | ⟨b', o', cap'', h5, h6, h7, h8⟩
      · have := He.out; rw [h0] at this; simp at this; omega
      rw [He.out] at h5
      injection h5 with h5 h5' h5''
      subst h5 h5''
      obtain ⟨d0, d1, d2, d3, d4⟩ := h3 k hlt
      obtain ⟨e0, e1, lv, e2, e3⟩ := h7 k (by have := He.out; omega)
      have hrf := Hra.out _ (getD_mem fs k f0 hlt)
      have hxo := Hok.out _ (getD_mem xs k v0 (by have := He.out; omega))
      have hz := Lib.hid (zip_getD fs xs k hlt (by have := He.out; omega))
      generalize fs.getD k f0 = f at *
      generalize xs.getD k v0 = x at *
      have Hfit := Lib.hid (fun W (hW : Below w.heap.size wr W) => fits_any w.heap.size f x lv W hrf (e3.below hW) (Nat.le_trans HB.out.size hW.size) (by have := hxo.l; omega))
      clear h3 h7 hB h1' h5' hrf hxo e3
      go_wp2_with fail
      obtain ⟨W, hW⟩ : ∃ W, W = wr.alloc (.cells #[.int .i64 f.k, .int .i64 f.sz, .int .i64 f.lo, .int .i64 f.hi, .int .i64 f.mo] 46) := ⟨_, rfl⟩
      have q := fun (i : Nat) (v : Value) (h : (wr.alloc (.cells #[.int .i64 f.k, .int .i64 f.sz, .int .i64 f.lo, .int .i64 f.hi, .int .i64 f.mo] 46)).cell? ⟨wr.heap.size, i, none⟩ = some v) => (show W.cell? ⟨wr.heap.size, i, none⟩ = some v by rw [hW]; exact h)
      have q0 := q 0 (.int .i64 f.k) (by simp)
      have q1 := q 1 (.int .i64 f.sz) (by simp)
      have q2 := q 2 (.int .i64 f.lo) (by simp)
      have q3 := q 3 (.int .i64 f.hi) (by simp)
      have q4 := q 4 (.int .i64 f.mo) (by simp)
      have qb : Below wr.heap.size wr W := by rw [hW]; exact one_below _ _
      have hb' : b' < wr.heap.size := Nat.lt_of_lt_of_le h6 HB.out.size
      replace e0 := (qb.cell (p := ⟨b', o' + k * 3, none⟩) hb').trans e0
      replace e1 := (qb.cell (p := ⟨b', o' + k * 3 + 1, none⟩) hb').trans e1
      replace e2 := (qb.cell (p := ⟨b', o' + k * 3 + 2, none⟩) hb').trans e2
      rw [← hW]
      have Qb := Lib.hid qb
      clear q hW qb d0 d1 d2 d3 d4
      go_still_tail 5, (by kernel_rfl)
      go_wp2_with fail
      refine (Hfit.out _ (Qb.out.mono HB.out.size).drew).mono ?_
      rintro e w2 ⟨rfl, hb2⟩
      have Hb2 := Lib.hid (bthen HB.out (bthen Qb.out.drew hb2)); clear hb2 q0 q1 q2 q3 q4 e0 e1 e2
      cases hfx : fitsF f x
      · have Hfx := Lib.hid hfx; clear hfx
        go_wp2_with (go_at_call 31; refine (wrap_some _ _ _ _ _).mono ?_; rintro e w' ⟨rfl, rfl⟩)
        go_ret2
        have hkj : firstAt misfit (fs.zip xs) 0 = k := firstAt_here misfit (f0, v0) _ k (by rw [List.length_zip, He.out]; omega) (fun x hx => by simpa using Hno.out x hx) (by rw [hz.out]; simp [misfit, Hfx.out])
        obtain rfl : k = j := by have := Hj.out; omega
        exact ⟨rfl, Hb2.out⟩
      · have Hfx := Lib.hid hfx; clear hfx
        go_wp2_with fail
        go_roundw
        case rel =>
          refine ⟨k + 1, by omega, by go_num, fun x hx => ?_, Hb2.out⟩
          rcases Nat.lt_or_ge x k with h | h
          · exact Hno.out x h
          · obtain rfl : x = k := by omega
            show (!misfit ((fs.zip xs).getD x (f0, v0))) = true
            rw [hz.out]; simp [misfit, Hfx.out]
        case measure => simp [intOf]; omega
    · exfalso
      obtain rfl : k = fs.length := by omega
      have hnone := firstAt_none misfit (f0, v0) (fs.zip xs) (fun x hx => by
        have := Hno.out x (by rw [List.length_zip, He.out] at hx; omega)
        simpa using this)
      have := Hj.out
      omega
def PutOk (l : List UInt8) (w : World) (e : Ending) (w' : World) : Prop :=
  ∃ v, e = .returned (.tuple #[v, .nilIface]) ∧ w'.ownsRow w.heap.size 5 1 v l.length (bytesV l) ∧ Below w.heap.size w w'
def RelB (fs : List Fl) (xs : List Vl) (w : World) (v c : Value) (wr : World) : Prop :=
  ∃ k : Nat, k ≤ fs.length ∧ c = .int .i64 k ∧ wr.ownsRow w.heap.size 5 1 v (((fs.zip xs).take k).flatMap encP).length (bytesV (((fs.zip xs).take k).flatMap encP)) ∧ Below w.heap.size w wr

set_option maxHeartbeats 2000000 in
set_option maxRecDepth 100000 in
theorem put_ok (fv xv : Value) (fs : List Fl) (xs : List Vl) (w : World) (hf : SlF w.heap.size w fv fs) (hx : SlV w.heap.size w xv xs) (hl : fs.length ≤ 100) (hh : ∀ f ∈ fs, f.hi ≤ 9223372036854775807)
    (h : firstAt wrongF fs 0 < 0) (he : xs.length = fs.length) (hok : ∀ x ∈ xs, x.ok) (hj : firstAt misfit (fs.zip xs) 0 < 0) (hsm : (putB fs xs).length ≤ 5000) :
    Calls Tryd.prog 17 #[fv, xv] w (PutOk (putB fs xs) w) := by
  have Hfw := Lib.hid (firstWrong_any w.heap.size fv fs w hf (Nat.le_refl _) hl hh); clear hh
  have hra := right_all fs (by omega)
  generalize firstAt wrongF fs 0 = n at *
  have HF := Lib.hid hf
  have HX := Lib.hid hx
  have Hra := Lib.hid hra
  have Hok := Lib.hid hok
  have Hfa := Lib.hid (fit_all _ (show ¬ 0 ≤ firstAt misfit (fs.zip xs) 0 by omega))
  obtain ⟨a, cap, rfl⟩ := hf.len
  obtain ⟨a2, cap2, rfl⟩ := hx.len
  have He := Lib.hid he
  rw [he]
  clear hf hx hra hok hj he
  go_enter Tryd.func17, Tryd.ntmps17
  go_wp2_with fail
  refine Hfw.out.mono ?_
  rintro e w1 ⟨rfl, hb⟩
  have Hb := Lib.hid hb; clear hb
  go_wp2_with fail
  go_loopw [30] (fun c wr => RelC fs.length (fun _ => true) w c wr) (fun c _ => fs.length - (intOf c).toNat)
  case atStart => exact ⟨0, Nat.zero_le _, rfl, fun x hx => absurd hx (by omega), Hb.out⟩
  case round =>
    obtain ⟨k, hk, rfl, hno, hB⟩ := hrel
    have Hno := Lib.hid hno; clear hno
    have HB := Lib.hid hB
    by_cases hlt : k < fs.length
    · rcases HF.out.below hB with ⟨h0, _⟩ | ⟨b, o, cap', h1, h2, h3, h4⟩
      · simp [h0] at hlt
      injection h1 with h1 h1' h1''
      subst h1 h1''
      rcases HX.out.below hB with ⟨h0, _⟩ | ⟨b', o', cap'', h5, h6, h7, h8⟩
      · have := He.out; rw [h0] at this; simp at this; omega
      rw [He.out] at h5
      injection h5 with h5 h5' h5''
      subst h5 h5''
      obtain ⟨d0, d1, d2, d3, d4⟩ := h3 k hlt
      obtain ⟨e0, e1, lv, e2, e3⟩ := h7 k (by have := He.out; omega)
      have hrf := Hra.out _ (getD_mem fs k f0 hlt)
      have hxo := Hok.out _ (getD_mem xs k v0 (by have := He.out; omega))
      have hz := zip_getD fs xs k hlt (by have := He.out; omega)
      have hfx := Hfa.out _ (getD_mem (fs.zip xs) k (f0, v0) (by rw [List.length_zip, He.out]; omega))
      rw [hz] at hfx
      simp only at hfx
      generalize fs.getD k f0 = f at *
      generalize xs.getD k v0 = x at *
      have Hfit := Lib.hid (fun W (hW : Below w.heap.size wr W) => fits_any w.heap.size f x lv W hrf (e3.below hW) (Nat.le_trans HB.out.size hW.size) (by have := hxo.l; omega))
      have Hfx := Lib.hid hfx
      clear h3 h7 hB h1' h5' hrf hxo e3 hz hfx
      go_wp2_with fail
      obtain ⟨W, hW⟩ : ∃ W, W = wr.alloc (.cells #[.int .i64 f.k, .int .i64 f.sz, .int .i64 f.lo, .int .i64 f.hi, .int .i64 f.mo] 46) := ⟨_, rfl⟩
      have q := fun (i : Nat) (v : Value) (h : (wr.alloc (.cells #[.int .i64 f.k, .int .i64 f.sz, .int .i64 f.lo, .int .i64 f.hi, .int .i64 f.mo] 46)).cell? ⟨wr.heap.size, i, none⟩ = some v) => (show W.cell? ⟨wr.heap.size, i, none⟩ = some v by rw [hW]; exact h)
      have q0 := q 0 (.int .i64 f.k) (by simp)
      have q1 := q 1 (.int .i64 f.sz) (by simp)
      have q2 := q 2 (.int .i64 f.lo) (by simp)
      have q3 := q 3 (.int .i64 f.hi) (by simp)
      have q4 := q 4 (.int .i64 f.mo) (by simp)
      have qb : Below wr.heap.size wr W := by rw [hW]; exact one_below _ _
      have hb' : b' < wr.heap.size := Nat.lt_of_lt_of_le h6 HB.out.size
      replace e0 := (qb.cell (p := ⟨b', o' + k * 3, none⟩) hb').trans e0
      replace e1 := (qb.cell (p := ⟨b', o' + k * 3 + 1, none⟩) hb').trans e1
      replace e2 := (qb.cell (p := ⟨b', o' + k * 3 + 2, none⟩) hb').trans e2
      rw [← hW]
      have Qb := Lib.hid qb
      clear q hW qb d0 d1 d2 d3 d4
      go_still_tail 5, (by kernel_rfl)
      go_wp2_with fail
      refine (Hfit.out _ (Qb.out.mono HB.out.size).drew).mono ?_
      rw [Hfx.out]
      rintro e w2 ⟨rfl, hb2⟩
      have Hb2 := Lib.hid (bthen HB.out (bthen Qb.out.drew hb2)); clear hb2 q0 q1 q2 q3 q4 e0 e1 e2
      go_wp2_with fail
      go_roundw
      case rel => exact ⟨k + 1, by omega, by go_num, fun _ _ => rfl, Hb2.out⟩
      case measure => simp [intOf]; omega
    · obtain rfl : k = fs.length := by omega
      clear hB
      go_wp2_with fail
      go_loopw [9, 48] (fun v c wr => RelB fs xs w v c wr) (fun _ c _ => fs.length - (intOf c).toNat)
      case atStart => exact ⟨0, Nat.zero_le _, rfl, by simpa [bytesV] using World.ownsRow_nil _ _ _ _, HB.out⟩
      case round =>
        obtain ⟨k, hk, rfl, hown, hB⟩ := hrel
        have HB := Lib.hid hB
        by_cases hlt : k < fs.length
        · rcases HF.out.below hB with ⟨h0, _⟩ | ⟨b, o, cap', h1, h2, h3, h4⟩
          · simp [h0] at hlt
          injection h1 with h1 h1' h1''
          subst h1 h1''
          rcases HX.out.below hB with ⟨h0, _⟩ | ⟨b', o', cap'', h5, h6, h7, h8⟩
          · have := He.out; rw [h0] at this; simp at this; omega
          rw [He.out] at h5
          injection h5 with h5 h5' h5''
          subst h5 h5''
          obtain ⟨d0, d1, d2, d3, d4⟩ := h3 k hlt
          obtain ⟨e0, e1, lv, e2, e3⟩ := h7 k (by have := He.out; omega)
          have hrf := Hra.out _ (getD_mem fs k f0 hlt)
          have hxo := Hok.out _ (getD_mem xs k v0 (by have := He.out; omega))
          have hz := zip_getD fs xs k hlt (by have := He.out; omega)
          have hts := take_snoc (fs.zip xs) k (f0, v0) (by rw [List.length_zip, He.out]; omega)
          rw [hz] at hts
          generalize fs.getD k f0 = f at *
          generalize xs.getD k v0 = x at *
          have hpre := flat_take_le encP (fs.zip xs) k
          have Hts := Lib.hid (show ((fs.zip xs).take (k + 1)).flatMap encP = ((fs.zip xs).take k).flatMap encP ++ encF f x by rw [hts, List.flatMap_append]; simp [encP])
          have Happ := Lib.hid (fun W (hW : Below wr.heap.size wr W) => appendValue_any w.heap.size u9 _ f x lv _ W hrf hxo (by unfold putB at hsm; omega) (e3.below (hW.mono HB.out.size)) (own_below hown hW) (Nat.le_trans HB.out.size hW.size))
          have Hlt := Lib.hid (fun k hk => (hown.lt k hk).1)
          clear h3 h7 hB h1' h5' hrf hxo e3 hz hts hpre hown
          go_wp2_with fail
          obtain ⟨W, hW⟩ : ∃ W, W = wr.alloc (.cells #[.int .i64 f.k, .int .i64 f.sz, .int .i64 f.lo, .int .i64 f.hi, .int .i64 f.mo] 46) := ⟨_, rfl⟩
          have q := fun (i : Nat) (v : Value) (h : (wr.alloc (.cells #[.int .i64 f.k, .int .i64 f.sz, .int .i64 f.lo, .int .i64 f.hi, .int .i64 f.mo] 46)).cell? ⟨wr.heap.size, i, none⟩ = some v) => (show W.cell? ⟨wr.heap.size, i, none⟩ = some v by rw [hW]; exact h)
          have q0 := q 0 (.int .i64 f.k) (by simp)
          have q1 := q 1 (.int .i64 f.sz) (by simp)
          have q2 := q 2 (.int .i64 f.lo) (by simp)
          have q3 := q 3 (.int .i64 f.hi) (by simp)
          have q4 := q 4 (.int .i64 f.mo) (by simp)
          have qb : Below wr.heap.size wr W := by rw [hW]; exact one_below _ _
          have hb' : b' < wr.heap.size := Nat.lt_of_lt_of_le h6 HB.out.size
          replace e0 := (qb.cell (p := ⟨b', o' + k * 3, none⟩) hb').trans e0
          replace e1 := (qb.cell (p := ⟨b', o' + k * 3 + 1, none⟩) hb').trans e1
          replace e2 := (qb.cell (p := ⟨b', o' + k * 3 + 2, none⟩) hb').trans e2
          rw [← hW]
          have Qb := Lib.hid qb
          clear q hW qb d0 d1 d2 d3 d4
          go_still_tail 6, (by kernel_rfl)
          go_wp2_with fail
          refine (Happ.out _ Qb.out.drew).mono ?_
          rintro e w2 ⟨v2, rfl, hown2, hg2⟩
          have Hb2 := Lib.hid ((HB.out.trans (Qb.out.drew.mono HB.out.size)).trans (hg2.below (Nat.le_trans HB.out.size Qb.out.size) Hlt.out))
          have Hown2 := Lib.hid hown2
          clear hg2 hown2 q0 q1 q2 q3 q4 e0 e1 e2
          go_wp2_with fail
          go_roundw
          case rel => exact ⟨k + 1, by omega, by go_num, by rw [Hts.out, List.length_append, bytesV_append]; exact Hown2.out, Hb2.out⟩
          case measure => simp [intOf]; omega
        · obtain rfl : k = fs.length := by omega
          have Hown := Lib.hid hown
          clear hB hown
          go_wp2_with fail
          go_ret2
          refine ⟨_, rfl, ?_, HB.out⟩
          have h := Hown.out
          rw [List.take_of_length_le (by rw [List.length_zip, He.out]; omega)] at h
          exact h
end Go.Proofs.YtoflfbcjlddjaaaDoor
