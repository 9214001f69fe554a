/-
  gram.Get: the values, or the error and where.
-/
import Derived.Test.YtoflfbcjlddjaaaDoorGVal
namespace Go.Proofs.YtoflfbcjlddjaaaDoor
open Go.RowKit

def cellsP (p : Vl × Value) : List Value := [.int .i64 p.1.n, .string p.1.s, p.2]
theorem cellsP_length (ps : List (Vl × Value)) : (ps.flatMap cellsP).length = ps.length * 3 := by
  induction ps with
  | nil => rfl
  | cons p ps ih => rw [List.flatMap_cons, List.length_append, ih]; simp [cellsP]; omega
/-- v is a slice of the values xs, in rows of the call's own, from block B on, no two of them one. -/
def ValsV (B : Nat) (w : World) (xs : List Vl) (v : Value) : Prop :=
  ∃ ps : List (Vl × Value), ps.map (·.1) = xs ∧ w.ownsRow B 51 3 v ps.length (ps.flatMap cellsP) ∧ ∀ p ∈ ps, TextsV B w p.1.l p.2 ∧ (p.2.ownBlock = none ∨ p.2.ownBlock ≠ v.ownBlock)
theorem ValsV.grew {B rb : Nat} {w w' : World} {r' : Option Nat} {xs : List Vl} {v : Value} (h : ValsV B w xs v) (hg : Grew w (some rb) w' r') (hB : rb < B) : ValsV B w' xs v := by
  obtain ⟨ps, h1, h2, h3⟩ := h
  exact ⟨ps, h1, own_grew h2 hg hB, fun p hp => ⟨own_grew (h3 p hp).1 hg hB, (h3 p hp).2⟩⟩
theorem ValsV.below {B : Nat} {w w' : World} {xs : List Vl} {v : Value} (h : ValsV B w xs v) (hb : Below w.heap.size w w') : ValsV B w' xs v := by
  obtain ⟨ps, h1, h2, h3⟩ := h
  exact ⟨ps, h1, own_below h2 hb, fun p hp => ⟨own_below (h3 p hp).1 hb, (h3 p hp).2⟩⟩
theorem ValsV.base {B B' : Nat} {w : World} {xs : List Vl} {v : Value} (h : ValsV B w xs v) (hB : B' ≤ B) : ValsV B' w xs v := by
  obtain ⟨ps, h1, h2, h3⟩ := h
  exact ⟨ps, h1, own_base h2 hB, fun p hp => ⟨own_base (h3 p hp).1 hB, (h3 p hp).2⟩⟩
theorem ValsV.nil (B : Nat) (w : World) : ValsV B w [] (.slice none 0 0) := ⟨[], rfl, World.ownsRow_nil _ _ _ _, fun p hp => by cases hp⟩
/-- Behind an append of one more. -/
theorem ValsV.snoc {B : Nat} {w w' : World} {xs : List Vl} {x : Vl} {v v' lv : Value} {ps : List (Vl × Value)} (h1 : ps.map (·.1) = xs) (h3 : ∀ p ∈ ps, TextsV B w p.1.l p.2 ∧ (p.2.ownBlock = none ∨ p.2.ownBlock ≠ v.ownBlock))
    (hl : TextsV B w x.l lv) (hne : lv.ownBlock = none ∨ lv.ownBlock ≠ v.ownBlock) (hg : Grew w v.ownBlock w' v'.ownBlock) (hown : w'.ownsRow B 51 3 v' (ps.length + 1) (ps.flatMap cellsP ++ [.int .i64 x.n, .string x.s, lv])) :
    ValsV B w' (xs ++ [x]) v' := by
  have key : ∀ (l : List ByteArray) (u : Value), TextsV B w l u → (u.ownBlock = none ∨ u.ownBlock ≠ v.ownBlock) → TextsV B w' l u ∧ (u.ownBlock = none ∨ u.ownBlock ≠ v'.ownBlock) := by
    intro l u hu hn
    refine ⟨hu.kept hg.by_ hn, ?_⟩
    rcases hn with hn | hn
    · exact Or.inl hn
    · rcases hg.own with e | e
      · exact Or.inr (by rw [e]; exact hn)
      · cases hb : u.ownBlock with
        | none => exact Or.inl rfl
        | some k =>
          refine Or.inr fun e' => ?_
          have h1 := (hu.lt k hb).2
          have h2 := e k e'.symm
          omega
  refine ⟨ps ++ [(x, lv)], by simp [h1], by simpa [cellsP] using hown, fun p hp => ?_⟩
  rcases List.mem_append.1 hp with hp | hp
  · exact key _ _ (h3 p hp).1 (h3 p hp).2
  · obtain rfl := List.mem_singleton.1 hp
    exact key _ _ hl hne
theorem Tryd.info51 : (Tryd.prog.info? 51).map (fun i => (i.zero, i.size, i.bytes)) = some (some (.agg #[.int .i64 0, .string ⟨#[]⟩, .slice none 0 0]), 3, 48) := by kernel_rfl

theorem textsLoop_le {mo : Int} {bs : List UInt8} : ∀ {k a b : Nat} {l : List ByteArray}, a ≤ bs.length → textsLoop mo bs k a = .good l b → b ≤ bs.length
  | 0, a, b, l, ha, h => by unfold textsLoop at h; injection h with _ e; omega
  | k + 1, a, b, l, ha, h => by
    unfold textsLoop at h
    cases hT : textG 0 mo bs a with
    | bad e => rw [hT] at h; cases h
    | good s a' =>
      rw [hT] at h
      simp only at h
      cases hL : textsLoop mo bs k a' with
      | bad e => rw [hL] at h; cases h
      | good l' b' =>
        rw [hL] at h
        injection h with _ e
        have := textsLoop_le (textG_good hT).2.1 hL
        omega
theorem valG_le {f : Fl} {bs : List UInt8} {a b : Nat} {x : Vl} (h : valG f bs a = .good x b) : b ≤ bs.length := by
  unfold valG at h
  split at h
  · cases hN : numG f.sz.toNat f.lo f.hi bs a with
    | bad k => rw [hN] at h; cases h
    | good n a' => rw [hN] at h; injection h with _ e; have := (numG_good hN).2.1; omega
  · split at h
    · cases hN : textG f.lo f.hi bs a with
      | bad k => rw [hN] at h; cases h
      | good n a' => rw [hN] at h; injection h with _ e; have := (textG_good hN).2.1; omega
    · unfold textsG at h
      cases hN : numG 1 f.lo f.hi bs a with
      | bad k => rw [hN] at h; cases h
      | good n a' =>
        rw [hN] at h
        simp only at h
        cases hL : textsLoop f.mo bs n.toNat a' with
        | bad k => rw [hL] at h; cases h
        | good l b' => rw [hL] at h; injection h with _ e; have := textsLoop_le (numG_good hN).2.1 hL; omega

theorem cells3_new (w : World) (a b c : Value) (T : TypeId) (n : Nat) (hn : n = w.heap.size) : ∀ j u, [a, b, c][j]? = some u → (w.alloc (.cells #[a, b, c] T)).cell? ((⟨n, 0, none⟩ : Addr).add j) = some u := by
  intro j u hu
  subst hn
  have hadd : (⟨w.heap.size, 0, none⟩ : Addr).add j = ⟨w.heap.size, j, none⟩ := by unfold Addr.add; split <;> simp_all
  rw [hadd]
  match j, hu with
  | 0, hu => simpa using hu
  | 1, hu => simpa using hu
  | 2, hu => simpa using hu
  | j + 3, hu => simp at hu

def gramGet : ByteArray := ⟨#[103, 114, 97, 109, 46, 71, 101, 116]⟩
def GetPost (A : Ans) (w : World) (e : Ending) (w' : World) : Prop :=
  match A with
  | .no k p => Wrong gramGet k p w e w'
  | .yes xs _ => ∃ v, e = .returned (.tuple #[v, .nilIface]) ∧ ValsV w.heap.size w' xs v ∧ Below w.heap.size w w'

set_option maxHeartbeats 1000000 in
theorem get_wrong (B : Nat) (fv bv : Value) (fs : List Fl) (w : World) (hf : SlF B w fv fs) (hB : B ≤ w.heap.size) (hl : fs.length ≤ 100) (hh : ∀ f ∈ fs, f.hi ≤ 9223372036854775807)
    (h : 0 ≤ firstAt wrongF fs 0) : Calls Tryd.prog 10 #[fv, bv] w (Wrong gramGet 1 (firstAt wrongF fs 0) w) := by
  have Hfw := Lib.hid (firstWrong_any B fv fs w hf hB hl hh); clear hf hh
  generalize firstAt wrongF fs 0 = n at *
  go_enter Tryd.func10, Tryd.ntmps10
  go_wp2_with fail
  refine Hfw.out.mono ?_
  rintro e w1 ⟨rfl, hb⟩
  have Hb := Lib.hid hb; clear hb
  go_wp2_with (go_at_call 31; refine (wrap_some _ _ _ _ _).mono ?_; rintro e w' ⟨rfl, rfl⟩)
  go_ret2
  exact ⟨rfl, Hb.out⟩

def RelGet (B rb : Nat) (bv : Value) (fs : List Fl) (bs : List UInt8) (A : Ans) (w : World) (v c : Value) (wr : World) : Prop :=
  ∃ (k a : Nat) (pre : List Vl), k ≤ fs.length ∧ c = .int .i64 k ∧ pre.length = k ∧ A = ended bs (onV pre (getL bs (fs.drop k) a)) ∧ a ≤ bs.length ∧ ValsV B wr pre v ∧ Rd rb bv a wr ∧ Grew w (some rb) wr (some rb)

set_option maxHeartbeats 2000000 in
set_option maxRecDepth 100000 in
theorem get_any (fv bv : Value) (fs : List Fl) (bs : List UInt8) (w : World) (hf : SlF w.heap.size w fv fs) (hb : SlB w.heap.size w bv bs) (hl : fs.length ≤ 100) (hbl : bs.length ≤ 100000) (hh : ∀ f ∈ fs, f.hi ≤ 9223372036854775807)
    (h : firstAt wrongF fs 0 < 0) : Calls Tryd.prog 10 #[fv, bv] w (GetPost (getM fs bs) w) := by
  have Hfw := Lib.hid (firstWrong_any w.heap.size fv fs w hf (Nat.le_refl _) hl hh)
  have Hra := Lib.hid (right_all fs (by omega))
  have HF := Lib.hid hf
  have HBv := Lib.hid hb
  have Hh := Lib.hid hh
  obtain ⟨i0, hi0, hz0, hz1, hz2⟩ := info_parts Tryd.info51
  generalize firstAt wrongF fs 0 = n at *
  have HA : Hid (getM fs bs = ended bs (getL bs fs 0)) := Lib.hid rfl
  generalize getM fs bs = A at *
  obtain ⟨a, cap, rfl⟩ := hf.len
  obtain ⟨a2, cap2, rfl, hcap⟩ := hb.len
  clear hf hb hh
  go_enter Tryd.func10, Tryd.ntmps10
  go_wp2_with fail
  refine Hfw.out.mono ?_
  rintro e w1 ⟨rfl, hb⟩
  have Hb := Lib.hid hb; clear hb
  go_wp2_with fail
  have hrd : Rd w1.heap.size (.slice a2 bs.length cap2) 0 (w1.alloc (.cells #[.slice a2 bs.length cap2, .int .i64 0] 76)) := ⟨by simp, by simp, by simp⟩
  have hb2 : Below w.heap.size w (w1.alloc (.cells #[.slice a2 bs.length cap2, .int .i64 0] 76)) := balloc Hb.out _
  have hsz : (w1.alloc (.cells #[.slice a2 bs.length cap2, .int .i64 0] 76)).heap.size = w1.heap.size + 1 := by simp
  have hw1 : w.heap.size ≤ w1.heap.size := Hb.out.size
  have H2 := Lib.hid (And.intro hrd (And.intro hb2 hsz)); clear hrd hb2 hsz
  generalize w1.alloc (.cells #[.slice a2 bs.length cap2, .int .i64 0] 76) = w2 at *
  have Hw1 := Lib.hid hw1; clear hw1
  generalize w1.heap.size = rb at *
  go_loopw [7, 25] (fun v c wr => RelGet w2.heap.size rb (.slice a2 bs.length cap2) fs bs A w2 v c wr) (fun _ c _ => fs.length - (intOf c).toNat)
  case atStart => exact ⟨0, 0, [], Nat.zero_le _, rfl, rfl, by rw [onV_nil]; exact HA.out, Nat.zero_le _, ValsV.nil _ _, H2.out.1, Grew.refl _ _⟩
  case round =>
    obtain ⟨k, at_, pre, hk, rfl, hpre, hAk, hal, hvs, hrd, hg⟩ := hrel
    have hbel : Below w.heap.size w wr := H2.out.2.1.trans (hg.below (Nat.le_trans Hw1.out (by have := H2.out.2.2; omega)) (fun k e => by injection e with e; subst e; exact Hw1.out))
    have Hbel := Lib.hid hbel
    have HAk := Lib.hid hAk
    have Hpre := Lib.hid hpre
    have hprel : pre.length ≤ 100 := by omega
    have hrl := hrd.lt
    by_cases hlt : k < fs.length
    · rcases HF.out.below hbel with ⟨h0, _⟩ | ⟨b, o, cap', h1, h2, h3, h4⟩
      · simp [h0] at hlt
      injection h1 with h1 h1' h1''
      subst h1 h1''
      obtain ⟨d0, d1, d2, d3, d4⟩ := h3 k hlt
      have hrf := Hra.out _ (getD_mem fs k f0 hlt)
      have hhf := Hh.out _ (getD_mem fs k f0 hlt)
      have hdrop : fs.drop k = fs.getD k f0 :: fs.drop (k + 1) := by rw [List.drop_eq_getElem_cons hlt]; simp [List.getD, hlt]
      generalize fs.getD k f0 = f at *
      have Hval := Lib.hid (fun o => value_any w.heap.size rb at_ f (.slice a2 bs.length cap2) bs (wr.alloc o) hrf (hrd.below (one_below _ _)) ((HBv.out.below hbel).below ((one_below wr o).mono hbel.size)) Hw1.out hbl hal hhf)
      have hc1 : ∀ o, (wr.alloc o).cell? ⟨rb, 1, none⟩ = some (.int .i64 at_) := fun o => by rw [World.cell?_alloc_lt _ _ ⟨rb, 1, none⟩ hrl]; exact hrd.c1
      have Hdrop := Lib.hid hdrop
      have Hvs := Lib.hid hvs
      have Hg := Lib.hid hg
      clear h3 h1' hrf hhf hdrop hvs hg hrd hbel hAk hpre
      cases hV : valG f bs at_ with
      | bad e =>
        rw [hV] at Hval
        have HV := Lib.hid hV; clear hV
        go_wp2_with fail
        refine (Hval.out _).mono ?_
        rintro e' w3 ⟨rfl, hg⟩
        have Hg3 := Lib.hid (((Grew.refl wr (some rb)).alloc _).trans hg); clear hg hc1 d0 d1 d2 d3 d4
        unfold errV zeroV
        go_wp2_with (go_at_call 31; refine (wrap_some _ _ _ _ _).mono ?_; rintro e w' ⟨rfl, rfl⟩)
        go_ret2
        have hA := HAk.out
        rw [Hdrop.out, onV_bad HV.out] at hA
        simp only [ended] at hA
        subst hA
        exact ⟨rfl, balloc (Hbel.out.trans (Hg3.out.below Hbel.out.size (fun k e => by injection e with e; subst e; exact Hw1.out))) _⟩
      | good x a' =>
        rw [hV] at Hval
        have HV := Lib.hid hV; clear hV
        go_wp2_with fail
        refine (Hval.out _).mono ?_
        rintro e' w3 ⟨v, rfl, ⟨lv, rfl, htv⟩, hrd, hg⟩
        have Hrd3 := Lib.hid hrd
        have Hg3 := Lib.hid (((Grew.refl wr (some rb)).alloc _).trans hg)
        have htv' : TextsV wr.heap.size w3 x.l lv := own_base htv (by simp)
        have Htv := Lib.hid htv'
        obtain ⟨sa, scap, rfl⟩ := own_sl htv'
        obtain ⟨ps, p1, p2, p3⟩ := Hvs.out
        have Hp2 := Lib.hid (own_grew p2 Hg3.out (by have := H2.out.2.2; omega))
        have Hp1 := Lib.hid p1
        have Hp3 := Lib.hid p3
        have hpsl : ps.length ≤ 100 := by have : (ps.map (·.1)).length = pre.length := by rw [p1]
                                          simp at this; omega
        have hvb := Lib.hid (fun k hk => (p2.lt k hk).2)
        have hvB := Lib.hid (fun k hk => (p2.lt k hk).1)
        clear hg hc1 hrd htv htv' p1 p2 p3 d0 d1 d2 d3 d4
        go_wp2_with (at_builtin; refine wpList_append_src _ rfl _ _ 23 23 rfl w2.heap.size 51 i0 (.agg #[.int .i64 0, .string ⟨#[]⟩, .slice none 0 0]) 3 48 Tryd.underlying23 hi0 hz0 hz1 hz2 rfl _ _ _ rfl ((Hp2.out.alloc _).alloc _) _ 1 _ rfl (Src.ofSlice _ Tryd.underlying23 ⟨w3.heap.size + 1, 0, none⟩ 1 1 [.int .i64 x.n, .string x.s, .slice sa x.l.length scap] rfl (cells3_new _ _ _ _ _ _ (by simp)) (fun y hy => by simp at hy; rcases hy with rfl | rfl | rfl <;> rfl)) (by unfold maxLen; omega) (by omega) (by have := Hg.out.size; have := Hg3.out.size; simp; omega) ?_; intro v4 w4 hown4 hg4 hnil; have Hown4 := Lib.hid hown4; have Hg4 := Lib.hid hg4; clear hown4 hg4 hnil)
        go_roundw
        case rel =>
          have hsz3 := Hg3.out.size
          have hne : (Value.slice sa x.l.length scap).ownBlock = none ∨ (Value.slice sa x.l.length scap).ownBlock ≠ u7.ownBlock := by
            cases hb : (Value.slice sa x.l.length scap).ownBlock with
            | none => exact Or.inl rfl
            | some k => exact Or.inr fun e => by have := hvb.out k e.symm; have := (Htv.out.lt k hb).1; omega
          refine ⟨k + 1, a', pre ++ [x], by omega, by go_num, by simp [Hpre.out], ?_, valG_le HV.out, ?_, ?_, ?_⟩
          · rw [HAk.out, Hdrop.out, onV_good HV.out]
          · have hb2 : Below w3.heap.size w3 ((w3.alloc (.cells #[.int .i64 x.n, .string x.s, .slice sa x.l.length scap] 51)).alloc (.cells #[.int .i64 x.n, .string x.s, .slice sa x.l.length scap] 51)) := balloc (one_below _ _) _
            refine ValsV.snoc Hp1.out (fun p hp => ⟨own_below (own_grew (Hp3.out p hp).1 Hg3.out (by have := H2.out.2.2; omega)) hb2, (Hp3.out p hp).2⟩) (own_below (own_base Htv.out (by have := Hg.out.size; omega)) hb2) hne Hg4.out Hown4.out
          · exact (Hrd3.out.below (balloc (one_below _ _) _)).grew Hg4.out (fun e => by have := hvB.out rb e.symm; have := H2.out.2.2; omega)
          · exact (((Hg.out.trans Hg3.out).alloc _).alloc _).fresh Hg4.out hvB.out
        case measure => simp [intOf]; omega
    · obtain rfl : k = fs.length := by omega
      have hA := HAk.out
      rw [List.drop_length] at hA
      simp only [getL, onV, List.append_nil, ended] at hA
      have Hvs := Lib.hid hvs
      have Hg := Lib.hid hg
      have c1 := hrd.c1
      by_cases hend : at_ < bs.length
      · rw [if_pos hend] at hA
        have HAA := Lib.hid hA
        clear hvs hg hrd hbel hAk hpre hA
        go_wp2_with (go_at_call 31; refine (wrap_some _ _ _ _ _).mono ?_; rintro e w' ⟨rfl, rfl⟩)
        go_ret2
        have hA := HAA.out
        subst hA
        exact ⟨rfl, Hbel.out⟩
      · rw [if_neg hend] at hA
        have HAA := Lib.hid hA
        clear hvs hg hrd hbel hAk hpre hA
        go_wp2_with fail
        go_ret2
        have hA := HAA.out
        subst hA
        exact ⟨_, rfl, Hvs.out.base (Nat.le_trans Hw1.out (by have := H2.out.2.2; omega)), Hbel.out⟩
end Go.Proofs.YtoflfbcjlddjaaaDoor
