/-
  gram's reader: text, texts, value.
-/
import Derived.Test.YtoflfbcjlddjaaaDoorGRead
import Derived.Laws.BytesArg
namespace Go.Proofs.YtoflfbcjlddjaaaDoor
open Go.RowKit

theorem conv_bytes {B : Nat} {w : World} {v : Value} {l : List UInt8} (h : SlB B w v l) : (convert 24 9 v).run Tryd.prog w = .ok (.string ⟨l.toArray⟩) w := by
  rcases h with ⟨rfl, a, cap, rfl⟩ | ⟨b, o, cap, rfl, _, h3, _⟩
  · cases a with
    | none => exact run_convert_bytes_nil w _ _ Tryd.underlying24 Tryd.underlying5 0 cap _ Tryd.underlying9
    | some a =>
      rw [run_convert_bytes_string w _ _ _ _ 0 cap Tryd.underlying24 Tryd.underlying5 Tryd.underlying9, run_bytesToString w a 0 cap [] (by simp [loadCells, loadCellsFrom])]
      rfl
  · have h := run_convert_bytes_arg w (P := Tryd.prog) 24 5 Tryd.underlying24 Tryd.underlying5 b o l.length cap (l.map fun c => (c.toNat : Int)) (by simp) (fun i hi => by
      rw [h3 i hi]
      simp [List.getD, hi]) 9 Tryd.underlying9
    rw [h]
    have hm : (l.map fun c => (c.toNat : Int)).map (fun n => UInt8.ofNat n.toNat) = l := by
      rw [List.map_map]
      conv => rhs; rw [← List.map_id l]
      exact List.map_congr_left fun c _ => by simp
    unfold strOfNums
    rw [hm]
def StrV (_ : World) (s : ByteArray) (v : Value) : Prop := v = .string s

theorem conv_nil (w : World) : (convert 24 9 (.slice none 0 0)).run Tryd.prog w = .ok (.string ⟨#[]⟩) w := conv_bytes (B := 0) (l := []) (Or.inl ⟨rfl, _, _, rfl⟩)

set_option maxHeartbeats 1000000 in
set_option maxRecDepth 100000 in
theorem text_any (B rb at_ : Nat) (lo hi : Int) (bv : Value) (bs : List UInt8) (w : World) (hr : Rd rb bv at_ w) (hb : SlB B w bv bs) (hB : B ≤ rb) (hl : bs.length ≤ 100000) (hat : at_ ≤ bs.length)
    (hlo : 0 ≤ lo) (hlh : lo ≤ hi) (hhi : hi ≤ 65535) :
    Calls Tryd.prog 58 #[.pointer (some ⟨rb, 0, none⟩), .int .i64 lo, .int .i64 hi] w (Read StrV (.string ⟨#[]⟩) rb bv (textG lo hi bs at_) w) := by
  have hn := number_any B rb at_ 2 lo hi bv bs w hr hb hB hl hat (by omega) (by omega) hlo hlh (by omega)
  have hG : textG lo hi bs at_ = match numG 2 lo hi bs at_ with
    | .bad k => .bad k
    | .good n a => if bs.length < a + n.toNat then .bad 3 else .good ⟨(cut bs a n.toNat).toArray⟩ (a + n.toNat) := rfl
  generalize textG lo hi bs at_ = G at *
  cases hN : numG 2 lo hi bs at_ with
  | bad k =>
    rw [hN] at hG hn
    simp only at hG
    subst hG
    have Hn := Lib.hid hn; clear hn hr hb
    go_enter Tryd.func58, Tryd.ntmps58
    go_wp2_with fail
    refine Hn.out.mono ?_
    rintro e w1 ⟨rfl, hg⟩
    have Hg := Lib.hid hg; clear hg
    unfold errV
    go_wp2_with fail
    go_ret2
    exact ⟨rfl, Hg.out⟩
  | good n a =>
    obtain ⟨rfl, ha2, ha3, ha4, ha5⟩ := numG_good hN
    rw [hN] at hG hn
    simp only at hG
    obtain ⟨m, rfl⟩ : ∃ m : Nat, n = m := ⟨n.toNat, by omega⟩
    rw [Int.toNat_natCast] at hG
    have HG := Lib.hid hG
    have Hn := Lib.hid hn
    have Hb := Lib.hid hb
    clear hn hr hb hG
    go_enter Tryd.func58, Tryd.ntmps58
    go_wp2_with fail
    refine Hn.out.mono ?_
    rintro e w1 ⟨v, rfl, rfl, hrd, hg⟩
    have Hg := Lib.hid hg
    by_cases hs : bs.length < at_ + 2 + m
    · have Ht := Lib.hid (take_bad B rb (at_ + 2) m bv bs w1 hrd (Hb.out.grew hB hg) hs hl ha2)
      have hcn := conv_nil
      clear hrd hg
      go_wp2_with fail
      refine Ht.out.mono ?_
      rintro e w2 ⟨rfl, hg⟩
      have Hg2 := Lib.hid hg; clear hg
      unfold errV
      go_wp2_with fail
      go_ret2
      have hG := HG.out
      rw [if_pos hs] at hG
      subst hG
      exact ⟨rfl, Hg.out.trans Hg2.out⟩
    · have Ht := Lib.hid (take_good B rb (at_ + 2) m bv bs w1 hrd (Hb.out.grew hB hg) hB (by omega) (by omega) hl)
      clear hrd hg
      go_wp2_with fail
      refine Ht.out.mono ?_
      rintro e w2 ⟨v, rfl, hsl, hrd, hg⟩
      have hcv := conv_bytes hsl
      have Hg2 := Lib.hid hg; clear hg
      have Hrd := Lib.hid hrd
      clear hsl hrd
      go_wp2_with fail
      go_ret2
      have hG := HG.out
      rw [if_neg hs] at hG
      subst hG
      exact ⟨_, rfl, rfl, Hrd.out, Hg.out.trans Hg2.out⟩
theorem textG_good {lo hi : Int} {bs : List UInt8} {at_ a : Nat} {s : ByteArray} (h : textG lo hi bs at_ = .good s a) : a = at_ + 2 + s.size ∧ a ≤ bs.length ∧ lo ≤ (s.size : Int) ∧ (s.size : Int) ≤ hi := by
  unfold textG at h
  cases hN : numG 2 lo hi bs at_ with
  | bad k => rw [hN] at h; cases h
  | good n b =>
    rw [hN] at h
    obtain ⟨h1, h2, h3, h4, h5⟩ := numG_good hN
    simp only at h
    split at h
    · cases h
    · injection h with e1 e2
      have hc := cut_length bs b n.toNat (by omega)
      have : s.size = n.toNat := by rw [← e1]; show (cut bs b n.toNat).toArray.size = _; rw [List.size_toArray, hc]
      omega

/-- A slice of texts that the call itself has made. -/
def TextsV (B : Nat) (w : World) (l : List ByteArray) (v : Value) : Prop := w.ownsRow B 9 1 v l.length (l.map Value.string)
theorem Tryd.info9 : (Tryd.prog.info? 9).map (fun i => (i.zero, i.size, i.bytes)) = some (some (.string ⟨#[]⟩), 1, 16) := by kernel_rfl

theorem own_base {w : World} {B B' e size n : Nat} {v : Value} {xs : List Value} (h : w.ownsRow B e size v n xs) (hB : B' ≤ B) : w.ownsRow B' e size v n xs := by
  obtain ⟨h1, h2⟩ := h
  refine ⟨h1, ?_⟩
  rcases h2 with h2 | ⟨g, cap, cur, hv, hg, r⟩
  · exact Or.inl h2
  · exact Or.inr ⟨g, cap, cur, hv, Nat.le_trans hB hg, r⟩
theorem own_grew {w w' : World} {B e size n rb : Nat} {r' : Option Nat} {v : Value} {xs : List Value} (h : w.ownsRow B e size v n xs) (hg : Grew w (some rb) w' r') (hB : rb < B) : w'.ownsRow B e size v n xs := by
  obtain ⟨h1, h2⟩ := h
  refine ⟨h1, ?_⟩
  rcases h2 with h2 | ⟨g, cap, cur, hv, hgB, hh, r⟩
  · exact Or.inl h2
  · exact Or.inr ⟨g, cap, cur, hv, hgB, by rw [hg.by_.block g (Array.getElem?_eq_some_iff.1 hh).1 (fun e => by injection e with e; omega)]; exact hh, r⟩
theorem Grew.fresh {w1 w w' : World} {r r2 r2' : Option Nat} (h : Grew w1 r w r) (h2 : Grew w r2 w' r2') (hr : ∀ k, r2 = some k → w1.heap.size ≤ k) : Grew w1 r w' r :=
  ⟨⟨h2.by_.os.trans h.by_.os, h2.by_.tape.trans h.by_.tape, h2.by_.output.trans h.by_.output, Nat.le_trans h.by_.size h2.by_.size, fun k hk hk2 => by
    rw [h2.by_.block k (Nat.lt_of_lt_of_le hk h.by_.size) (fun e => by have := hr k e.symm; omega)]; exact h.by_.block k hk hk2⟩, Or.inl rfl⟩
theorem Rd.grew {rb : Nat} {bv : Value} {a : Nat} {w w' : World} {r r' : Option Nat} (h : Rd rb bv a w) (hg : Grew w r w' r') (hr : some rb ≠ r) : Rd rb bv a w' :=
  ⟨by rw [hg.cell h.lt hr]; exact h.c0, by rw [hg.cell h.lt hr]; exact h.c1, by rw [hg.frozen h.lt hr]; exact h.f1⟩

def goOn (pre : List ByteArray) : Got (List ByteArray) → Got (List ByteArray)
  | .bad e => .bad e
  | .good l a => .good (pre ++ l) a
theorem goOn_bad {pre : List ByteArray} {mo : Int} {bs : List UInt8} {j a : Nat} {e : Int} (h : textG 0 mo bs a = .bad e) : goOn pre (textsLoop mo bs (j + 1) a) = .bad e := by
  unfold textsLoop; rw [h]; rfl
theorem goOn_good {pre : List ByteArray} {mo : Int} {bs : List UInt8} {j a a' : Nat} {s : ByteArray} (h : textG 0 mo bs a = .good s a') : goOn pre (textsLoop mo bs (j + 1) a) = goOn (pre ++ [s]) (textsLoop mo bs j a') := by
  rw [textsLoop, h]
  simp only
  generalize textsLoop mo bs j a' = L
  cases L <;> simp [goOn]
def RelTx (B rb : Nat) (bv : Value) (mo : Int) (bs : List UInt8) (cnt : Nat) (G : Got (List ByteArray)) (w : World) (v c : Value) (wr : World) : Prop :=
  ∃ (k a : Nat) (pre : List ByteArray), k ≤ cnt ∧ c = .int .i64 k ∧ pre.length = k ∧ G = goOn pre (textsLoop mo bs (cnt - k) a) ∧ a ≤ bs.length ∧ TextsV B wr pre v ∧ Rd rb bv a wr ∧ Grew w (some rb) wr (some rb)

set_option maxHeartbeats 2000000 in
set_option maxRecDepth 100000 in
theorem texts_any (B rb at_ : Nat) (k sz lo hi mo : Int) (bv : Value) (bs : List UInt8) (w : World) (hr : Rd rb bv at_ w) (hb : SlB B w bv bs) (hB : B ≤ rb) (hl : bs.length ≤ 100000) (hat : at_ ≤ bs.length)
    (hlo : 0 ≤ lo) (hlh : lo ≤ hi) (hhi : hi ≤ 255) (hm0 : 0 ≤ mo) (hm1 : mo ≤ 65535) :
    Calls Tryd.prog 59 #[.pointer (some ⟨rb, 0, none⟩), .agg #[.int .i64 k, .int .i64 sz, .int .i64 lo, .int .i64 hi, .int .i64 mo]] w (Read (TextsV w.heap.size) (.slice none 0 0) rb bv (textsG lo hi mo bs at_) w) := by
  have hn := fun o => number_any B rb at_ 1 lo hi bv bs (w.alloc o) (hr.below (one_below _ _)) (hb.mono fun b o hl => World.cell?_alloc_lt _ _ ⟨b, o, none⟩ (Nat.lt_of_lt_of_le hl (Nat.le_trans hB (Nat.le_of_lt hr.lt)))) hB hl hat (by omega) (by omega) hlo hlh (by omega)
  have hG : textsG lo hi mo bs at_ = match numG 1 lo hi bs at_ with
    | .bad k => .bad k
    | .good n a => textsLoop mo bs n.toNat a := rfl
  have hrl := hr.lt
  generalize textsG lo hi mo bs at_ = G at *
  cases hN : numG 1 lo hi bs at_ with
  | bad k =>
    rw [hN] at hG hn
    simp only at hG
    subst hG
    have Hn := Lib.hid hn; clear hn hr hb
    go_enter Tryd.func59, Tryd.ntmps59
    go_wp2_with fail
    refine (Hn.out _).mono ?_
    rintro e w1 ⟨rfl, hg⟩
    have Hg := Lib.hid hg; clear hg
    unfold errV
    go_wp2_with fail
    go_ret2
    exact ⟨rfl, ((Grew.refl _ _).alloc _).trans Hg.out⟩
  | good n a =>
    obtain ⟨rfl, ha2, ha3, ha4, ha5⟩ := numG_good hN
    rw [hN] at hG hn
    simp only at hG
    obtain ⟨m, rfl⟩ : ∃ m : Nat, n = m := ⟨n.toNat, by omega⟩
    rw [Int.toNat_natCast] at hG
    have HG := Lib.hid hG
    have Hn := Lib.hid hn
    have Hb := Lib.hid hb
    obtain ⟨i0, hi0, hz0, hz1, hz2⟩ := info_parts Tryd.info9
    clear hn hr hb hG
    go_enter Tryd.func59, Tryd.ntmps59
    go_wp2_with fail
    refine (Hn.out _).mono ?_
    rintro e w1 ⟨v, rfl, rfl, hrd, hg⟩
    have Hg := Lib.hid (((Grew.refl w (some rb)).alloc _).trans hg)
    have Hrd := Lib.hid hrd
    have hmo : w1.cell? ⟨w.heap.size, 4, none⟩ = some (.int .i64 mo) := by rw [hg.cell (by simp) (by simp; omega)]; simp
    have hwl : w.heap.size < w1.heap.size := by have := hg.size; simp at this; omega
    have Hmo := Lib.hid hmo
    clear hrd hg hmo
    go_wp2_with fail
    go_loopw [8, 24] (fun v c wr => RelTx w1.heap.size rb bv mo bs m G w1 v c wr) (fun _ c _ => m - (intOf c).toNat)
    case atStart => exact ⟨0, at_ + 1, [], Nat.zero_le _, rfl, rfl, by rw [HG.out]; simp only [Nat.sub_zero]; cases textsLoop mo bs m (at_ + 1) <;> rfl, ha2, by simpa [TextsV] using World.ownsRow_nil _ _ _ _, Hrd.out, Grew.refl _ _⟩
    case round =>
      obtain ⟨k, a, pre, hk, rfl, hpre, hGk, hal, htv, hrd, hg⟩ := hrel
      have hprel : pre.length ≤ 255 := by omega
      have HGk := Lib.hid hGk
      have Hpre := Lib.hid hpre
      by_cases hlt : k < m
      · have hmo := (hg.cell (a := ⟨w.heap.size, 4, none⟩) hwl (fun e => by injection e with e; simp at e; omega)).trans Hmo.out
        have Ht := Lib.hid (text_any B rb a 0 mo bv bs wr hrd ((Hb.out.grew hB Hg.out).grew hB hg) hB hl hal (by omega) hm0 hm1)
        have Hg0 := Lib.hid hg
        have Htv := Lib.hid htv
        obtain ⟨j, hj⟩ : ∃ j, m - k = j + 1 := ⟨m - k - 1, by omega⟩
        have Hj := Lib.hid hj
        clear hg hrd htv hGk hpre hj
        cases hT : textG 0 mo bs a with
        | bad e =>
          rw [hT] at Ht
          have HT := Lib.hid hT; clear hT
          go_wp2_with fail
          refine Ht.out.mono ?_
          rintro e w2 ⟨rfl, hg⟩
          have Hg2 := Lib.hid hg; clear hg hmo
          unfold errV
          go_wp2_with fail
          go_ret2
          have hG := HGk.out
          rw [Hj.out, goOn_bad HT.out] at hG
          subst hG
          exact ⟨rfl, (Hg.out.trans Hg0.out).trans Hg2.out⟩
        | good t a' =>
          rw [hT] at Ht
          have Hgd := Lib.hid (textG_good hT)
          have HT := Lib.hid hT; clear hT
          go_wp2_with fail
          refine Ht.out.mono ?_
          rintro e w2 ⟨v, rfl, rfl, hrd, hg⟩
          have Hg2 := Lib.hid hg
          have Hrd2 := Lib.hid hrd
          have Htv2 := Lib.hid (own_grew Htv.out hg (by omega))
          clear hg hmo hrd
          go_wp2_with (at_builtin; refine wpList_append_src _ rfl _ _ 49 49 rfl w1.heap.size 9 i0 (.string ⟨#[]⟩) 1 16 Tryd.underlying49 hi0 hz0 hz1 hz2 rfl _ _ _ rfl (Htv2.out.alloc _) _ 1 _ rfl (Src.ofSlice _ Tryd.underlying49 ⟨w2.heap.size, 0, none⟩ 1 1 [.string t] rfl (cell_one_new _ _ _) (fun x hx => by simp at hx; subst hx; rfl)) (by unfold maxLen; omega) (by omega) (by have := Hg0.out.size; have := Hg2.out.size; simp; omega) ?_; intro v3 w3 hown3 hg3 hnil; have Hown3 := Lib.hid hown3; have Hg3 := Lib.hid hg3; clear hown3 hg3 hnil)
          go_roundw
          case rel =>
            have hgd := Hgd.out
            have hlo : ∀ k, u8.ownBlock = some k → w1.heap.size ≤ k := fun k hk => (Htv.out.lt k hk).1
            refine ⟨k + 1, a', pre ++ [t], by omega, by go_num, by simp [Hpre.out], ?_, hgd.2.1, ?_, ?_, ?_⟩
            · rw [HGk.out, Hj.out, goOn_good HT.out, show m - (k + 1) = j from by have := Hj.out; omega]
            · have h := Hown3.out
              unfold TextsV
              simpa using h
            · exact (Hrd2.out.grew ((Grew.refl _ none).alloc _) (by simp)).grew Hg3.out (fun e => by have := hlo rb e.symm; omega)
            · exact ((Hg0.out.trans Hg2.out).alloc _).fresh Hg3.out hlo
          case measure => simp [intOf]; omega
      · obtain rfl : k = m := by omega
        have Hrd2 := Lib.hid hrd
        have Htv2 := Lib.hid htv
        have Hg2 := Lib.hid hg
        clear hrd htv hg hGk hpre
        go_wp2_with fail
        go_ret2
        have hG := HGk.out
        rw [Nat.sub_self] at hG
        simp only [textsLoop, goOn, List.append_nil] at hG
        subst hG
        exact ⟨_, rfl, own_base Htv2.out (Nat.le_of_lt hwl), Hrd2.out, Hg.out.trans Hg2.out⟩
end Go.Proofs.YtoflfbcjlddjaaaDoor
