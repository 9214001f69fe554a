/-
  gf.Add: onto a row of the call's own, from a slice elsewhere.
-/
import Derived.Test.YtoklknjnegpaaaaDoorFOps
import Derived.Test.YtoklknjnegpaaaaDoorClone
import Derived.Deep.RegionWith
namespace Go.Proofs.YtoklknjnegpaaaaDoor
open Go.RowKit Gf
/-- ts, the product of x and the byte of fs added to each of the first k, as far as fs goes. -/
def addK (ts fs : List UInt8) (x k : Nat) : List UInt8 :=
  (List.range ts.length).map fun i => if i < k ∧ i < fs.length then UInt8.ofNat ((ts.getD i 0).toNat ^^^ mul (fs.getD i 0).toNat x) else ts.getD i 0
def addB (ts fs : List UInt8) (x : Nat) : List UInt8 := addK ts fs x ts.length
theorem addK_length (ts fs : List UInt8) (x k : Nat) : (addK ts fs x k).length = ts.length := by simp [addK]
theorem addK_0 (ts fs : List UInt8) (x : Nat) : addK ts fs x 0 = ts := by
  refine List.ext_getElem (addK_length ..) fun i h1 h2 => ?_
  simp [addK, List.getD, h2]
theorem addK_getD (ts fs : List UInt8) (x k i : Nat) (h : i < ts.length) : (addK ts fs x k).getD i 0 = if i < k ∧ i < fs.length then UInt8.ofNat ((ts.getD i 0).toNat ^^^ mul (fs.getD i 0).toNat x) else ts.getD i 0 := by
  simp [addK, List.getD, h]
theorem addK_all (ts fs : List UInt8) (x k : Nat) (h : k = min ts.length fs.length) : addK ts fs x k = addB ts fs x := by
  refine List.ext_getElem (by simp [addB, addK_length]) fun i h1 h2 => ?_
  rw [addK_length] at h1
  have e1 := addK_getD ts fs x k i h1
  have e2 := addK_getD ts fs x ts.length i h1
  have h3 : (i < k ∧ i < fs.length) ↔ (i < ts.length ∧ i < fs.length) := by omega
  simp only [h3] at e1
  have : (addK ts fs x k).getD i 0 = (addB ts fs x).getD i 0 := by rw [e1]; unfold addB; rw [e2]
  simpa [List.getD, h1, addK_length, addB] using this
theorem addK_set (ts fs : List UInt8) (x k : Nat) (h2 : k < fs.length) :
    (bytesV (addK ts fs x k)).set k (.int .u8 (((ts.getD k 0).toNat ^^^ mul (fs.getD k 0).toNat x : Nat) : Int)) = bytesV (addK ts fs x (k + 1)) := by
  have hz : (ts.getD k 0).toNat ^^^ mul (fs.getD k 0).toNat x < 256 := xor_lt (UInt8.toNat_lt _) (mul_lt _ _)
  refine List.ext_getElem (by simp [bytesV, addK_length]) fun i h3 h4 => ?_
  have hi : i < ts.length := by simpa [bytesV, addK_length] using h4
  have e1 := addK_getD ts fs x k i hi
  have e2 := addK_getD ts fs x (k + 1) i hi
  have g1 : (addK ts fs x k)[i]'(by rw [addK_length]; exact hi) = (addK ts fs x k).getD i 0 := by simp [List.getD, addK_length, hi]
  have g2 : (addK ts fs x (k + 1))[i]'(by rw [addK_length]; exact hi) = (addK ts fs x (k + 1)).getD i 0 := by simp [List.getD, addK_length, hi]
  rw [List.getElem_set]
  simp only [bytesV, List.getElem_map, g1, g2, e1, e2]
  by_cases e : k = i
  · subst e
    rw [if_pos rfl, if_pos ⟨by omega, h2⟩, UInt8.toNat_ofNat', Nat.mod_eq_of_lt hz]
  · rw [if_neg e]
    by_cases hc : i < k ∧ i < fs.length
    · rw [if_pos hc, if_pos ⟨by omega, hc.2⟩]
    · rw [if_neg hc, if_neg (by omega)]
theorem addB_length (ts fs : List UInt8) (x : Nat) : (addB ts fs x).length = ts.length := addK_length ..
theorem addB_getD (ts fs : List UInt8) (x i : Nat) (h : i < ts.length) : ((addB ts fs x).getD i 0).toNat = if i < fs.length then (ts.getD i 0).toNat ^^^ mul (fs.getD i 0).toNat x else (ts.getD i 0).toNat := by
  have e := addK_getD ts fs x ts.length i h
  show ((addK ts fs x ts.length).getD i 0).toNat = _
  rw [e]
  have hz : (ts.getD i 0).toNat ^^^ mul (fs.getD i 0).toNat x < 256 := xor_lt (UInt8.toNat_lt _) (mul_lt _ _)
  by_cases h2 : i < fs.length
  · rw [if_pos ⟨h, h2⟩, if_pos h2, UInt8.toNat_ofNat', Nat.mod_eq_of_lt hz]
  · rw [if_neg (by omega), if_neg h2]
theorem ext_getD {l m : List UInt8} (hl : l.length = m.length) (h : ∀ i, i < m.length → (l.getD i 0).toNat = (m.getD i 0).toNat) : l = m := list_eq_getD hl fun i hi => UInt8.toNat_inj.1 (h i (by omega))
theorem addB_twice (ts fs : List UInt8) (x : Nat) : addB (addB ts fs x) fs x = ts := by
  refine ext_getD (by rw [addB_length, addB_length]) fun i hi => ?_
  rw [addB_getD _ _ _ _ (by rw [addB_length]; exact hi), addB_getD _ _ _ _ hi]
  split
  · rw [Nat.xor_assoc, Nat.xor_self, Nat.xor_zero]
  · rfl
theorem addB_two (ts fs : List UInt8) (x y : Nat) (hx : x < 256) (hy : y < 256) : addB (addB ts fs x) fs y = addB ts fs (x ^^^ y) := by
  refine ext_getD (by simp only [addB_length]) fun i hi => ?_
  rw [addB_length] at hi
  rw [addB_getD _ _ _ _ (by rw [addB_length]; exact hi), addB_getD _ _ _ _ hi, addB_getD _ _ _ _ hi]
  split
  · rw [Nat.xor_assoc, ← mul_xor hx hy]
  · rfl
def xorB (l m : List UInt8) : List UInt8 := List.zipWith (· ^^^ ·) l m
theorem addB_sum (ts l m : List UInt8) (x : Nat) (h : l.length = m.length) : addB (addB ts m x) l x = addB ts (xorB l m) x := by
  have hl : (xorB l m).length = l.length := by simp [xorB, h]
  refine ext_getD (by simp only [addB_length]) fun i hi => ?_
  rw [addB_length] at hi
  rw [addB_getD _ _ _ _ (by rw [addB_length]; exact hi), addB_getD _ _ _ _ hi, addB_getD _ _ _ _ hi, hl, ← h]
  by_cases hi2 : i < l.length
  · have hi3 : i < m.length := by omega
    have e : ((xorB l m).getD i 0).toNat = (l.getD i 0).toNat ^^^ (m.getD i 0).toNat := by simp [xorB, List.getD, hi2, hi3, List.getElem?_zipWith]
    rw [if_pos hi2, if_pos hi2, if_pos hi2, e, xor_mul (UInt8.toNat_lt _) (UInt8.toNat_lt _), Nat.xor_assoc, Nat.xor_comm (mul (m.getD i 0).toNat x)]
  · rw [if_neg hi2, if_neg hi2, if_neg hi2]
/-- What Add leaves: the row of the call's own, the sum in it. -/
def Added (B : Nat) (v : Value) (l : List UInt8) (w : World) (e : Ending) (w' : World) : Prop :=
  e = .returned (.tuple #[]) ∧ w'.ownsRow B 5 1 v l.length (bytesV l) ∧ Grew w v.ownBlock w' v.ownBlock
def RelA (B : Nat) (v : Value) (ts fs : List UInt8) (x m : Nat) (w : World) (c : Value) (wr : World) : Prop :=
  ∃ k : Nat, k ≤ m ∧ c = .int .i64 k ∧ wr.ownsRow B 5 1 v ts.length (bytesV (addK ts fs x k)) ∧ Grew w v.ownBlock wr v.ownBlock
theorem FieldIn.grew {w w' : World} {b : Nat} {r r' : Option Nat} (h : FieldIn w b) (hg : Grew w r w' r') (hne : r ≠ some b) : FieldIn w' b := by
  have hl : b < w.heap.size := World.block_lt_of_cell? w ⟨b, 255, none⟩ h.none_
  exact ⟨fun i hi => by rw [hg.cell hl (fun e => hne e.symm)]; exact h.exp i hi, by rw [hg.cell hl (fun e => hne e.symm)]; exact h.none_, fun a ha h0 => by rw [hg.cell hl (fun e => hne e.symm)]; exact h.log a ha h0⟩
theorem FieldIn.drew {w : World} {b : Nat} (h : FieldIn w b) : FieldIn w.drew b := ⟨h.exp, h.none_, h.log⟩
theorem added {B m : Nat} {v : Value} {ts fs : List UInt8} {x : Nat} {w w2 wr : World} (hm : m = min ts.length fs.length) (hb : Below w.heap.size w w2) (hown : wr.ownsRow B 5 1 v ts.length (bytesV (addK ts fs x m))) (hg : Grew w2 v.ownBlock wr v.ownBlock) :
    Added B v (addB ts fs x) w (.returned (.tuple #[])) wr := by
  have hl : (addB ts fs x).length = ts.length := addK_length ..
  exact ⟨rfl, by rw [hl, ← addK_all ts fs x m hm]; exact hown, ((Grew.refl w _).then hb).trans hg⟩
theorem Grew.set_own {w wr : World} {gb : Nat} {n c : Nat} (h : Grew w (Value.slice (some ⟨gb, 0, none⟩) n c).ownBlock wr (Value.slice (some ⟨gb, 0, none⟩) n c).ownBlock) (d k : Nat) (u : Value) :
    Grew w (Value.slice (some ⟨gb, 0, none⟩) n c).ownBlock ((wr.drewN d).setCell ⟨gb, k, none⟩ u) (Value.slice (some ⟨gb, 0, none⟩) n c).ownBlock := by
  refine ⟨⟨h.by_.os, h.by_.tape, h.by_.output, ?_, fun j hj hr => ?_⟩, Or.inl rfl⟩
  · have := ((Below.refl 0 (wr.drewN d)).setCell (p := ⟨gb, k, none⟩) (Nat.zero_le _) u).size
    exact Nat.le_trans h.by_.size this
  · have hne : j ≠ gb := fun e => hr (by rw [e]; rfl)
    rw [Below.heap_setCell _ _ _ _ hne]
    exact h.by_.block j hj hr
theorem relA_own {B : Nat} {wr : World} {gb n c k : Nat} {xs ys : List Value} {u : Value} (h : wr.ownsRow B 5 1 (.slice (some ⟨gb, 0, none⟩) n c) n xs) (hs : xs.set k u = ys) (d : Nat) :
    ((wr.drewN d).setCell ⟨gb, k, none⟩ u).ownsRow B 5 1 (.slice (some ⟨gb, 0, none⟩) n c) n ys := by
  rw [← hs]; exact own_set (w := wr.drewN d) h k u
set_option maxHeartbeats 1000000 in
set_option maxRecDepth 100000 in
theorem add_lt (fb B B' : Nat) (v u : Value) (ts fs : List UInt8) (x : Nat) (w : World) (hF : FieldIn w fb) (hx : x < 256) (hv : w.ownsRow B 5 1 v ts.length (bytesV ts)) (hu : SlB B' w u fs)
    (hB' : B' ≤ w.heap.size) (hne : v.ownBlock ≠ some fb) (ht : ts.length ≤ 100000) (hf : fs.length ≤ 100000) (hlt : fs.length < ts.length) :
    Calls Tryd.prog 61 #[.pointer (some ⟨fb, 0, none⟩), v, u, .int .u8 x] w (Added B v (addB ts fs x) w) := by
  obtain ⟨a, cap, rfl, hcap⟩ := hu.len
  have HU := Lib.hid hu
  have HV := Lib.hid hv
  have HF := Lib.hid hF
  have HN := Lib.hid hne
  have HL := Lib.hid hlt
  obtain ⟨g, c, rfl, hc⟩ := own_slice hv
  clear hu hv hF hne
  go_enter Tryd.func61, Tryd.ntmps61
  go_wp2_with fail
  clear hlt
  refine (clone_bytes B' _ (fs.take fs.length) w (slb_take HU.out (by have := HL.out; omega)) hB' (by rw [List.length_take]; omega)).mono ?_
  rintro e w2 ⟨v2, rfl, hown2, hb2⟩
  have hlm : (fs.take fs.length).length = fs.length := by rw [List.length_take]; have := HL.out; omega
  rw [hlm] at hown2
  have HLM := Lib.hid hlm
  have HO2 := Lib.hid hown2
  obtain ⟨g2, c2, rfl, hc2⟩ := own_slice hown2
  clear hown2 hlm
  go_wp2_with fail
  go_loopw [21] (fun i wr => RelA B (.slice g ts.length c) ts fs x fs.length w2 i wr) (fun i _ => fs.length - (intOf i).toNat)
  case atStart => exact ⟨0, Nat.zero_le _, rfl, by rw [addK_0]; exact own_below HV.out hb2, Grew.refl _ _⟩
  case round =>
    obtain ⟨k, hk, rfl, hown, hg⟩ := hrel
    have HO := Lib.hid hown
    have HG := Lib.hid hg
    clear hown hg
    by_cases hkm : k < fs.length
    · have hkt : k < ts.length := by have := HL.out; omega
      have hkf : k < fs.length := by have := HL.out; omega
      obtain ⟨gb, rfl⟩ := own_addr HV.out (by omega)
      obtain ⟨gc, rfl⟩ := own_addr HO2.out (by omega)
      have hgb := (own_lt HV.out).2.1
      have hgc := own_lt HO2.out
      have c1 : wr.cell? ⟨gc, k, none⟩ = some (.int .u8 (fs.getD k 0).toNat) := by
        rw [HG.out.cell hgc.2.1 (by simp [Value.ownBlock]; omega)]
        refine own_cell HO2.out ?_
        rw [bytesV_at (by have := HLM.out; omega)]
        simp [List.getD, hkm]
      have c2 : wr.cell? ⟨gb, k, none⟩ = some (.int .u8 (ts.getD k 0).toNat) := by
        refine own_cell HO.out ?_
        rw [bytesV_at (by rw [addK_length]; exact hkt), addK_getD _ _ _ _ _ hkt, if_neg (by omega)]
      have c3 := own_frozen HO.out k
      have HF2 := Lib.hid ((HF.out.below (World.block_lt_of_cell? w ⟨fb, 255, none⟩ HF.out.none_) hb2).grew HG.out HN.out)
      have hset := addK_set ts fs x k hkf
      have hl1 : (fs.getD k 0).toNat < 256 := UInt8.toNat_lt _
      have hl2 : (ts.getD k 0).toNat < 256 := UInt8.toNat_lt _
      have hx1 := u8_xor_nat (ts.getD k 0).toNat (mul (fs.getD k 0).toNat x) hl2 (mul_lt _ _)
      generalize (fs.getD k 0).toNat = fk at *
      generalize (ts.getD k 0).toNat = tk at *
      have HS := Lib.hid hset
      clear hset
      go_wp2_with fail
      go_region_with (go_at_call 90; refine (mul_any _ _ (by repeat (first | exact HF2.out | apply FieldIn.drewN | apply FieldIn.drew)) _ _ hl1 hx).mono ?_; rintro e w' ⟨rfl, k1, rfl⟩)
      all_goals
        go_wp2_with fail
        go_roundw
        case rel => exact ⟨k + 1, by omega, by go_num, relA_own HO.out HS.out _, HG.out.set_own _ _ _⟩
        case measure => simp [intOf]; omega
    · obtain rfl : k = fs.length := by omega
      go_wp2_with fail
      exact bodyPost_ret (v := .tuple #[]) (by simp [results, Tryd.results61, go_sem]) rfl (added (by have := HL.out; omega) hb2 HO.out HG.out)
set_option maxHeartbeats 1000000 in
set_option maxRecDepth 100000 in
theorem add_ge (fb B B' : Nat) (v u : Value) (ts fs : List UInt8) (x : Nat) (w : World) (hF : FieldIn w fb) (hx : x < 256) (hv : w.ownsRow B 5 1 v ts.length (bytesV ts)) (hu : SlB B' w u fs)
    (hB' : B' ≤ w.heap.size) (hne : v.ownBlock ≠ some fb) (ht : ts.length ≤ 100000) (hf : fs.length ≤ 100000) (hlt : ¬ fs.length < ts.length) :
    Calls Tryd.prog 61 #[.pointer (some ⟨fb, 0, none⟩), v, u, .int .u8 x] w (Added B v (addB ts fs x) w) := by
  obtain ⟨a, cap, rfl, hcap⟩ := hu.len
  have HU := Lib.hid hu
  have HV := Lib.hid hv
  have HF := Lib.hid hF
  have HN := Lib.hid hne
  have HL := Lib.hid hlt
  obtain ⟨g, c, rfl, hc⟩ := own_slice hv
  clear hu hv hF hne
  go_enter Tryd.func61, Tryd.ntmps61
  go_wp2_with fail
  clear hlt
  refine (clone_bytes B' _ (fs.take ts.length) w (slb_take HU.out (by have := HL.out; omega)) hB' (by rw [List.length_take]; omega)).mono ?_
  rintro e w2 ⟨v2, rfl, hown2, hb2⟩
  have hlm : (fs.take ts.length).length = ts.length := by rw [List.length_take]; have := HL.out; omega
  rw [hlm] at hown2
  have HLM := Lib.hid hlm
  have HO2 := Lib.hid hown2
  obtain ⟨g2, c2, rfl, hc2⟩ := own_slice hown2
  clear hown2 hlm
  go_wp2_with fail
  go_loopw [21] (fun i wr => RelA B (.slice g ts.length c) ts fs x ts.length w2 i wr) (fun i _ => ts.length - (intOf i).toNat)
  case atStart => exact ⟨0, Nat.zero_le _, rfl, by rw [addK_0]; exact own_below HV.out hb2, Grew.refl _ _⟩
  case round =>
    obtain ⟨k, hk, rfl, hown, hg⟩ := hrel
    have HO := Lib.hid hown
    have HG := Lib.hid hg
    clear hown hg
    by_cases hkm : k < ts.length
    · have hkt : k < ts.length := by have := HL.out; omega
      have hkf : k < fs.length := by have := HL.out; omega
      obtain ⟨gb, rfl⟩ := own_addr HV.out (by omega)
      obtain ⟨gc, rfl⟩ := own_addr HO2.out (by omega)
      have hgb := (own_lt HV.out).2.1
      have hgc := own_lt HO2.out
      have c1 : wr.cell? ⟨gc, k, none⟩ = some (.int .u8 (fs.getD k 0).toNat) := by
        rw [HG.out.cell hgc.2.1 (by simp [Value.ownBlock]; omega)]
        refine own_cell HO2.out ?_
        rw [bytesV_at (by have := HLM.out; omega)]
        simp [List.getD, hkm]
      have c2 : wr.cell? ⟨gb, k, none⟩ = some (.int .u8 (ts.getD k 0).toNat) := by
        refine own_cell HO.out ?_
        rw [bytesV_at (by rw [addK_length]; exact hkt), addK_getD _ _ _ _ _ hkt, if_neg (by omega)]
      have c3 := own_frozen HO.out k
      have HF2 := Lib.hid ((HF.out.below (World.block_lt_of_cell? w ⟨fb, 255, none⟩ HF.out.none_) hb2).grew HG.out HN.out)
      have hset := addK_set ts fs x k hkf
      have hl1 : (fs.getD k 0).toNat < 256 := UInt8.toNat_lt _
      have hl2 : (ts.getD k 0).toNat < 256 := UInt8.toNat_lt _
      have hx1 := u8_xor_nat (ts.getD k 0).toNat (mul (fs.getD k 0).toNat x) hl2 (mul_lt _ _)
      generalize (fs.getD k 0).toNat = fk at *
      generalize (ts.getD k 0).toNat = tk at *
      have HS := Lib.hid hset
      clear hset
      go_wp2_with fail
      go_region_with (go_at_call 90; refine (mul_any _ _ (by repeat (first | exact HF2.out | apply FieldIn.drewN | apply FieldIn.drew)) _ _ hl1 hx).mono ?_; rintro e w' ⟨rfl, k1, rfl⟩)
      all_goals
        go_wp2_with fail
        go_roundw
        case rel => exact ⟨k + 1, by omega, by go_num, relA_own HO.out HS.out _, HG.out.set_own _ _ _⟩
        case measure => simp [intOf]; omega
    · obtain rfl : k = ts.length := by omega
      go_wp2_with fail
      exact bodyPost_ret (v := .tuple #[]) (by simp [results, Tryd.results61, go_sem]) rfl (added (by have := HL.out; omega) hb2 HO.out HG.out)
/-- gf.Add, from a slice elsewhere onto a row of the call's own. -/
theorem add_any (fb B B' : Nat) (v u : Value) (ts fs : List UInt8) (x : Nat) (w : World) (hF : FieldIn w fb) (hx : x < 256) (hv : w.ownsRow B 5 1 v ts.length (bytesV ts)) (hu : SlB B' w u fs)
    (hB' : B' ≤ w.heap.size) (hne : v.ownBlock ≠ some fb) (ht : ts.length ≤ 100000) (hf : fs.length ≤ 100000) :
    Calls Tryd.prog 61 #[.pointer (some ⟨fb, 0, none⟩), v, u, .int .u8 x] w (Added B v (addB ts fs x) w) := by
  by_cases h : fs.length < ts.length
  · exact add_lt fb B B' v u ts fs x w hF hx hv hu hB' hne ht hf h
  · exact add_ge fb B B' v u ts fs x w hF hx hv hu hB' hne ht hf h
end Go.Proofs.YtoklknjnegpaaaaDoor
