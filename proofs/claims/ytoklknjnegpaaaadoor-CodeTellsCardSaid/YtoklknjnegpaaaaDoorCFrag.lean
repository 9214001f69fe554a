/-
  code.fragment and code.times: sums of products in rows of the call's own.
-/
import Derived.Test.YtoklknjnegpaaaaDoorCLen
namespace Go.Proofs.YtoklknjnegpaaaaDoor
open Go.RowKit Gf Cd
/-- The sum of the first blocks, each by its factor. -/
def combo (c : Nat → Nat) (bs : List (List UInt8)) (s : Nat) : Nat → List UInt8
  | 0 => zeros s
  | j + 1 => addB (combo c bs s j) (bs.getD j []) (c j)
theorem combo_length (c : Nat → Nat) (bs : List (List UInt8)) (s : Nat) : ∀ j, (combo c bs s j).length = s
  | 0 => zeros_length s
  | j + 1 => by show (addB _ _ _).length = s; rw [addB_length, combo_length c bs s j]
theorem combo_nat {c : Nat → Nat} {bs : List (List UInt8)} {s x : Nat} (hx : x < s) : ∀ j, (∀ i, i < j → (bs.getD i []).length = s) → ((combo c bs s j).getD x 0).toNat = dot c (fun i => ((bs.getD i []).getD x 0).toNat) j
  | 0, _ => zeros_getD s x
  | j + 1, h => by
    show ((addB _ _ _).getD x 0).toNat = dot c _ j ^^^ mul _ (c j)
    rw [addB_getD _ _ _ _ (by rw [combo_length]; exact hx), if_pos (by rw [h j (by omega)]; exact hx), combo_nat hx j fun i hi => h i (by omega)]
def RelFr (c : Nat → Nat) (bs : List (List UInt8)) (s k g : Nat) (w : World) (i : Value) (wr : World) : Prop :=
  ∃ j : Nat, j ≤ k ∧ i = .int .i64 j ∧ wr.ownsRow w.heap.size 5 1 (.slice (some ⟨g, 0, none⟩) s s) s (bytesV (combo c bs s j)) ∧ Below w.heap.size w wr
theorem relFr_next {c : Nat → Nat} {bs : List (List UInt8)} {s k g f j : Nat} {w wr w2 : World} (hb : Below w.heap.size w wr) (hf : c j = f) (ho : w2.ownsRow w.heap.size 5 1 (.slice (some ⟨g, 0, none⟩) s s) (addB (combo c bs s j) (bs.getD j []) f).length (bytesV (addB (combo c bs s j) (bs.getD j []) f)))
    (hg : Grew wr.drew (Value.slice (some ⟨g, 0, none⟩) s s).ownBlock w2 (Value.slice (some ⟨g, 0, none⟩) s s).ownBlock) (hj : j < k) : RelFr c bs s k g w (.int .i64 ((j : Int) + 1)) w2 := by
  subst hf
  refine ⟨j + 1, by omega, by go_num, ?_, (hb.trans ((Below.refl _ wr).drew.mono hb.size)).trans (hg.below (by exact hb.size) fun q hq => (own_block ho hq).1)⟩
  rw [addB_length, combo_length] at ho
  exact ho
theorem FieldIn.at {B fb : Nat} {w w' : World} (h : FieldIn w fb) (hb : Below B w w') (hl : fb < B) : FieldIn w' fb :=
  ⟨fun i hi => by rw [hb.cell (by exact hl)]; exact h.exp i hi, by rw [hb.cell (by exact hl)]; exact h.none_, fun a ha h0 => by rw [hb.cell (by exact hl)]; exact h.log a ha h0⟩
set_option maxHeartbeats 2000000 in
set_option maxRecDepth 100000 in
theorem fragment_any (B B' c k n a s : Nat) (v : Value) (bs : List (List UInt8)) (w : World) (hC : CodeIn B w c k n) (hB : B ≤ w.heap.size) (ha : a < n) (hv : SlBs B' w v bs) (hB' : B' ≤ w.heap.size) (hk : bs.length = k)
    (hs : ∀ i, i < k → (bs.getD i []).length = s) (hsz : s ≤ 1000) : Calls Tryd.prog 53 #[.pointer (some ⟨c, 0, none⟩), .int .i64 a, v] w (NewB (combo (cf k a) bs s k) w) := by
  obtain ⟨k0, ⟨rv, c1, hrows⟩, ⟨fb, c2, hF, hfb⟩, hcB, hk1, hkn, hn8⟩ := hC
  obtain ⟨b, o, cap, ur, rfl, hcap, -, hr, hrow⟩ := hrows.row (i := a) (by rw [rowsL_length]; exact ha)
  obtain ⟨b', o', cap', u0, rfl, hcap', -, hb0, hsl0⟩ := hv.row (i := 0) (by omega)
  rw [rowsL_getD ha] at hrow
  rw [rowsL_length] at c1 hcap
  rw [hk] at hcap' 
  obtain ⟨ra, rc, rfl, hrc⟩ := hrow.len
  obtain ⟨a0, c0, rfl, _⟩ := hsl0.len
  rw [hs 0 (by omega)] at hb0
  rw [rowB_length] at hr hrc
  have hb0' : w.cell? ⟨b', o', none⟩ = some (.slice a0 s c0) := hb0
  have HV := Lib.hid hv
  have HROW := Lib.hid hrow
  have HF := Lib.hid hF
  have HS := Lib.hid hs
  have HK := Lib.hid hk
  have HMO := Lib.hid (made_own w w.heap.size s (Nat.le_refl _) (by omega))
  have hmk := make_u8 s (by omega)
  have hk' : (0 : Int) < k := by omega
  have ha' : (a : Int) < n := by omega
  clear hv hrows hrow hF hs hk hsl0 hb0 k0
  rw [HK.out]
  have n1 : c < w.heap.size := World.block_lt_of_cell? w _ c1
  have n2 : b < w.heap.size := World.block_lt_of_cell? w _ hr
  go_enter Tryd.func53, Tryd.ntmps53
  go_wp2_with fail
  go_loopw [23] (fun i wr => RelFr (cf k a) bs s k w.heap.size w i wr) (fun i _ => k - (intOf i).toNat)
  case atStart => exact ⟨0, Nat.zero_le _, rfl, HMO.out, one_below _ _⟩
  case round =>
    obtain ⟨j, hj, rfl, hown, hb⟩ := hrel
    have HO := Lib.hid hown
    have HB := Lib.hid hb
    clear hmk
    by_cases hlt : j < k
    · obtain ⟨b2, o2, cap2, h1, hcell⟩ := HROW.out.byte hB hb (k := j) (by rw [rowB_length]; exact hlt)
      rw [rowB_nat hlt, ] at hcell
      rw [rowB_length] at h1
      injection h1 with h1 _ h2
      subst h1 h2
      have hc2 := (hb.cell (p := ⟨c, 2, none⟩) (show c < w.heap.size by omega)).trans c2
      obtain ⟨u, hu1, hu2⟩ := HV.out.row' (i := j) (by have := HK.out; omega)
      have hu3 := (hb.cell (p := ⟨b', o' + j, none⟩) (by have := World.block_lt_of_cell? w _ hu1; exact this)).trans hu1
      have HU := Lib.hid (hu2.below (Below.mono hb hB'))
      have HF2 := Lib.hid (HF.out.at hb (by omega))
      have HL := Lib.hid (HS.out j hlt)
      have hcf := cf_lt k a j
      generalize hCF : cf k a j = f at *
      have HCF := Lib.hid hCF
      clear hown hb hu1 hu2 hCF
      go_wp2_with fail
      go_still_tail 10, (by kernel_rfl)
      go_wp2_with fail
      go_at_call 61
      refine (add_any fb w.heap.size B' _ _ (combo (cf k a) bs s j) (bs.getD j []) f _ (by exact HF2.out.drew) hcf ?_ (by exact HU.out.below ((Below.refl _ _).drew)) ?_ ?_ (by rw [combo_length]; omega) (by rw [HL.out]; omega)).mono ?_
      · rw [combo_length]; exact own_below HO.out (Below.refl _ _).drew
      · have := HB.out.size; show B' ≤ wr.heap.size; omega
      · intro e; have e' : w.heap.size = fb := by injection e
        omega
      rintro e w2 ⟨rfl, hown2, hg2⟩
      have HO2 := Lib.hid hown2
      have HG2 := Lib.hid hg2
      clear hown2 hg2
      go_wp2_with fail
      go_roundw
      case rel => exact relFr_next HB.out HCF.out HO2.out HG2.out hlt
      case measure => simp [intOf]; omega
    · obtain rfl : j = k := by omega
      clear hown hb
      go_wp2_with fail
      go_ret
      exact ⟨_, rfl, by rw [combo_length]; exact HO.out, HB.out⟩
end Go.Proofs.YtoklknjnegpaaaaDoor
