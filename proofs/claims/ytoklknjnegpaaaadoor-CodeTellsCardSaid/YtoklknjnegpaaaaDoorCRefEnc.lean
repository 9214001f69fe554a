/-
  staveref1.Encode: the same fragments.
-/
import Derived.Test.YtoklknjnegpaaaaDoorCRefRow
import Derived.Test.YtoklknjnegpaaaaDoorCMade
import Derived.Deep.RegionWith
namespace Go.Proofs.YtoklknjnegpaaaaDoor
open Go.RowKit Gf Cd
theorem row0_any (k n : Nat) (w : World) (hk : 1 ≤ k) (hkn : k ≤ n) (hn : n ≤ 8) : Calls Tryd.prog 54 #[.int .i64 k, .int .i64 n, .int .i64 0] w (NewB (rowB k 0) w) := refRow_yes k n 0 w hk hkn hn (by omega)
theorem rowB_len (k a : Nat) : (rowB k a).length = k := tab_length ..
/-- The document's error. -/
def RefErr (n : Int) (w : World) (e : Ending) (w' : World) : Prop := e = .returned (.tuple #[.slice none 0 0, .int .i64 n]) ∧ Below w.heap.size w w'
def RefRows (ls : List (List UInt8)) (w : World) (e : Ending) (w' : World) : Prop := ∃ v us, e = .returned (.tuple #[v, .int .i64 0]) ∧ OwnLs w.heap.size w' v us ls ∧ Below w.heap.size w w'
set_option maxHeartbeats 2000000 in
set_option maxRecDepth 100000 in
theorem refEnc_len (k n : Nat) (a : Option Addr) (m cap : Nat) (w : World) (hk : 1 ≤ k) (hkn : k ≤ n) (hn : n ≤ 8) (hm : m ≠ k) : Calls Tryd.prog 25 #[.int .i64 k, .int .i64 n, .slice a m cap] w (RefErr 1 w) := by
  have hne : ((m : Int) != k) = true := by simp only [bne_iff_ne, ne_eq]; omega
  go_enter Tryd.func25, Tryd.ntmps25
  go_wp2_with fail
  refine (row0_any k n w hk hkn hn).mono ?_
  rintro e w1 ⟨u, rfl, hu, hb⟩
  rw [rowB_len] at hu
  obtain ⟨gu, cu, rfl, _⟩ := own_slice hu
  obtain ⟨gu, rfl⟩ := own_addr hu (by omega)
  have HB := Lib.hid hb
  have hnl := fun w => Lib.run_eql_slice_nil (P := Tryd.prog) w 24 5 (some ⟨gu, 0, none⟩) k cu 0 0 Tryd.underlying24
  clear hu hb
  go_wp2_with fail
  go_ret2
  exact ⟨rfl, HB.out⟩
def RelE1 (bs : List (List UInt8)) (k : Nat) (w : World) (c : Value) (wr : World) : Prop := ∃ i : Nat, i ≤ k ∧ c = .int .i64 i ∧ (∀ j, j < i → (bs.getD j []).length = (bs.getD 0 []).length) ∧ Below w.heap.size w wr
theorem sameLen_of {bs : List (List UInt8)} (h : ∀ j, j < bs.length → (bs.getD j []).length = (bs.getD 0 []).length) : sameLen bs = true := by
  unfold sameLen
  rw [Bool.not_eq_true', List.any_eq_false]
  intro l hl
  obtain ⟨i, hi, rfl⟩ := List.getElem_of_mem hl
  have := h i hi
  have e : bs.getD i [] = bs[i] := by simp [List.getD, hi]
  rw [e] at this
  unfold unlike
  simp [this]
set_option maxHeartbeats 2000000 in
set_option maxRecDepth 100000 in
theorem refEnc_unlike (B k n : Nat) (v : Value) (bs : List (List UInt8)) (w : World) (hv : SlBs B w v bs) (hB : B ≤ w.heap.size) (hk : 1 ≤ k) (hkn : k ≤ n) (hn : n ≤ 8) (hl : bs.length = k) (hs : sameLen bs = false) :
    Calls Tryd.prog 25 #[.int .i64 k, .int .i64 n, v] w (RefErr 1 w) := by
  obtain ⟨a, cap, rfl, _⟩ := hv.len
  have HV := Lib.hid hv
  have HL := Lib.hid hl
  have HS := Lib.hid hs
  rw [HL.out]
  rw [HL.out] at HV
  clear hv hs
  go_enter Tryd.func25, Tryd.ntmps25
  go_wp2_with fail
  refine (row0_any k n w hk hkn hn).mono ?_
  rintro e w1 ⟨u, rfl, hu, hb⟩
  rw [rowB_len] at hu
  obtain ⟨gu, cu, rfl, _⟩ := own_slice hu
  obtain ⟨gu, rfl⟩ := own_addr hu (by omega)
  have HB := Lib.hid hb
  have HV1 := Lib.hid (HV.out.below (hb.mono hB))
  have hz1 := hb.size
  have hnl := fun w => Lib.run_eql_slice_nil (P := Tryd.prog) w 24 5 (some ⟨gu, 0, none⟩) k cu 0 0 Tryd.underlying24
  clear hu hb hl
  go_wp2_with fail
  go_loopw [8] (fun c wr => RelE1 bs k w1 c wr) (fun c _ => k - (intOf c).toNat)
  case atStart => exact ⟨0, Nat.zero_le _, rfl, fun j hj => absurd hj (by omega), Below.refl _ _⟩
  case round =>
    obtain ⟨i, hi, rfl, hall, hb⟩ := hrel
    have HA := Lib.hid hall
    have HBr := Lib.hid (bthen HB.out hb)
    clear hnl
    by_cases hik : i < k
    · obtain ⟨b, o, cc, u, e1, _, _, h1, h2⟩ := (HV1.out.below (hb.mono (by omega))).row (i := i) (by rw [HL.out]; exact hik)
      obtain ⟨b', o', cc', u', e2, _, _, h3, h4⟩ := (HV1.out.below (hb.mono (by omega))).row (i := 0) (by rw [HL.out]; omega)
      rw [HL.out] at e1 e2
      injection e1 with e1 _ e1'
      subst e1 e1'
      injection e2 with e2 _ e2'
      injection e2 with e2
      injection e2 with e2 e2'' _
      subst e2 e2' e2''
      obtain ⟨ua, uc, rfl, _⟩ := h2.len
      obtain ⟨ua', uc', rfl, _⟩ := h4.len
      simp only [Nat.add_zero] at h3
      have h0k : 0 < k := by omega
      have HBr2 := Lib.hid hb
      have hik' : (i : Int) < k := by omega
      clear h2 h4 hb hall
      by_cases he : (bs.getD i []).length = (bs.getD 0 []).length
      · have HE := Lib.hid he
        rw [he] at h1
        generalize hm : (bs.getD 0 []).length = m at *
        have HM := Lib.hid hm
        clear he hm
        go_wp2_with fail
        go_quiet (fail)
        go_wp2_with fail
        go_roundw
        case rel => exact ⟨i + 1, by omega, by go_num, fun j hj => by
          rw [HM.out]
          by_cases e : j = i
          · subst e; exact HE.out
          · exact HA.out j (by omega), below_drewN HBr2.out _⟩
        case measure => simp [intOf]; omega
      · have he1 : (((bs.getD i []).length : Int) != ((bs.getD 0 []).length : Nat)) = true := by simp only [bne_iff_ne, ne_eq]; omega
        generalize (bs.getD 0 []).length = m at *
        generalize (bs.getD i []).length = m' at *
        clear he
        go_wp2_with fail
        go_quiet (fail)
        go_wp2_with fail
        go_ret2
        exact ⟨rfl, below_drewN HBr.out _⟩
    · obtain rfl : i = k := by omega
      have := sameLen_of (bs := bs) (by rw [HL.out]; exact HA.out)
      rw [HS.out] at this
      cases this
/-- What of a fragment is made. -/
structure EncRow (wo : World) (s : Nat) (l : List UInt8) (k a gu cu : Nat) (wr : World) : Prop where
  p : wr.ownsRow wo.heap.size 5 1 (.slice (some ⟨wo.heap.size, 0, none⟩) s s) s (bytesV l)
  u : wr.ownsRow (wo.heap.size + 1) 5 1 (.slice (some ⟨gu, 0, none⟩) k cu) k (bytesV (rowB k a))
  below : Below wo.heap.size wo wr
theorem EncRow.set {wo wr : World} {s k a gu cu i z : Nat} {l m : List UInt8} (h : EncRow wo s l k a gu cu wr) (hs : (bytesV l).set i (.int .u8 z) = bytesV m) (d : Nat) : EncRow wo s m k a gu cu ((wr.setCell ⟨wo.heap.size, i, none⟩ (.int .u8 z)).drewN d) := by
  have h1 := own_set h.p i (.int .u8 z)
  rw [hs] at h1
  have h2 := (own_lt h.u).1
  exact ⟨own_below h1 (below_drewN (Below.refl _ _) d), own_below (own_kept_set h.u (Or.inr fun e => by injection e with e; have e' : gu = wo.heap.size := e; omega)) (below_drewN (Below.refl _ _) d), below_drewN (h.below.setCell (Nat.le_refl _) _) d⟩
def RelE3 (bs : List (List UInt8)) (wo : World) (s k a gu cu : Nat) (c : Value) (wr : World) : Prop := ∃ j : Nat, j ≤ k ∧ c = .int .i64 j ∧ EncRow wo s (combo (cf k a) bs s j) k a gu cu wr
def RelE4 (bs : List (List UInt8)) (wo : World) (s k a gu cu j : Nat) (c : Value) (wr : World) : Prop := ∃ x : Nat, x ≤ s ∧ c = .int .i64 x ∧ EncRow wo s (addK (combo (cf k a) bs s j) (bs.getD j []) (cf k a j) x) k a gu cu wr
def RelE2 (bs : List (List UInt8)) (w : World) (s k n : Nat) (v c : Value) (wr : World) : Prop := ∃ (a : Nat) (us : List Value), a ≤ n ∧ c = .int .i64 a ∧ OwnLs w.heap.size wr v us (tabL a fun i => combo (cf k i) bs s k) ∧ Below w.heap.size w wr
theorem refMul_as (f b z : Nat) (w : World) (hf : f < 256) (hb : b < 256) (hz : mul b f = z) : Calls Tryd.prog 51 #[.int .u8 f, .int .u8 b] w (U8Same z w) := by
  have := refMul_any f b w hf hb
  rwa [mul_comm, hz] at this
theorem relE2_next {bs : List (List UInt8)} {w wo wr w2 : World} {s k n a gu cu : Nat} {v v2 : Value} {us : List Value} {o : Obj} (ha : a < n) (hO : OwnLs w.heap.size wo v us (tabL a fun i => combo (cf k i) bs s k)) (hb : Below w.heap.size w wo)
    (hp : EncRow wo s (combo (cf k a) bs s k) k a gu cu wr) (ho2 : w2.ownsRow w.heap.size 24 1 v2 (a + 1) (us ++ [.slice (some ⟨wo.heap.size, 0, none⟩) s s])) (hg : Grew (wr.alloc o) v.ownBlock w2 v2.ownBlock) : RelE2 bs w s k n v2 (.int .i64 ((a : Int) + 1)) w2 := by
  have hp' : wr.ownsRow wo.heap.size 5 1 (.slice (some ⟨wo.heap.size, 0, none⟩) s s) (combo (cf k a) bs s k).length (bytesV (combo (cf k a) bs s k)) := by rw [combo_length]; exact hp.p
  have hO2 := hO.snoc_new hb.size hp.below hp' (one_below wr o) (by rw [tabL_length]; exact ho2) hg
  rw [← tabL_succ a (fun i => combo (cf k i) bs s k)] at hO2
  refine ⟨a + 1, _, by omega, by go_num, hO2, ?_⟩
  have h1 : Below w.heap.size w (wr.alloc o) := balloc (bthen hb hp.below) o
  exact h1.trans (hg.below h1.size fun q hq => (own_block hO.top hq).1)
set_option maxHeartbeats 4000000 in
set_option maxRecDepth 100000 in
theorem refEnc_yes (B k n s : Nat) (v : Value) (bs : List (List UInt8)) (w : World) (hv : SlBs B w v bs) (hB : B ≤ w.heap.size) (hk : 1 ≤ k) (hkn : k ≤ n) (hn : n ≤ 8) (hl : bs.length = k) (hs : ∀ j, j < k → (bs.getD j []).length = s) (hs1 : s ≤ 1000) :
    Calls Tryd.prog 25 #[.int .i64 k, .int .i64 n, v] w (RefRows (encL k n bs s) w) := by
  obtain ⟨a, cap, rfl, _⟩ := hv.len
  have HV := Lib.hid hv
  have HL := Lib.hid hl
  have HS := Lib.hid hs
  rw [HL.out]
  rw [HL.out] at HV
  clear hv hs
  go_enter Tryd.func25, Tryd.ntmps25
  go_wp2_with fail
  refine (row0_any k n w hk hkn hn).mono ?_
  rintro e w1 ⟨u, rfl, hu, hb⟩
  rw [rowB_len] at hu
  obtain ⟨gu, cu, rfl, _⟩ := own_slice hu
  obtain ⟨gu, rfl⟩ := own_addr hu (by omega)
  have HB := Lib.hid hb
  have HV1 := Lib.hid (HV.out.below (hb.mono hB))
  have hz1 := hb.size
  have hnl := fun w => Lib.run_eql_slice_nil (P := Tryd.prog) w 24 5 (some ⟨gu, 0, none⟩) k cu 0 0 Tryd.underlying24
  clear hu hb hl
  go_wp2_with fail
  go_loopw [8] (fun c wr => RelE1 bs k w1 c wr) (fun c _ => k - (intOf c).toNat)
  case atStart => exact ⟨0, Nat.zero_le _, rfl, fun j hj => absurd hj (by omega), Below.refl _ _⟩
  case round =>
    obtain ⟨i, hi, rfl, hall, hb⟩ := hrel
    have HA := Lib.hid hall
    have HBr := Lib.hid (bthen HB.out hb)
    clear hnl hall
    obtain ⟨b', o', cc', u', e2, _, _, h3, h4⟩ := (HV1.out.below (hb.mono (by omega))).row (i := 0) (by rw [HL.out]; omega)
    obtain ⟨ua', uc', rfl, _⟩ := h4.len
    rw [HS.out 0 (by omega)] at h3
    rw [HL.out] at e2
    injection e2 with e2 _ e2'
    subst e2 e2'
    simp only [Nat.add_zero] at h3
    have h0k : 0 < k := by omega
    by_cases hik : i < k
    · obtain ⟨b, o, cc, u, e1, _, _, h1, h2⟩ := (HV1.out.below (hb.mono (by omega))).row (i := i) (by rw [HL.out]; exact hik)
      rw [HL.out] at e1
      injection e1 with e1 _ e1'
      injection e1 with e1
      injection e1 with e1 e1'' _
      subst e1 e1' e1''
      obtain ⟨ua, uc, rfl, _⟩ := h2.len
      rw [HS.out i hik] at h1
      have HBr2 := Lib.hid hb
      have hik' : (i : Int) < k := by omega
      clear h2 h4 hb
      go_wp2_with fail
      go_quiet (fail)
      go_wp2_with fail
      go_roundw
      case rel => exact ⟨i + 1, by omega, by go_num, fun j hj => by rw [HS.out j (by omega), HS.out 0 (by omega)], below_drewN HBr2.out _⟩
      case measure => simp [intOf]; omega
    · obtain rfl : i = k := by omega
      have HVR := Lib.hid (HV1.out.below (hb.mono (by omega)))
      have hz2 := HBr.out.size
      clear h4 hb h3
      go_wp2_with fail
      go_loopw [9, 10] (fun v c wr => RelE2 bs w s i n v c wr) (fun _ c _ => n - (intOf c).toNat)
      case atStart => exact ⟨0, [], Nat.zero_le _, rfl, ownLs_nil _ _, HBr.out⟩
      case round =>
        obtain ⟨a, us, ha, rfl, hO, hb⟩ := hrel
        have HO := Lib.hid hO
        have HB2 := Lib.hid hb
        by_cases han : a < n
        · have HVa := Lib.hid (HV.out.below (hb.mono hB))
          obtain ⟨u, h3, h4⟩ := HVa.out.row' (i := 0) (by rw [HL.out]; omega)
          obtain ⟨ua, uc, rfl, _⟩ := h4.len
          rw [HS.out 0 (by omega)] at h3
          simp only [Nat.add_zero] at h3
          have hsl := hO.slice
          rw [tabL_length] at hsl
          obtain ⟨gx, cx, rfl, _⟩ := hsl
          have hmk := make_u8 s (by omega) wr
          have HMO := Lib.hid (made_own wr wr.heap.size s (Nat.le_refl _) (by omega))
          have hz3 := hb.size
          clear hO hb h4
          obtain ⟨wo, rfl⟩ : ∃ wo : World, wo = wr := ⟨_, rfl⟩
          go_wp2_with fail
          go_at_call 54
          refine (refRow_yes i n a _ hk hkn hn han).mono ?_
          rintro e w3 ⟨u3, rfl, hu3, hb3⟩
          rw [rowB_len] at hu3
          obtain ⟨g3, c3, rfl, _⟩ := own_slice hu3
          obtain ⟨g3, rfl⟩ := own_addr hu3 (by omega)
          have HE := Lib.hid (show EncRow wo s (zeros s) i a g3 c3 w3 from ⟨own_below HMO.out hb3, by have h := hu3; simpa using h, (one_below wo _).trans (hb3.mono (by simp))⟩)
          clear hu3 hb3 hmk h3
          go_wp2_with fail
          go_loopw [55] (fun c wr => RelE3 bs wo s i a g3 c3 c wr) (fun c _ => i - (intOf c).toNat)
          case atStart => exact ⟨0, Nat.zero_le _, rfl, HE.out⟩
          case round =>
            obtain ⟨j, hj, rfl, hE⟩ := hrel
            by_cases hji : j < i
            · have hcu := own_cell hE.u (bytesV_at (i := j) (l := rowB i a) (by rw [rowB_len]; exact hji))
              have hf : ((rowB i a).getD j 0).toNat = cf i a j := tab_nat _ hji (cf_lt ..)
              rw [hf] at hcu
              have hfl := cf_lt i a j
              have HF := Lib.hid (show cf i a j = cf i a j from rfl)
              have HEj := Lib.hid hE
              have hji' : (j : Int) < i := by omega
              clear hE hf
              generalize hff : cf i a j = f at *
              have HFF := Lib.hid hff
              clear hff
              go_wp2_with fail
              go_loopw [62] (fun c wr => RelE4 bs wo s i a g3 c3 j c wr) (fun c _ => s - (intOf c).toNat)
              case atStart => exact ⟨0, Nat.zero_le _, rfl, by rw [addK_0]; exact HEj.out⟩
              case round =>
                obtain ⟨x, hx, rfl, hE⟩ := hrel
                rw [HFF.out] at hE
                clear hcu
                by_cases hxs : x < s
                · have hlen : x < (addK (combo (cf i a) bs s j) (bs.getD j []) f x).length := by rw [addK_length, combo_length]; exact hxs
                  have c1 := own_cell hE.p (bytesV_at hlen)
                  have c2 := own_frozen hE.p x
                  rw [addK_getD _ _ _ _ _ (by rw [combo_length]; exact hxs), if_neg (by omega)] at c1
                  obtain ⟨rb, ro, rc, ru, e3, _, _, d1, d2⟩ := (HVa.out.below (hE.below.mono (by omega))).row (i := j) (by rw [HL.out]; exact hji)
                  rw [HL.out] at e3
                  injection e3 with e3 _ e3'
                  injection e3 with e3
                  injection e3 with e3 e3'' _
                  subst e3 e3' e3''
                  obtain ⟨b2, o2, q2, rfl, d3⟩ := d2.byte (by have := hE.below.size; omega) (Below.refl _ _) (k := x) (by rw [HS.out j hji]; exact hxs)
                  rw [HS.out j hji] at d1
                  have HSET := Lib.hid (addK_set (combo (cf i a) bs s j) (bs.getD j []) f x (by rw [HS.out j hji]; exact hxs))
                  have m1 : ((combo (cf i a) bs s j).getD x 0).toNat < 256 := UInt8.toNat_lt _
                  have m2 : ((bs.getD j []).getD x 0).toNat < 256 := UInt8.toNat_lt _
                  have hxr := u8_xor_nat _ _ m1 (mul_lt ((bs.getD j []).getD x 0).toNat f)
                  have HEx := Lib.hid hE
                  have hxs' : (x : Int) < s := by omega
                  generalize ((combo (cf i a) bs s j).getD x 0).toNat = pv at *
                  generalize ((bs.getD j []).getD x 0).toNat = bv at *
                  generalize hmm : mul bv f = mv at *
                  have HMM := Lib.hid hmm
                  have HN := Lib.hid (fun d => (HEx.out.set HSET.out d))
                  generalize pv ^^^ mv = zv at *
                  clear hE hlen d2 hmm
                  go_wp2_with fail
                  go_region_with (go_at_call 51; refine (refMul_as f bv mv _ hfl m2 HMM.out).mono ?_; rintro e w' ⟨rfl, rfl⟩)
                  all_goals
                    go_wp2_with fail
                    go_roundw
                    case rel => exact ⟨x + 1, by omega, by go_num, by rw [HFF.out]; exact HN.out 1⟩
                    case measure => simp [intOf]; omega
                · obtain rfl : x = s := by omega
                  have HEx := Lib.hid hE
                  clear hE
                  go_wp2_with fail
                  go_roundw
                  case rel => exact ⟨j + 1, by omega, by go_num, by
                    have h := HEx.out
                    rw [addK_all _ _ _ _ (show x = min _ _ by rw [combo_length, HS.out j hji, Nat.min_self]), ← HFF.out] at h
                    exact h⟩
                  case measure => simp [intOf]; omega
            · obtain rfl : j = i := by omega
              have HEi := Lib.hid hE
              have HTOP := Lib.hid (fun o => show (wr.alloc o).ownsRow w.heap.size 24 1 (.slice gx a cx) a us by have := own_below HO.out.top (balloc hE.below o); rwa [tabL_length] at this)
              have HS1 := Lib.hid (show a + 1 ≤ 100000 by omega)
              have HS2 := Lib.hid (fun o => show w.heap.size ≤ (wr.alloc o).heap.size from (bthen HB2.out (balloc hE.below o)).size)
              clear hE
              go_wp2_with (at_builtin; refine wpList_append_row _ rfl (.tmp 84) (.tmp 86) rfl w.heap.size _ _ us rfl (HTOP.out _) _ (.slice (some ⟨wo.heap.size, 0, none⟩) s s) rfl (new_cells _ _ _ _ _ rfl) rfl HS1.out (HS2.out _) ?_; intro v2 w2 hown2 hg2; have HOW := Lib.hid hown2; have HGR := Lib.hid hg2; clear hown2 hg2)
              go_roundw
              case rel => exact relE2_next han HO.out HB2.out HEi.out HOW.out HGR.out
              case measure => simp [intOf]; omega
        · obtain rfl : a = n := by omega
          clear hO hb
          go_wp2_with fail
          go_ret2
          exact ⟨_, us, rfl, HO.out, HB2.out⟩
end Go.Proofs.YtoklknjnegpaaaaDoor
