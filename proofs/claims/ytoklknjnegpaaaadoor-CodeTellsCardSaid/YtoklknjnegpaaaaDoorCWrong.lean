/-
  code.firstWrong: the place of the first part that cannot be, or -1.
-/
import Derived.Test.YtoklknjnegpaaaaDoorCPart
namespace Go.Proofs.YtoklknjnegpaaaaDoor
open Go.RowKit Gf Cd
def RelWr (n m : Nat) (ps : List Pt) (w : World) (c : Value) (wr : World) : Prop := ∃ k : Nat, k ≤ ps.length ∧ c = .int .i64 k ∧ (∀ x, x < k → wrongP n m (ps.getD x pt0) = false) ∧ Below w.heap.size w wr
set_option maxHeartbeats 1000000 in
set_option maxRecDepth 100000 in
theorem index_wrong (B B' c k n p1 p2 b o cap : Nat) (ps : List Pt) (w : World) (hC : CodeIn B w c k n) (hB : B ≤ w.heap.size) (hv : SlP B' w (.slice (some ⟨b, o, none⟩) ps.length cap) ps) (hB' : B' ≤ w.heap.size) (hl : ps.length ≤ 100000)
    (h1 : w.cell? ⟨p1, 0, none⟩ = some (.pointer (some ⟨c, 0, none⟩))) (h2 : w.cell? ⟨p2, 0, none⟩ = some (.slice (some ⟨b, o, none⟩) ps.length cap)) :
    Calls Tryd.prog 86 #[.slice (some ⟨b, o, none⟩) ps.length cap, .func (.func 85) #[] #[.pointer (some ⟨p1, 0, none⟩), .pointer (some ⟨p2, 0, none⟩)]] w (Num (firstAt (wrongP n (ps.getD 0 pt0).2.length) ps 0) w) := by
  have HV := Lib.hid hv
  have HC := Lib.hid hC
  have H1 := Lib.hid h1
  have H2 := Lib.hid h2
  obtain ⟨_, _, _, hcl⟩ := hv.len
  clear hv hC h1 h2
  go_enter Tryd.func86, Tryd.ntmps86
  go_wp2
  go_loopw [8] (fun i wr => RelWr n (ps.getD 0 pt0).2.length ps w i wr) (fun i _ => ps.length - (intOf i).toNat)
  case atStart => exact ⟨0, Nat.zero_le _, rfl, fun x hx => by omega, Below.refl _ _⟩
  case round =>
    obtain ⟨j, hj, rfl, hno, hb⟩ := hrel
    have HN := Lib.hid hno
    have HB := Lib.hid hb
    clear hno
    by_cases hlt : j < ps.length
    · have hbl : b < w.heap.size := Nat.lt_of_lt_of_le (HV.out.lt (by omega)) hB'
      have HVr := HV.out.below (Below.mono hb hB')
      obtain ⟨q1, u, q2, q3⟩ := HVr.part' hlt
      obtain ⟨-, u0, r2, r3⟩ := HVr.part' (i := 0) (by omega)
      rw [Nat.zero_mul, Nat.add_zero] at r2
      have HE := Lib.hid (show wrongP n (ps.getD 0 pt0).2.length ((ps.getD j pt0).1, (ps.getD j pt0).2) = wrongP n (ps.getD 0 pt0).2.length (ps.getD j pt0) from rfl)
      obtain ⟨a1, cu, rfl, _⟩ := q3.len
      obtain ⟨a0, c0, rfl, _⟩ := r3.len
      have hcw := HC.out.below (Below.mono hb hB)
      have HW := Lib.hid (wrong_part B c k n p1 p2 b o cap ps.length (ps.getD j pt0).2.length cu (ps.getD 0 pt0).2.length c0 a1 a0 (ps.getD j pt0).1 (ps.getD j pt0).2 wr hcw (Nat.le_trans hB hb.size) rfl ((hb.cell (p := ⟨p1, 0, none⟩) (World.block_lt_of_cell? w _ H1.out)).trans H1.out) ((hb.cell (p := ⟨p2, 0, none⟩) (World.block_lt_of_cell? w _ H2.out)).trans H2.out) (by omega) r2)
      rw [HE.out] at HW
      have HR := Lib.hid (show wrongP n (ps.getD 0 pt0).2.length (ps.getD j pt0) = wrongP n (ps.getD 0 pt0).2.length (ps.getD j pt0) from rfl)
      clear q3 r2 r3 hcw HVr hb HE
      generalize (ps.getD j pt0).2.length = m1 at *
      generalize (ps.getD j pt0).1 = x1 at *
      cases hd : wrongP n (ps.getD 0 pt0).2.length (ps.getD j pt0)
      · rw [hd] at HW
        have HD := Lib.hid hd
        clear hd
        go_wp2_with fail
        refine HW.out.mono ?_
        rintro e w' ⟨rfl, hb2⟩
        have HB2 := Lib.hid hb2
        clear hb2
        go_wp2_with fail
        go_roundw
        case rel =>
          refine ⟨j + 1, by omega, by go_num, fun x hx => ?_, bthen HB.out HB2.out⟩
          rcases Nat.lt_or_ge x j with h | h
          · exact HN.out x h
          · obtain rfl : x = j := by omega
            exact HD.out
        case measure => simp [intOf]; omega
      · rw [hd] at HW
        have HD := Lib.hid hd
        clear hd
        go_wp2_with fail
        refine HW.out.mono ?_
        rintro e w' ⟨rfl, hb2⟩
        have HB2 := Lib.hid hb2
        clear hb2
        go_wp2_with fail
        go_ret
        exact num (firstAt_here _ pt0 ps j hlt HN.out HD.out).symm (bthen HB.out HB2.out)
    · obtain rfl : j = ps.length := by omega
      clear hb
      go_wp2_with fail
      go_ret
      exact num (firstAt_none _ pt0 ps HN.out).symm HB.out
theorem index_wrong_none (f : Value) (a : Option Addr) (cap : Nat) (w : World) :
    Calls Tryd.prog 86 #[.slice a 0 cap, f] w (Num (-1) w) := by
  go_enter Tryd.func86, Tryd.ntmps86
  go_wp2
  refine wp_loop_rounds 1 ?_
  rw [rounds_succ]
  go_wp2
  go_ret
  exact ⟨rfl, Below.refl _ _⟩
/-- The place of the first part that cannot be. -/
def wrongAt (n : Nat) (ps : List Pt) : Int := firstAt (wrongP n (ps.getD 0 pt0).2.length) ps 0
set_option maxHeartbeats 1000000 in
set_option maxRecDepth 100000 in
theorem firstWrong_any (B B' c k n : Nat) (v : Value) (ps : List Pt) (w : World) (hC : CodeIn B w c k n) (hB : B ≤ w.heap.size) (hv : SlP B' w v ps) (hB' : B' ≤ w.heap.size) (hl : ps.length ≤ 100000) :
    Calls Tryd.prog 55 #[.pointer (some ⟨c, 0, none⟩), v] w (Num (wrongAt n ps) w) := by
  have hmf : ∀ (fn : Fn) (first cap : Array Value) (w : World), (Instr.makeFunc fn first cap).run Tryd.prog w = .ok (.func fn first cap) w := fun _ _ _ _ => rfl
  have HI := Lib.hid (fun (W : World) (hW : Below w.heap.size w W) (p1 p2 : Nat) (h1 : W.cell? ⟨p1, 0, none⟩ = some (.pointer (some ⟨c, 0, none⟩))) (h2 : W.cell? ⟨p2, 0, none⟩ = some v) => show Calls Tryd.prog 86 #[v, .func (.func 85) #[] #[.pointer (some ⟨p1, 0, none⟩), .pointer (some ⟨p2, 0, none⟩)]] W (Num (wrongAt n ps) W) by
    rcases hv with ⟨rfl, a, cap, rfl⟩ | ⟨b, o, cap, rfl, hr⟩
    · exact index_wrong_none _ _ _ _
    · exact index_wrong B B' c k n p1 p2 b o cap ps W (hC.below (Below.mono hW hB)) (Nat.le_trans hB hW.size) (SlP.below (Or.inr ⟨b, o, cap, rfl, hr⟩) (Below.mono hW hB')) (Nat.le_trans hB' hW.size) hl h1 h2)
  obtain ⟨a1, cap1, rfl, _⟩ := hv.len
  clear hv hC
  generalize wrongAt n ps = r at *
  go_enter Tryd.func55, Tryd.ntmps55
  go_wp2_with fail
  refine (HI.out _ (balloc (one_below _ _) _) _ _ (by simp) (by simp)).mono ?_
  rintro e w' ⟨rfl, hb⟩
  have HB := Lib.hid hb
  clear hb
  go_wp2
  go_ret
  exact num rfl (bthen (balloc (one_below _ _) _) HB.out)
end Go.Proofs.YtoklknjnegpaaaaDoor
