/-
  stavelaw8.RackPlays: the walk, two racks.
-/
import Derived.Test.YtbokangpcjeofaaGreatDoorVAll
import Derived.Test.YtbokangpcjeofaaGreatDoorQRuns2
import Derived.Test.YtbokangpcjeofaaGreatDoorWithinV2
import Derived.Test.YtbokangpcjeofaaGreatDoorSameB
import Derived.Test.YtbokangpcjeofaaGreatDoorNums
import Derived.Deep.CutBlock
import Derived.Deep.DeepCutAuto
import Derived.Deep.DeepMust
import Derived.BigQuiet
namespace Go.Proofs.YtbokangpcjeofaaGreatDoor
open Go.RowKit Go.Deep Dk Qk Go.Maps Hf
def CutV (w0 : World) (Q : Nat) (a : Qa) (c : Lc) (f : Lf) (n k : Nat) (ok : Value) (wx : World) : Prop := ok = .bool true ∧ DN w0 (fun b => b = Q) Q a c f n k wx
/-- The bytes that are written: a row of their own. -/
def CutB (w0 : World) (Q : Nat) (a : Qa) (c : Lc) (f : Lf) (C E : Nat → Nat) (q q' : Rk) (v : Value) (wx : World) : Prop :=
  ∃ (g cp : Nat) (L : List UInt8), v = .slice (some ⟨g, 0, none⟩) 128 cp ∧ L.length = 128 ∧ SlB wx.heap.size wx (.slice (some ⟨g, 0, none⟩) 128 cp) L ∧ DX w0 (fun b => b = Q ∨ b = g) Q a c f C E q q' wx
theorem wrap_u8 (n : Int) : ∃ xb : Nat, xb < 256 ∧ IntKind.u8.wrap n = (xb : Int) := by
  have h : IntKind.u8.wrap n = n % 256 := by simp [IntKind.wrap, IntKind.bits, IntKind.signed]
  exact ⟨(n % 256).toNat, by omega, by rw [h]; omega⟩
def RelUp (p : Rk) (w1 : World) (ok up i : Value) (wr : World) : Prop :=
  ok = .bool true ∧ ∃ d : Nat, d ≤ p.n ∧ i = .int .i64 d ∧ wr.ownsRow w1.heap.size 3 1 up (upsN p d).length (numsV (upsN p d)) ∧ Below w1.heap.size w1 wr
def CutU (p : Rk) (d : Nat) (w1 : World) (v : Value) (wx : World) : Prop := wx.ownsRow w1.heap.size 3 1 v (upsN p (d + 1)).length (numsV (upsN p (d + 1))) ∧ Below w1.heap.size w1 wx
def RelIn2 (m : Nat) (w2 : World) (ok i : Value) (wr : World) : Prop := ok = .bool true ∧ ∃ s : Nat, s ≤ m ∧ i = .int .i64 s ∧ Below w2.heap.size w2 wr
theorem qval_len {lo : Nat} {w : World} {c : Lc} {q : Rk} (h : RackIn lo w c q) (i s : Int) : (qval q i s).length ≤ 128 := by
  unfold qval
  split
  · rename_i hi
    exact rval_length (h.disk i.toNat (by have := hi.1.1; have := hi.1.2; omega)).ok s
  · simp
structure LastV (w0 : World) (Q : Nat) (a : Qa) (c : Lc) (f : Lf) (C E : Nat → Nat) (p p' : Rk) (w1 : World) (up : Value) (g : Fr) (b1 b2 : Nat) (w : World) : Prop where
  dx : DX w0 (fun b => b = Q) Q a c f C E p p' w
  f1 : FrIn g b1 w
  f2 : FrIn g b2 w
  l1 : b1 < w.heap.size
  l2 : b2 < w.heap.size
  up : w.ownsRow w1.heap.size 3 1 up (upsN p p.n).length (numsV (upsN p p.n))
theorem LastV.below {w0 : World} {Q : Nat} {a : Qa} {c : Lc} {f : Lf} {C E : Nat → Nat} {p p' : Rk} {w1 : World} {up : Value} {g : Fr} {b1 b2 : Nat} {w w' : World} (h : LastV w0 Q a c f C E p p' w1 up g b1 b2 w) (hb : Below w.heap.size w w') : LastV w0 Q a c f C E p p' w1 up g b1 b2 w' :=
  ⟨h.dx.below hb, h.f1.below h.l1 hb, h.f2.below h.l2 hb, Nat.lt_of_lt_of_le h.l1 hb.size, Nat.lt_of_lt_of_le h.l2 hb.size, own_below h.up hb⟩
theorem LastV.drew {w0 : World} {Q : Nat} {a : Qa} {c : Lc} {f : Lf} {C E : Nat → Nat} {p p' : Rk} {w1 : World} {up : Value} {g : Fr} {b1 b2 : Nat} {w : World} (h : LastV w0 Q a c f C E p p' w1 up g b1 b2 w) : LastV w0 Q a c f C E p p' w1 up g b1 b2 w.drew := h.below (Below.drew (Below.refl _ _))
def RelVP (w0 : World) (c : Lc) (f : Lf) (n k len : Nat) (i : Value) (wr : World) : Prop := ∃ m : Nat, m ≤ len ∧ m ≤ 40 ∧ i = .int .i64 m ∧ Idle w0 c f n k wr
theorem alike_refl {q : Rk} (h : q.rem = -1) : Qk.Alike q q := ⟨rfl, rfl, fun _ _ => rfl, rfl, fun _ => by rw [h]; rfl⟩
set_option maxHeartbeats 16000000 in
set_option maxRecDepth 100000 in
theorem rplays_yes (n : Nat) (hn1 : 1 ≤ n) (hn8 : n ≤ 8) (sectors : Int) (hs : 1 ≤ sectors) (v0 : Value) (l : List Qa) (w : World) (hT : Typ w) (hA : SlQ w.heap.size w v0 l) (hok : ∀ a ∈ l, a.Ok ∧ SlU w.heap.size w a.bv a.bits) :
    Calls Tryz.prog 3 #[.int .i64 (n : Int), .int .i64 sectors, v0] w (Bit true w) := by
  have HT := Lib.hid hT
  have HOK := Lib.hid (fun k (hk : k < l.length) => qasks_ok hok hk)
  obtain ⟨a0, cap, rfl⟩ := hA.len
  have HA := Lib.hid hA
  clear hT hA hok
  go_enter Tryz.func3, Tryz.ntmps3
  go_upto_if 37 with (fail)
  go_cut [7] from 36 to 37 (fun v wx => ∃ m : Nat, 1 ≤ m ∧ m ≤ 6 ∧ v = .int .i64 m ∧ wx = w)
  case first =>
    by_cases h6 : 6 < sectors
    · go_wp2_with fail
      go_meet
      exact ⟨6, by omega, by omega, rfl, rfl⟩
    · obtain ⟨m, rfl⟩ := Int.eq_ofNat_of_zero_le (by omega : 0 ≤ sectors)
      go_wp2_with fail
      go_meet
      exact ⟨m, by omega, by omega, rfl, rfl⟩
  case rest =>
    obtain ⟨m, hm1, hm6, rfl, hwc⟩ := hcut
    obtain rfl : w = wc := hwc.symm
    clear hwc
    have HN := Lib.hid (qnew_yes n m w hn1 hn8 hm1 (by omega))
    go_wp2_with fail
    refine HN.out.mono ?_
    rintro e x0 ⟨c, rfl, hR, hb⟩
    have HB0 := Lib.hid hb
    have HV := Lib.hid (vnew_yes (K := fun _ => False) n m x0 hR hb.size (fun _ h => h.elim) hn1 hn8 hm1 (by omega))
    clear hR hb
    go_wp2_with fail
    refine HV.out.mono ?_
    rintro e x1 ⟨f, rfl, ⟨C, E, hP⟩, hb⟩
    have HP := Lib.hid hP
    have HB1 := Lib.hid (HB0.out.trans (hb.mono HB0.out.size))
    clear hP hb
    go_wp2_with fail
    refine (kind_nil x1).mono ?_
    rintro e x2 ⟨rfl, hb2⟩
    have HI2 := Lib.hid (show Idle w c f n m x2 from ⟨C, E, newRk n m, newRk n m, rfl, rfl, alike_refl rfl, (HP.out.below hb2 HB1.out.size).1, HB1.out.trans (hb2.mono HB1.out.size)⟩)
    clear hb2
    go_wp2_with fail
    go_loopw [12] (fun i wr => RelVP w c f n m l.length i wr) (fun i _ => l.length - (RowKit.intOf i).toNat)
    case atStart => exact ⟨0, Nat.zero_le _, Nat.zero_le _, rfl, HI2.out⟩
    case round =>
      as_aux_lemma =>
        obtain ⟨k, hk, hk40, rfl, C1, E1, q, q', hqn, hqk, hal, hP, hb⟩ := hrel
        have HP := Lib.hid hP
        have HB := Lib.hid hb
        have HQN := Lib.hid hqn
        have HQK := Lib.hid hqk
        have HAL := Lib.hid hal
        by_cases hlt : k < l.length
        · by_cases hlt40 : k < 40
          · obtain ⟨bq, o, rfl, hbl, hq⟩ := HA.out.at_ (wr := wr) (fun b hb' => hb.block b hb') hlt
            have hqo := HOK.out k hlt
            generalize l.getD k q0 = a at hq hqo
            have HOA := Lib.hid hqo
            have c0 := hq.kind
            have c1 := hq.i
            have c2 := hq.s
            have c3 := hq.n
            have c4 := hq.x
            obtain ⟨ba, bcap, hbv⟩ := hqo.2.len
            have c5 := hq.bv
            rw [hbv] at c5
            have c6 := hq.odd
            have i1 : (k : Int) < l.length := by omega
            have i2 : (0 : Int) ≤ k := by omega
            have i3 : (k : Int) < 40 := by omega
            have HD := Lib.hid (dx_new HP.out HB.out a)
            have hy : ∃ y, y = wr.alloc (.cells (cellsQ a).toArray 36) := ⟨_, rfl⟩
            obtain ⟨y0, hy⟩ := hy
            rw [← hy] at HD
            have hy' : wr.alloc (.cells #[.int .i64 a.kind, .int .i64 a.i, .int .i64 a.s, .int .i64 a.n, .int .u32 (a.x : Int), .slice ba a.bits.length bcap, .bool a.odd] 36) = y0 := by rw [← hbv]; exact hy.symm
            have HBV := Lib.hid hbv
            clear hbv
            have d0 := HD.out.ak.kind
            have d3 := HD.out.ak.n
            clear hq hP hb hqn hqk hal hqo hy
            go_upto_block 2 with (go_at_call 9; refine (within_int a.n 0 3 y0 (by omega) (by omega) (by omega)).mono ?_; rintro e w' ⟨sl, ⟨hsl0, hsl3⟩, rfl, rfl⟩)
            clear d0 d3 c0 c1 c2 c3 c4 c5 c6
            have HD0 := Lib.hid HD.out
            clear HD hy'
            generalize hQ : wr.heap.size = Q at *
            clear hQ
            have HSL := Lib.hid (show 0 ≤ sl ∧ sl ≤ 3 from ⟨hsl0, hsl3⟩)
            clear hsl0 hsl3
            go_cut [14, 16, 17, 18, 19] from 84 to 252 (fun ok _ _ _ _ wx => CutV w Q a c f n m ok wx)
            case first =>
              have c0 := HD0.out.ak.kind
              by_cases hk2 : a.kind = 2
              · as_aux_lemma =>
                  have e1 : (a.kind == 1) = false := by simp; omega
                  have e2 : (a.kind == 2) = true := by simp [hk2]
                  clear hk2
                  have HD0D := Lib.hid HD0.out.drew
                  have hq0 : QaAt y0 Q 0 a := HD0.out.ak
                  have hq0d : QaAt y0.drew Q 0 a := HD0D.out.ak
                  obtain ⟨hA1, hA2⟩ := HAL.out.flush a.i
                  have HA1 := Lib.hid hA1
                  have HF1 := Lib.hid (HD0D.out.flush a.i)
                  have HKK := Lib.hid (fun x (hT : Typ x) => kind_ev opQFlush (q.fcode a.i) a.i x hT)
                  have HF2 := Lib.hid (fun x (h : DX w (fun b => b = Q) Q a c f C1 E1 (q.flush a.i) q' x) => h.vflush a.i)
                  have HN1 := Lib.hid (show (q.flush a.i).n = n ∧ (q.flush a.i).k = m from ⟨(flush_n ..).trans HQN.out, (flush_k ..).trans HQK.out⟩)
                  rw [hA2] at HF2
                  unfold DP at HF1
                  unfold DR at HF2
                  clear hA1 hA2
                  generalize evs opQFlush (q.fcode a.i) a.i = ev at HF1 HKK
                  generalize q.fcode a.i = cc at HKK HF2
                  generalize q.flush a.i = q1 at *
                  generalize q'.vflush a.i = q2 at *
                  have HMEM := Lib.hid (fun (w' : World) (h : QaAt w' Q 0 a) => show w'.cell? ⟨Q, 1, none⟩ = some (.int .i64 a.i) from h.i)
                  go_wp2_with fail
                  go_region_held3 (fun w' => w'.cell? ⟨Q, 1, none⟩ = some (.int .i64 a.i)) (exact HMEM.out _ (by assumption))
                    (first
                      | (go_at_call 15; go_must (with_reducible refine (HF1.out).mono ?_); rintro e x1 ⟨rfl, hD1, _⟩; have hq1 : QaAt x1 Q 0 a := hD1.ak; have HD1 := Lib.hid hD1; clear hD1)
                      | (go_at_call 8; go_must (with_reducible refine (HKK.out x1 (HT.out.below HD1.out.base)).mono ?_); rintro e x2 ⟨rfl, hb2⟩; have HD2 := Lib.hid (HD1.out.below hb2); have hq2 : QaAt x2 Q 0 a := (HD1.out.below hb2).ak; clear hb2)
                      | (go_at_call 16; go_must (with_reducible refine (HF2.out x2 HD2.out).mono ?_); rintro e x3 ⟨rfl, ⟨C3, E3, hD3⟩, _⟩; have hq3 : QaAt x3 Q 0 a := hD3.ak; have HD3 := Lib.hid hD3; clear hD3))
                  all_goals
                    go_wp2_with fail
                    go_meet
                    exact ⟨by simp, C3, E3, q1, q2, HN1.out.1, HN1.out.2, HA1.out, HD3.out⟩
              · skip
                by_cases hk3 : a.kind = 3
                · as_aux_lemma =>
                    have e1 : (a.kind == 1) = false := by simp; omega
                    have e2 : (a.kind == 2) = false := by simp; omega
                    have e3 : (a.kind == 3) = true := by simp [hk3]
                    clear hk3
                    have c3 := HD0.out.ak.n
                    have HF1 := Lib.hid (HD0.out.arm a.n HOA.out.1.n.1 (by have := HOA.out.1.n.2; omega))
                    go_wp2_with fail
                    refine HF1.out.mono ?_
                    rintro e x1 ⟨rfl, hD1, _⟩
                    have HD1 := Lib.hid hD1
                    have c3 := hD1.ak.n
                    have HF2 := Lib.hid (hD1.varm a.n HOA.out.1.n.1 (by have := HOA.out.1.n.2; omega))
                    clear hD1
                    go_wp2_with fail
                    refine HF2.out.mono ?_
                    rintro e x2 ⟨rfl, ⟨C2, E2, hD2⟩, _⟩
                    have HD2 := Lib.hid hD2
                    clear hD2
                    go_wp2_with fail
                    go_meet
                    exact ⟨rfl, C2, E2, q.arm a.n, q'.varm a.n, HQN.out, HQK.out, HAL.out.arm a.n, HD2.out⟩
                · skip
                  by_cases hk4 : a.kind = 4
                  · as_aux_lemma =>
                      have e1 : (a.kind == 1) = false := by simp; omega
                      have e2 : (a.kind == 2) = false := by simp; omega
                      have e3 : (a.kind == 3) = false := by simp; omega
                      have e4 : (a.kind == 4) = true := by simp [hk4]
                      clear hk4
                      have c5 := HD0.out.ak.bv
                      rw [HBV.out] at c5
                      have hsu := HOA.out.2
                      rw [HBV.out] at hsu
                      have HF1 := Lib.hid (HD0.out.boot (.slice ba a.bits.length bcap) a.bits hsu HOA.out.1.bits)
                      go_wp2_with fail
                      refine HF1.out.mono ?_
                      rintro e x1 ⟨rfl, hD1, _⟩
                      have HD1 := Lib.hid hD1
                      have c5 := hD1.ak.bv
                      rw [HBV.out] at c5
                      have HF2 := Lib.hid (hD1.vboot (.slice ba a.bits.length bcap) a.bits hsu HOA.out.1.bits)
                      clear hsu
                      clear hD1
                      go_wp2_with fail
                      refine HF2.out.mono ?_
                      rintro e x2 ⟨rfl, ⟨C2, E2, hD2⟩, _⟩
                      have HD2 := Lib.hid hD2
                      clear hD2
                      go_wp2_with fail
                      go_meet
                      exact ⟨rfl, C2, E2, q.boot fun i => a.bits.getD i 0, q'.boot fun i => a.bits.getD i 0, HQN.out, HQK.out, HAL.out.boot _, HD2.out⟩
                  · skip
                    by_cases hk5 : a.kind = 5
                    · as_aux_lemma =>
                        have e1 : (a.kind == 1) = false := by simp; omega
                        have e2 : (a.kind == 2) = false := by simp; omega
                        have e3 : (a.kind == 3) = false := by simp; omega
                        have e4 : (a.kind == 4) = false := by simp; omega
                        have e5 : (a.kind == 5) = true := by simp [hk5]
                        clear hk5
                        by_cases hi : q.has a.i
                        · obtain ⟨i, hii⟩ := Int.eq_ofNat_of_zero_le hi.1
                          have hlt : i < q.n := by have := hi.2; omega
                          have HHAS := Lib.hid (show q.has (i : Int) from hii ▸ hi)
                          have HII := Lib.hid hii
                          have c0 := HD0.out.px.c0
                          have c1 := HD0.out.ak.i
                          rw [hii] at c1
                          have ca := HD0.out.px.at_ hlt
                          have i0 : (0 : Int) ≤ i := by omega
                          have i1 : (i : Int) < q.n := by omega
                          clear hi hii
                          go_wp2_with fail
                          go_quiet (fail)
                          go_wp2_with fail
                          have hd1 := HD0.out.drewN nq
                          clear c0 c1 ca
                          generalize y0.drewN nq = y1 at *
                          have hd1d := hd1.drew
                          have HV := Lib.hid (hd1d.vdie hlt)
                          unfold DR at HV
                          have HMEM := Lib.hid (fun (w' : World) (C' E' : Nat → Nat) (q2 : Rk) (h : DX w (fun b => b = Q) Q a c f C' E' q q2 w') => show w'.cell? ⟨Q, 1, none⟩ = some (.int .i64 (i : Int)) ∧ w'.cell? ⟨f.t, 0, none⟩ = some (.slice (some ⟨f.P, 0, none⟩) q.n f.cap) ∧ w'.cell? ⟨f.P, i, none⟩ = some (.pointer (some ⟨f.r i, 0, none⟩)) from ⟨by rw [← HII.out]; exact h.ak.i, h.px.c0, h.px.at_ hlt⟩)
                          go_region_held3 (fun w' => w'.cell? ⟨Q, 1, none⟩ = some (.int .i64 (i : Int)) ∧ w'.cell? ⟨f.t, 0, none⟩ = some (.slice (some ⟨f.P, 0, none⟩) q.n f.cap) ∧ w'.cell? ⟨f.P, i, none⟩ = some (.pointer (some ⟨f.r i, 0, none⟩))) (exact HMEM.out _ _ _ _ (by assumption))
                            ((go_at_call 21; go_must (with_reducible refine (HV.out).mono ?_); rintro e x2 ⟨rfl, ⟨C2, E2, hd2⟩, _⟩))
                          all_goals
                            have d1 := (HMEM.out _ _ _ _ hd2).1
                            have HF := Lib.hid (hd2.die (i : Int))
                            unfold DP Rk.dying at HF
                            simp only [if_pos HHAS.out, decide_eq_true HHAS.out, Int.toNat_natCast] at HF
                            go_wp2_with fail
                            refine HF.out.mono ?_
                            rintro e x3 ⟨rfl, hD3, _⟩
                            have HD3 := Lib.hid hD3
                            clear hD3
                            go_wp2_with fail
                            go_meet
                            exact ⟨by simp, C2, E2, q.wipe i true, q'.wipe i true, HQN.out, HQK.out, HAL.out.wipe hlt true, HD3.out⟩
                        · have c0 := HD0.out.px.c0
                          have c1 := HD0.out.ak.i
                          have HF1 := Lib.hid (fun j => (HD0.out.drewN j).die a.i)
                          unfold DP Rk.dying at HF1
                          simp only [if_neg hi, decide_eq_false hi] at HF1
                          by_cases h0 : 0 ≤ a.i
                          · have i1 : ¬ a.i < q.n := fun e => hi ⟨h0, e⟩
                            have i2 : decide (a.i < (q.n : Int)) = false := decide_eq_false i1
                            clear hi
                            go_wp2_with fail
                            go_quiet (fail)
                            go_wp2_with fail
                            refine (HF1.out nq).mono ?_
                            rintro e x1 ⟨rfl, hD1, _⟩
                            have HD1 := Lib.hid hD1
                            clear hD1
                            go_wp2_with fail
                            go_meet
                            exact ⟨by simp, C1, E1, q, q', HQN.out, HQK.out, HAL.out, HD1.out⟩
                          · have i3 : decide (0 ≤ a.i) = false := decide_eq_false h0
                            have i4 : decide (a.i ≥ 0) = false := decide_eq_false h0
                            clear hi
                            go_wp2_with fail
                            go_quiet (fail)
                            go_wp2_with fail
                            refine (HF1.out nq).mono ?_
                            rintro e x1 ⟨rfl, hD1, _⟩
                            have HD1 := Lib.hid hD1
                            clear hD1
                            go_wp2_with fail
                            go_meet
                            exact ⟨by simp, C1, E1, q, q', HQN.out, HQK.out, HAL.out, HD1.out⟩
                    · skip
                      by_cases hk6 : a.kind = 6
                      · as_aux_lemma =>
                          have e1 : (a.kind == 1) = false := by simp; omega
                          have e2 : (a.kind == 2) = false := by simp; omega
                          have e3 : (a.kind == 3) = false := by simp; omega
                          have e4 : (a.kind == 4) = false := by simp; omega
                          have e5 : (a.kind == 5) = false := by simp; omega
                          have e6 : (a.kind == 6) = true := by simp [hk6]
                          clear hk6
                          by_cases hi : q.has a.i
                          · obtain ⟨i, hii⟩ := Int.eq_ofNat_of_zero_le hi.1
                            have hlt : i < q.n := by have := hi.2; omega
                            have HHAS := Lib.hid (show q.has (i : Int) from hii ▸ hi)
                            have HII := Lib.hid hii
                            have c0 := HD0.out.px.c0
                            have c1 := HD0.out.ak.i
                            rw [hii] at c1
                            have ca := HD0.out.px.at_ hlt
                            have i0 : (0 : Int) ≤ i := by omega
                            have i1 : (i : Int) < q.n := by omega
                            clear hi hii
                            go_wp2_with fail
                            go_quiet (fail)
                            go_wp2_with fail
                            have hd1 := HD0.out.drewN nq
                            clear c0 c1 ca
                            generalize y0.drewN nq = y1 at *
                            have hd1d := hd1.drew
                            have HV := Lib.hid (hd1d.vreplace hlt)
                            unfold DR at HV
                            have HMEM := Lib.hid (fun (w' : World) (C' E' : Nat → Nat) (q2 : Rk) (h : DX w (fun b => b = Q) Q a c f C' E' q q2 w') => show w'.cell? ⟨Q, 1, none⟩ = some (.int .i64 (i : Int)) ∧ w'.cell? ⟨f.t, 0, none⟩ = some (.slice (some ⟨f.P, 0, none⟩) q.n f.cap) ∧ w'.cell? ⟨f.P, i, none⟩ = some (.pointer (some ⟨f.r i, 0, none⟩)) from ⟨by rw [← HII.out]; exact h.ak.i, h.px.c0, h.px.at_ hlt⟩)
                            go_region_held3 (fun w' => w'.cell? ⟨Q, 1, none⟩ = some (.int .i64 (i : Int)) ∧ w'.cell? ⟨f.t, 0, none⟩ = some (.slice (some ⟨f.P, 0, none⟩) q.n f.cap) ∧ w'.cell? ⟨f.P, i, none⟩ = some (.pointer (some ⟨f.r i, 0, none⟩))) (exact HMEM.out _ _ _ _ (by assumption))
                              ((go_at_call 23; go_must (with_reducible refine (HV.out).mono ?_); rintro e x2 ⟨rfl, ⟨C2, E2, hd2⟩, _⟩))
                            all_goals
                              have d1 := (HMEM.out _ _ _ _ hd2).1
                              have HF := Lib.hid (hd2.replace (i : Int))
                              unfold DP Rk.dying at HF
                              simp only [if_pos HHAS.out, decide_eq_true HHAS.out, Int.toNat_natCast] at HF
                              go_wp2_with fail
                              refine HF.out.mono ?_
                              rintro e x3 ⟨rfl, hD3, _⟩
                              have HD3 := Lib.hid hD3
                              clear hD3
                              go_wp2_with fail
                              go_meet
                              exact ⟨by simp, C2, E2, q.wipe i false, q'.wipe i false, HQN.out, HQK.out, HAL.out.wipe hlt false, HD3.out⟩
                          · have c0 := HD0.out.px.c0
                            have c1 := HD0.out.ak.i
                            have HF1 := Lib.hid (fun j => (HD0.out.drewN j).replace a.i)
                            unfold DP Rk.dying at HF1
                            simp only [if_neg hi, decide_eq_false hi] at HF1
                            by_cases h0 : 0 ≤ a.i
                            · have i1 : ¬ a.i < q.n := fun e => hi ⟨h0, e⟩
                              have i2 : decide (a.i < (q.n : Int)) = false := decide_eq_false i1
                              clear hi
                              go_wp2_with fail
                              go_quiet (fail)
                              go_wp2_with fail
                              refine (HF1.out nq).mono ?_
                              rintro e x1 ⟨rfl, hD1, _⟩
                              have HD1 := Lib.hid hD1
                              clear hD1
                              go_wp2_with fail
                              go_meet
                              exact ⟨by simp, C1, E1, q, q', HQN.out, HQK.out, HAL.out, HD1.out⟩
                            · have i3 : decide (0 ≤ a.i) = false := decide_eq_false h0
                              have i4 : decide (a.i ≥ 0) = false := decide_eq_false h0
                              clear hi
                              go_wp2_with fail
                              go_quiet (fail)
                              go_wp2_with fail
                              refine (HF1.out nq).mono ?_
                              rintro e x1 ⟨rfl, hD1, _⟩
                              have HD1 := Lib.hid hD1
                              clear hD1
                              go_wp2_with fail
                              go_meet
                              exact ⟨by simp, C1, E1, q, q', HQN.out, HQK.out, HAL.out, HD1.out⟩
                      · skip
                        by_cases hk7 : a.kind = 7
                        · as_aux_lemma =>
                            have e1 : (a.kind == 1) = false := by simp; omega
                            have e2 : (a.kind == 2) = false := by simp; omega
                            have e3 : (a.kind == 3) = false := by simp; omega
                            have e4 : (a.kind == 4) = false := by simp; omega
                            have e5 : (a.kind == 5) = false := by simp; omega
                            have e6 : (a.kind == 6) = false := by simp; omega
                            have e7 : (a.kind == 7) = true := by simp [hk7]
                            clear hk7
                            by_cases hi : q.has a.i
                            · obtain ⟨i, hii⟩ := Int.eq_ofNat_of_zero_le hi.1
                              have hlt : i < q.n := by have := hi.2; omega
                              have HHAS := Lib.hid (show q.has (i : Int) from hii ▸ hi)
                              have HII := Lib.hid hii
                              have i0 : (0 : Int) ≤ i := by omega
                              have i1 : (i : Int) < q.n := by omega
                              clear hi hii
                              have hd0 : DX w (fun b => b = Q) Q a c f C1 E1 q q' y0 := HD0.out
                              have hd0d : DX w (fun b => b = Q) Q a c f C1 E1 q q' y0.drew := HD0.out.drew
                              have CW := Lib.hid (fun x => within_val a.n 0 124 x (by omega) (by omega) (by omega))
                              unfold IsI at CW
                              generalize withinV a.n 0 124 = z at *
                              have HV := Lib.hid (hd0d.vrot hlt a.s z a.x)
                              rw [HAL.out.s i hlt] at HV
                              unfold DR at HV
                              have HAR := Lib.hid (show Qk.Alike (q.turn i (rotnext (q.s i) a.s z a.x)) (q'.turn i (rotnext (q.s i) a.s z a.x)) from HAL.out.turn i _)
                              have HF := Lib.hid (fun x C' E' q2 (h : DX w (fun b => b = Q) Q a c f C' E' q q2 x) => h.rot (i : Int) a.s z a.x)
                              unfold DP Rk.rots Rk.rotten at HF
                              simp only [if_pos HHAS.out, decide_eq_true HHAS.out, Int.toNat_natCast, Bool.true_and] at HF
                              generalize decide (mayRot (q.s i) a.s z a.x) = mb at HV HF
                              generalize rotnext (q.s i) a.s z a.x = t at *
                              have HMEM := Lib.hid (fun (w' : World) (C' E' : Nat → Nat) (q2 : Rk) (h : DX w (fun b => b = Q) Q a c f C' E' q q2 w') => show w'.cell? ⟨Q, 1, none⟩ = some (.int .i64 (i : Int)) ∧ w'.cell? ⟨Q, 2, none⟩ = some (.int .i64 a.s) ∧ w'.cell? ⟨Q, 3, none⟩ = some (.int .i64 a.n) ∧ w'.cell? ⟨Q, 4, none⟩ = some (.int .u32 (a.x : Int)) ∧ w'.cell? ⟨f.t, 0, none⟩ = some (.slice (some ⟨f.P, 0, none⟩) q.n f.cap) ∧ w'.cell? ⟨f.P, i, none⟩ = some (.pointer (some ⟨f.r i, 0, none⟩)) from ⟨by rw [← HII.out]; exact h.ak.i, h.ak.s, h.ak.n, h.ak.x, h.px.c0, h.px.at_ hlt⟩)
                              have hm0 := HMEM.out _ _ _ _ hd0
                              go_wp2_with fail
                              go_region_held3 (fun w' => w'.cell? ⟨Q, 1, none⟩ = some (.int .i64 (i : Int)) ∧ w'.cell? ⟨Q, 2, none⟩ = some (.int .i64 a.s) ∧ w'.cell? ⟨Q, 3, none⟩ = some (.int .i64 a.n) ∧ w'.cell? ⟨Q, 4, none⟩ = some (.int .u32 (a.x : Int)) ∧ w'.cell? ⟨f.t, 0, none⟩ = some (.slice (some ⟨f.P, 0, none⟩) q.n f.cap) ∧ w'.cell? ⟨f.P, i, none⟩ = some (.pointer (some ⟨f.r i, 0, none⟩))) (exact HMEM.out _ _ _ _ (by assumption))
                                (first
                                  | (go_at_call 9; go_must (with_reducible refine (CW.out _).mono ?_); rintro e w' ⟨rfl, rfl⟩)
                                  | (go_at_call 25; go_must (with_reducible refine (HV.out).mono ?_); rintro e x2 ⟨rfl, ⟨C2, E2, hd2⟩, _⟩))
                              all_goals
                                have hd2d := hd2.drew
                                clear hm0
                                have HF2 := Lib.hid (HF.out _ _ _ _ hd2d)
                                have HM2 := Lib.hid (fun (w' : World) (h : QaAt w' Q 0 a) => show w'.cell? ⟨Q, 1, none⟩ = some (.int .i64 (i : Int)) ∧ w'.cell? ⟨Q, 2, none⟩ = some (.int .i64 a.s) ∧ w'.cell? ⟨Q, 3, none⟩ = some (.int .i64 a.n) ∧ w'.cell? ⟨Q, 4, none⟩ = some (.int .u32 (a.x : Int)) from ⟨by rw [← HII.out]; exact h.i, h.s, h.n, h.x⟩)
                                have hq2 := hd2.ak
                                have hq2d := hd2d.ak
                                go_wp2_with fail
                                go_region_held3 (fun w' => w'.cell? ⟨Q, 1, none⟩ = some (.int .i64 (i : Int)) ∧ w'.cell? ⟨Q, 2, none⟩ = some (.int .i64 a.s) ∧ w'.cell? ⟨Q, 3, none⟩ = some (.int .i64 a.n) ∧ w'.cell? ⟨Q, 4, none⟩ = some (.int .u32 (a.x : Int))) (exact HM2.out _ (by assumption))
                                  (first
                                    | (go_at_call 9; go_must (with_reducible refine (CW.out _).mono ?_); rintro e w' ⟨rfl, rfl⟩)
                                    | (go_at_call 26; go_must (with_reducible refine (HF2.out).mono ?_); rintro e x3 ⟨rfl, hd3, _⟩; have hq3 := hd3.ak))
                                all_goals
                                  go_wp2_with fail
                                  go_meet
                                  exact ⟨by simp, C2, E2, q.turn i t, q'.turn i t, HQN.out, HQK.out, HAR.out, hd3⟩
                            · have c0 := HD0.out.px.c0
                              have c1 := HD0.out.ak.i
                              have CW := Lib.hid (fun x => within_val a.n 0 124 x (by omega) (by omega) (by omega))
                              unfold IsI at CW
                              generalize withinV a.n 0 124 = z at *
                              have HF := Lib.hid (fun x (h : DX w (fun b => b = Q) Q a c f C1 E1 q q' x) => h.rot a.i a.s z a.x)
                              unfold DP Rk.rots Rk.rotten at HF
                              simp only [if_neg hi, decide_eq_false hi, Bool.false_and] at HF
                              by_cases h0 : 0 ≤ a.i
                              · have i1 : ¬ a.i < q.n := fun e => hi ⟨h0, e⟩
                                have i2 : decide (a.i < (q.n : Int)) = false := decide_eq_false i1
                                clear hi
                                go_wp2_with fail
                                go_quiet (fail)
                                go_wp2_with fail
                                have hd1 := HD0.out.drewN nq
                                clear c0 c1
                                generalize y0.drewN nq = y1 at *
                                have hd1d := hd1.drew
                                have HF2 := Lib.hid (HF.out _ hd1d)
                                have HM2 := Lib.hid (fun (w' : World) (h : QaAt w' Q 0 a) => show w'.cell? ⟨Q, 1, none⟩ = some (.int .i64 a.i) ∧ w'.cell? ⟨Q, 2, none⟩ = some (.int .i64 a.s) ∧ w'.cell? ⟨Q, 3, none⟩ = some (.int .i64 a.n) ∧ w'.cell? ⟨Q, 4, none⟩ = some (.int .u32 (a.x : Int)) from ⟨h.i, h.s, h.n, h.x⟩)
                                have hq2 := hd1.ak
                                have hq2d := hd1d.ak
                                go_region_held3 (fun w' => w'.cell? ⟨Q, 1, none⟩ = some (.int .i64 a.i) ∧ w'.cell? ⟨Q, 2, none⟩ = some (.int .i64 a.s) ∧ w'.cell? ⟨Q, 3, none⟩ = some (.int .i64 a.n) ∧ w'.cell? ⟨Q, 4, none⟩ = some (.int .u32 (a.x : Int))) (exact HM2.out _ (by assumption))
                                  (first
                                    | (go_at_call 9; go_must (with_reducible refine (CW.out _).mono ?_); rintro e w' ⟨rfl, rfl⟩)
                                    | (go_at_call 26; go_must (with_reducible refine (HF2.out).mono ?_); rintro e x3 ⟨rfl, hd3, _⟩; have hq3 := hd3.ak))
                                all_goals
                                  go_wp2_with fail
                                  go_meet
                                  exact ⟨by simp, C1, E1, q, q', HQN.out, HQK.out, HAL.out, hd3⟩
                              · have i3 : decide (0 ≤ a.i) = false := decide_eq_false h0
                                have i4 : decide (a.i ≥ 0) = false := decide_eq_false h0
                                clear hi
                                go_wp2_with fail
                                go_quiet (fail)
                                go_wp2_with fail
                                have hd1 := HD0.out.drewN nq
                                clear c0 c1
                                generalize y0.drewN nq = y1 at *
                                have hd1d := hd1.drew
                                have HF2 := Lib.hid (HF.out _ hd1d)
                                have HM2 := Lib.hid (fun (w' : World) (h : QaAt w' Q 0 a) => show w'.cell? ⟨Q, 1, none⟩ = some (.int .i64 a.i) ∧ w'.cell? ⟨Q, 2, none⟩ = some (.int .i64 a.s) ∧ w'.cell? ⟨Q, 3, none⟩ = some (.int .i64 a.n) ∧ w'.cell? ⟨Q, 4, none⟩ = some (.int .u32 (a.x : Int)) from ⟨h.i, h.s, h.n, h.x⟩)
                                have hq2 := hd1.ak
                                have hq2d := hd1d.ak
                                go_region_held3 (fun w' => w'.cell? ⟨Q, 1, none⟩ = some (.int .i64 a.i) ∧ w'.cell? ⟨Q, 2, none⟩ = some (.int .i64 a.s) ∧ w'.cell? ⟨Q, 3, none⟩ = some (.int .i64 a.n) ∧ w'.cell? ⟨Q, 4, none⟩ = some (.int .u32 (a.x : Int))) (exact HM2.out _ (by assumption))
                                  (first
                                    | (go_at_call 9; go_must (with_reducible refine (CW.out _).mono ?_); rintro e w' ⟨rfl, rfl⟩)
                                    | (go_at_call 26; go_must (with_reducible refine (HF2.out).mono ?_); rintro e x3 ⟨rfl, hd3, _⟩; have hq3 := hd3.ak))
                                all_goals
                                  go_wp2_with fail
                                  go_meet
                                  exact ⟨by simp, C1, E1, q, q', HQN.out, HQK.out, HAL.out, hd3⟩
                        · skip
                          by_cases hk1 : a.kind = 1
                          · as_aux_lemma =>
                              have e1 : (a.kind == 1) = true := by simp [hk1]
                              clear hk1
                              have c3 := HD0.out.ak.n
                              have CF := Lib.hid (frame_any 3 sl 1 2 a.n y0)
                              have HFI := Lib.hid (frK_is 3 sl 1 2 a.n)
                              have HRB := Lib.hid (show rightB (frK 3 sl 1 2 a.n) = true from decide_eq_true ⟨by show (1 : Int) ≤ 3; omega, by show (3 : Int) ≤ 3; omega, HSL.out.1, by show sl < 8; have := HSL.out.2; omega, by show (0 : Int) ≤ 1; omega, by show (1 : Int) < 64; omega, by show (0 : Int) ≤ 2; omega, by show (2 : Int) ≤ 1152921504606846976; omega⟩)
                              go_wp2_with fail
                              generalize frK 3 sl 1 2 a.n = fr at *
                              refine CF.out.mono ?_
                              rintro e x1 ⟨rfl, hb1⟩
                              have HD1 := Lib.hid (HD0.out.below hb1)
                              have CP := Lib.hid (put_any fr x1 HFI.out)
                              have HPL := Lib.hid (put_len HFI.out HRB.out)
                              unfold MadeB at CP
                              generalize put fr = L at *
                              clear hb1
                              go_wp2_with fail
                              refine CP.out.mono ?_
                              rintro e x2 ⟨v2, rfl, ho2, hb2⟩
                              have ho2' := ho2
                              rw [HPL.out] at ho2'
                              obtain ⟨g2, cp2, rfl, hcp2⟩ := own_slice ho2'
                              obtain ⟨gb, rfl⟩ := own_addr ho2' (by decide)
                              have hgl := own_lt ho2'
                              have HD2 := Lib.hid (HD1.out.more hb2 hgl.1 hgl.2.1)
                              have HS2 := Lib.hid (show SlB x2.heap.size x2 (.slice (some ⟨gb, 0, none⟩) 128 cp2) L by have := slb_own (l := L) ho2; exact this)
                              have c6 := HD2.out.ak.odd
                              obtain ⟨od, hod⟩ : ∃ od, a.odd = od := ⟨_, rfl⟩
                              rw [hod] at c6
                              clear hod
                              clear ho2 ho2' hb2 hgl hcp2 c3
                              go_upto_if 92 with (fail)
                              go_cut [16] from 91 to 96 (fun v wx => CutB w Q a c f C1 E1 q q' v wx)
                              case first =>
                                cases od with
                                | false =>
                                  go_wp2_with fail
                                  go_meet
                                  exact ⟨gb, cp2, L, rfl, HPL.out, HS2.out, HD2.out⟩
                                | true =>
                                  have c3 := HD2.out.ak.n
                                  obtain ⟨xb, hxb, hxw⟩ : ∃ xb : Nat, xb < 256 ∧ IntKind.u8.wrap a.n = (xb : Int) := wrap_u8 a.n
                                  have CS := Lib.hid (sector_any xb hxb x2)
                                  unfold NewSl at CS
                                  have hsl := secL_length xb
                                  generalize secL xb = S at CS hsl
                                  go_wp2_with fail
                                  refine CS.out.mono ?_
                                  rintro e x3 ⟨v3, rfl, ⟨g3, hv3, hg1, hg2, hg3⟩, hb3⟩
                                  rw [hsl] at hv3
                                  subst hv3
                                  have HD3 := Lib.hid (((HD2.out.only).more hb3 hg1 hg2))
                                  have HS3 := Lib.hid (show SlB x3.heap.size x3 (.slice (some ⟨g3, 0, none⟩) 128 128) S by have := slb_lit (cap := 128) hg3 hg2 (by omega); rwa [hsl] at this)
                                  clear hg1 hg2 hg3 hb3
                                  go_wp2_with fail
                                  go_meet
                                  exact ⟨g3, 128, S, rfl, hsl, HS3.out, HD3.out⟩
                              case rest =>
                                as_aux_lemma =>
                                  obtain ⟨g, cp, L, rfl, hL, hS, hD⟩ := hcut
                                  have HLL := Lib.hid hL
                                  have HD4 := Lib.hid hD
                                  have HSB := Lib.hid hS
                                  clear hL hS hD HD2 HS2 c6 HPL HFI HRB HD1 CF CP
                                  have HD4D := Lib.hid HD4.out.drew
                                  have hq0 : QaAt wc Q 0 a := HD4.out.ak
                                  have hq0d : QaAt wc.drew Q 0 a := HD4D.out.ak
                                  obtain ⟨hA1, hA2⟩ := HAL.out.write a.i a.s L
                                  have HA1 := Lib.hid hA1
                                  have HF1 := Lib.hid (HD4D.out.write a.i a.s (.slice (some ⟨g, 0, none⟩) 128 cp) L (HSB.out.below (w' := wc.drew) (Below.drew (Below.refl _ _))))
                                  have HKK := Lib.hid (fun x (hT : Typ x) => kind_ev opQWrite (q.wcode a.i a.s L.length) a.i x hT)
                                  have HF2 := Lib.hid (fun x (h : DX w (fun b => b = Q ∨ b = g) Q a c f C1 E1 (q.write a.i a.s L) q' x) (hv : SlB x.heap.size x (.slice (some ⟨g, 0, none⟩) 128 cp) L) => h.vwrite a.i a.s (.slice (some ⟨g, 0, none⟩) 128 cp) L hv)
                                  have HN1 := Lib.hid (show (q.write a.i a.s L).n = n ∧ (q.write a.i a.s L).k = m from ⟨(write_n ..).trans HQN.out, (write_k ..).trans HQK.out⟩)
                                  rw [hA2] at HF2
                                  unfold DP at HF1
                                  unfold DR at HF2
                                  clear hA1 hA2
                                  generalize evs opQWrite (q.wcode a.i a.s L.length) a.i = ev at HF1 HKK
                                  generalize q.wcode a.i a.s L.length = cc at HKK HF2
                                  generalize q.write a.i a.s L = q1 at *
                                  generalize q'.vwrite a.i a.s L = q2 at *
                                  have HMEM := Lib.hid (fun (w' : World) (h : QaAt w' Q 0 a) => show w'.cell? ⟨Q, 1, none⟩ = some (.int .i64 a.i) ∧ w'.cell? ⟨Q, 2, none⟩ = some (.int .i64 a.s) from ⟨h.i, h.s⟩)
                                  go_wp2_with fail
                                  go_region_held3 (fun w' => w'.cell? ⟨Q, 1, none⟩ = some (.int .i64 a.i) ∧ w'.cell? ⟨Q, 2, none⟩ = some (.int .i64 a.s)) (exact HMEM.out _ (by assumption))
                                    (first
                                      | (go_at_call 13; go_must (with_reducible refine (HF1.out).mono ?_); rintro e x1 ⟨rfl, hD1, hK1⟩; have hq1 : QaAt x1 Q 0 a := hD1.ak; have HD1 := Lib.hid hD1; have HS1 := Lib.hid ((slb_kept (HSB.out.below (w' := wc.drew) (Below.drew (Below.refl _ _))) hK1 (Or.inr rfl)).wider hK1.below.size); clear hD1 hK1)
                                      | (go_at_call 8; go_must (with_reducible refine (HKK.out x1 (HT.out.below HD1.out.base)).mono ?_); rintro e x2 ⟨rfl, hb2⟩; have HD2 := Lib.hid (HD1.out.below hb2); have hq2 : QaAt x2 Q 0 a := (HD1.out.below hb2).ak; have HS2 := Lib.hid ((HS1.out.below hb2).wider hb2.size); clear hb2)
                                      | (go_at_call 14; go_must (with_reducible refine (HF2.out x2 HD2.out HS2.out).mono ?_); rintro e x3 ⟨rfl, ⟨C3, E3, hD3⟩, _⟩; have hq3 : QaAt x3 Q 0 a := hD3.ak; have HD3 := Lib.hid hD3; clear hD3))
                                  all_goals
                                    go_wp2_with fail
                                    go_meet
                                    exact ⟨by simp, C3, E3, q1, q2, HN1.out.1, HN1.out.2, HA1.out, HD3.out.only⟩
                          · skip
                            have e1 : (a.kind == 1) = false := by simp; omega
                            have e2 : (a.kind == 2) = false := by simp; omega
                            have e3 : (a.kind == 3) = false := by simp; omega
                            have e4 : (a.kind == 4) = false := by simp; omega
                            have e5 : (a.kind == 5) = false := by simp; omega
                            have e6 : (a.kind == 6) = false := by simp; omega
                            have e7 : (a.kind == 7) = false := by simp; omega
                            go_wp2_with fail
                            go_meet
                            exact ⟨rfl, C1, E1, q, q', HQN.out, HQK.out, HAL.out, HD0.out⟩
            case rest =>
              as_aux_lemma =>
                obtain ⟨rfl, C5, E5, p, p', hpn, hpk, hpa, hD⟩ := hcut
                obtain ⟨w1, hw1⟩ : ∃ w1, w1 = wc := ⟨_, rfl⟩
                subst hw1
                have HD5 := Lib.hid hD
                have HPN := Lib.hid hpn
                have HPK := Lib.hid hpk
                have HPA := Lib.hid hpa
                have c0 := hD.px.c0
                have hz := szFr_run
                have hz0 := zero_frame
                have hsz : (frC zeroF).length = szFr := frC_length zeroF_is
                clear hpn hpk hpa hD HP HB HQN HQK HAL HD0
                go_wp2_with fail
                go_loopw [14, 20, 258] (fun ok up i wr => RelUp p w1 ok up i wr) (fun _ _ i _ => p.n - (RowKit.intOf i).toNat)
                case atStart => exact ⟨rfl, 0, Nat.zero_le _, rfl, ⟨rfl, Or.inl ⟨rfl, rfl⟩⟩, Below.refl _ _⟩
                case round =>
                  as_aux_lemma =>
                    clear c0
                    obtain ⟨rfl, d, hd, rfl, hown, hb⟩ := hrel
                    obtain ⟨wo, hwo⟩ : ∃ wo, wo = wr := ⟨_, rfl⟩
                    subst hwo
                    have HO := Lib.hid hown
                    have HB1 := Lib.hid hb
                    have HX1 := Lib.hid (HD5.out.below hb)
                    by_cases hlt : d < p.n
                    · have i1 : (d : Int) < p.n := by omega
                      have HU := Lib.hid (vup_any wo HX1.out.px (d : Int))
                      rw [HPA.out.up, up_at hlt] at HU
                      have HUP := Lib.hid (show (p.s d).dead = true → upsN p (d + 1) = upsN p d from upsN_no)
                      have HUY := Lib.hid (show (p.s d).dead = false → upsN p (d + 1) = upsN p d ++ [d] from upsN_yes)
                      have HLN := Lib.hid (upsN_length p d)
                      have HN8 := Lib.hid HX1.out.px.prog.ok.n8
                      have hn8p := HN8.out
                      obtain ⟨ga, ca, rfl, -⟩ := own_slice hown
                      clear hown hb
                      have HU0 := HU
                      generalize hdd : (p.s d).dead = db at HU HUP HUY
                      clear hdd
                      go_upto_if 263 with (go_at_call 27; refine HU.out.mono ?_; rintro e w' ⟨rfl, rfl⟩)
                      go_cut [20] from 264 to 267 (fun v wx => CutU p d w1 v wx)
                      case first =>
                        cases db with
                        | true =>
                          go_wp2_with fail
                          go_meet
                          exact ⟨by rw [HUP.out (by trivial)]; exact HO.out, HB1.out⟩
                        | false =>
                          have i2 : (0 : Int) ≤ d := by omega
                          go_wp2_with (at_builtin; refine wpList_append_num _ rfl (.tmp 264) (.tmp 266) rfl w1.heap.size _ _ _ rfl (own_below HO.out (one_below _ _)) wo.heap.size (.int .i64 (d : Int)) rfl ?_ rfl ?_ ?_ ?_; simp; (have := HLN.out; have := HN8.out; omega); (have := HB1.out.size; simp; omega); intro va wa howna hga; have HOA := Lib.hid howna; have HGA := Lib.hid hga; obtain ⟨ga, ca, rfl, -⟩ := own_slice howna; clear howna hga)
                          go_meet
                          refine ⟨?_, ?_⟩
                          · rw [HUY.out (by trivial), List.length_append]
                            have := HOA.out
                            simpa [numsV] using this
                          · exact (balloc HB1.out _).trans (HGA.out.below (balloc HB1.out _).size fun k hk => (own_block HO.out hk).1)
                      case rest =>
                        as_aux_lemma =>
                          obtain ⟨hown2, hb2⟩ := hcut
                          obtain ⟨w2, hw2⟩ : ∃ w2, w2 = wc := ⟨_, rfl⟩
                          subst hw2
                          have HO2 := Lib.hid hown2
                          have HBB := Lib.hid hb2
                          have HX := Lib.hid (HD5.out.below hb2)
                          have HU1 := Lib.hid (qup_any w2 HX.out.px.prog (d : Int))
                          have HU2 := Lib.hid (vup_any w2 HX.out.px (d : Int))
                          rw [HPA.out.up] at HU2
                          generalize p.up (d : Int) = ub at HU1 HU2
                          obtain ⟨gu, cu, rfl, -⟩ := own_slice hown2
                          clear hown2 hb2 HU HU0 HUP HUY HO HB1 HX1
                          go_wp2_with (first
                            | (go_at_call 28; refine HU1.out.mono ?_; rintro e w' ⟨rfl, rfl⟩)
                            | (go_at_call 27; refine HU2.out.mono ?_; rintro e w' ⟨rfl, rfl⟩))
                          go_loopw [14, 22] (fun ok i wr => RelIn2 m w2 ok i wr) (fun _ i _ => m - (RowKit.intOf i).toNat)
                          case atStart => exact ⟨by simp, 0, Nat.zero_le _, rfl, Below.refl _ _⟩
                          case round =>
                            as_aux_lemma =>
                              obtain ⟨rfl, s, hs, rfl, hb⟩ := hrel
                              have HB2 := Lib.hid hb
                              have HX2 := Lib.hid (HX.out.below hb)
                              by_cases hlt2 : s < m
                              · have j1 : (s : Int) < m := by omega
                                clear hb
                                as_aux_lemma =>
                                  have HG1 := Lib.hid (fun W (h : DX w (fun b => b = Q) Q a c f C5 E5 p p' W) => qget_any W h.px.prog (d : Int) (s : Int) 3 sl (-1))
                                  have HG2 := Lib.hid (fun W (h : DX w (fun b => b = Q) Q a c f C5 E5 p p' W) => vget_any W h.px h.lo (d : Int) (s : Int) 3 sl (-1))
                                  rw [alike_got HPA.out, alike_found HPA.out] at HG2
                                  have hg := qgot_is p (d : Int) (s : Int) 3 sl (-1)
                                  generalize qgot p (d : Int) (s : Int) 3 sl (-1) = g at *
                                  generalize qfound p (d : Int) (s : Int) 3 sl (-1) = fb at *
                                  unfold FrameBit at HG1 HG2
                                  have HR1 := Lib.hid (fun W (h : DX w (fun b => b = Q) Q a c f C5 E5 p p' W) => qread_any W h.px.prog (d : Int) (s : Int))
                                  have HR2 := Lib.hid (fun W (h : DX w (fun b => b = Q) Q a c f C5 E5 p p' W) => vread_any W h.px (d : Int) (s : Int))
                                  have HKK := Lib.hid (fun W hT => kind_rerr p (d : Int) (s : Int) W hT)
                                  unfold ReadQ at HR1
                                  unfold VRead at HR2
                                  rw [alike_qval HPA.out, alike_qrcode HPA.out] at HR2
                                  have HQL := Lib.hid (qval_len HX2.out.px.prog (d : Int) (s : Int))
                                  generalize qrerr p (d : Int) (s : Int) = er at *
                                  generalize qrcode p (d : Int) (s : Int) = rc at *
                                  generalize qval p (d : Int) (s : Int) = lv at *
                                  have hcg : (Value.agg (frA g)).cells = frA g := rfl
                                  have hsg : (frC g).length = szFr := frC_length hg
                                  have hst : ∀ W : World, (storeCells ⟨W.heap.size, 0, none⟩ (frC g) 0).run Tryz.prog (W.alloc (.cells (frA zeroF) 42)) = .ok () (W.alloc (.cells (frA g) 42)) := fun W => storeCells_frame zeroF_is hg W
                                  have HGI := Lib.hid hg
                                  go_wp2_with fail
                                  refine (HG1.out _ HX2.out).mono ?_
                                  rintro e w3 ⟨rfl, hb3⟩
                                  have HX3 := Lib.hid ((HX2.out.below hb3).below (one_below w3 (.cells (frA g) 42)))
                                  have HF3 := Lib.hid (frIn_new w3 g HGI.out)
                                  have HB3 := Lib.hid (show Below w2.heap.size w2 (w3.alloc (.cells (frA g) 42)) from balloc (HB2.out.trans (hb3.mono HB2.out.size)) _)
                                  have hl3 : w3.heap.size < (w3.alloc (.cells (frA g) 42)).heap.size := by simp
                                  clear hb3
                                  go_wp2_with fail
                                  generalize w3.alloc (.cells (frA g) 42) = W3 at *
                                  generalize w3.heap.size = b3 at *
                                  refine (HG2.out _ HX3.out).mono ?_
                                  rintro e w4 ⟨rfl, hb4⟩
                                  have HX4 := Lib.hid ((HX3.out.below hb4).below (one_below w4 (.cells (frA g) 42)))
                                  have HF4 := Lib.hid (frIn_new w4 g HGI.out)
                                  have HF3b := Lib.hid ((HF3.out.below hl3 hb4).below (Nat.lt_of_lt_of_le hl3 hb4.size) (one_below w4 (.cells (frA g) 42)))
                                  have HB4 := Lib.hid (show Below w2.heap.size w2 (w4.alloc (.cells (frA g) 42)) from balloc (HB3.out.trans (hb4.mono HB3.out.size)) _)
                                  have hl4 : w4.heap.size < (w4.alloc (.cells (frA g) 42)).heap.size := by simp
                                  have hl3b : b3 < (w4.alloc (.cells (frA g) 42)).heap.size := by have := hb4.size; simp; omega
                                  clear hb4 hl3
                                  go_wp2_with fail
                                  generalize w4.alloc (.cells (frA g) 42) = W4 at *
                                  generalize w4.heap.size = b4 at *
                                  clear hst
                                  refine (HR1.out _ HX4.out).mono ?_
                                  rintro e w5 ⟨v5, rfl, hv5, hb5⟩
                                  have HX5 := Lib.hid (HX4.out.below hb5)
                                  have HV5 := Lib.hid hv5
                                  have HF5 := Lib.hid (show FrIn g b3 w5 ∧ FrIn g b4 w5 from ⟨HF3b.out.below hl3b hb5, HF4.out.below hl4 hb5⟩)
                                  have HB5 := Lib.hid (HB4.out.trans (hb5.mono HB4.out.size))
                                  have hl5 : b3 < w5.heap.size ∧ b4 < w5.heap.size := by have := hb5.size; omega
                                  clear hv5 hb5 hl4 hl3b
                                  go_wp2_with fail
                                  refine (HR2.out _ HX5.out).mono ?_
                                  rintro e w6 ⟨v6, rfl, hv6, hb6⟩
                                  have HX6 := Lib.hid (HX5.out.below hb6)
                                  have HV6 := Lib.hid (show SlB w6.heap.size w6 v5 lv ∧ SlB w6.heap.size w6 v6 lv from ⟨(HV5.out.below hb6).wider hb6.size, hv6⟩)
                                  have hf1 := (HF5.out.1.below hl5.1 hb6).load
                                  have hf2 := (HF5.out.2.below hl5.2 hb6).load
                                  have HB6 := Lib.hid (HB5.out.trans (hb6.mono HB5.out.size))
                                  clear hv6 hb6 hl5
                                  have hgd := guard_frame
                                  have heq := eql_yes HGI.out HGI.out rfl
                                  clear hg
                                  go_wp2_with fail
                                  refine (same_bytes w6.heap.size _ _ lv lv w6 HV6.out.1 HV6.out.2 (Nat.le_refl _) (by have := HQL.out; omega)).mono ?_
                                  rw [decide_eq_true rfl]
                                  rintro e w7 ⟨rfl, hb7⟩
                                  have HX7 := Lib.hid (HX6.out.below hb7)
                                  have HB7 := Lib.hid (HB6.out.trans (hb7.mono HB6.out.size))
                                  clear hb7 hf1 hf2
                                  go_wp2_with fail
                                  refine (HKK.out _ (HT.out.below HX7.out.base)).mono ?_
                                  rintro e w8 ⟨rfl, hb8⟩
                                  have HB8 := Lib.hid (HB7.out.trans (hb8.mono HB7.out.size))
                                  clear hb8
                                  go_wp2_with fail
                                  go_roundw
                                  case rel => exact ⟨by simp, s + 1, by omega, by go_num, HB8.out⟩
                                  case measure => simp [RowKit.intOf]; omega
                              · obtain rfl : s = m := by omega
                                clear hb
                                go_wp2_with fail
                                go_roundw
                                case rel => exact ⟨rfl, d + 1, by omega, by go_num, own_below HO2.out HB2.out, HBB.out.trans (HB2.out.mono HBB.out.size)⟩
                                case measure => simp [RowKit.intOf]; omega
                    · obtain rfl : d = p.n := by omega
                      as_aux_lemma =>
                        have c1 := HX1.out.ak.i
                        have c2 := HX1.out.ak.s
                        obtain ⟨ga, ca, rfl, -⟩ := own_slice hown
                        clear hown hb
                        have HG1 := Lib.hid (qget_any wo HX1.out.px.prog a.i a.s 3 sl 1)
                        have HG2 := Lib.hid (fun W (h : DX w (fun b => b = Q) Q a c f C5 E5 p p' W) => vget_any W h.px h.lo a.i a.s 3 sl 1)
                        rw [alike_got HPA.out, alike_found HPA.out] at HG2
                        have hg := qgot_is p a.i a.s 3 sl 1
                        generalize qgot p a.i a.s 3 sl 1 = g at *
                        generalize qfound p a.i a.s 3 sl 1 = fb at *
                        unfold FrameBit at HG1 HG2
                        have hcg : (Value.agg (frA g)).cells = frA g := rfl
                        have hsg : (frC g).length = szFr := frC_length hg
                        have hst : ∀ W : World, (storeCells ⟨W.heap.size, 0, none⟩ (frC g) 0).run Tryz.prog (W.alloc (.cells (frA zeroF) 42)) = .ok () (W.alloc (.cells (frA g) 42)) := fun W => storeCells_frame zeroF_is hg W
                        have HGI := Lib.hid hg
                        go_wp2_with fail
                        refine HG1.out.mono ?_
                        rintro e w3 ⟨rfl, hb3⟩
                        have HX3 := Lib.hid ((HX1.out.below hb3).below (one_below w3 (.cells (frA g) 42)))
                        have HF3 := Lib.hid (frIn_new w3 g HGI.out)
                        have HO3 := Lib.hid (own_below (own_below HO.out hb3) (one_below w3 (.cells (frA g) 42)))
                        have hl3 : w3.heap.size < (w3.alloc (.cells (frA g) 42)).heap.size := by simp
                        have d1 := HX3.out.ak.i
                        have d2 := HX3.out.ak.s
                        clear hb3 c1 c2
                        go_wp2_with fail
                        generalize w3.alloc (.cells (frA g) 42) = W3 at *
                        generalize w3.heap.size = b3 at *
                        refine (HG2.out _ HX3.out).mono ?_
                        rintro e w4 ⟨rfl, hb4⟩
                        have HL4 := Lib.hid (show LastV w Q a c f C5 E5 p p' w1 (.slice ga (upsN p p.n).length ca) g b3 w4.heap.size (w4.alloc (.cells (frA g) 42)) from
                          ⟨(HX3.out.below hb4).below (one_below w4 (.cells (frA g) 42)), (HF3.out.below hl3 hb4).below (Nat.lt_of_lt_of_le hl3 hb4.size) (one_below w4 (.cells (frA g) 42)), frIn_new w4 g HGI.out, by have := hb4.size; simp; omega, by simp, own_below (own_below HO3.out hb4) (one_below w4 (.cells (frA g) 42))⟩)
                        clear hb4 hl3 d1 d2
                        go_wp2_with fail
                        generalize w4.alloc (.cells (frA g) 42) = W4 at *
                        generalize w4.heap.size = b4 at *
                        clear hst
                        have hgd := guard_frame
                        have hne := neql_yes HGI.out HGI.out rfl
                        have h4 := HL4.out
                        have hla1 : ∀ w', LastV w Q a c f C5 E5 p p' w1 (.slice ga (upsN p p.n).length ca) g b3 b4 w' → (loadCellsFrom ⟨b3, 0, none⟩ 0 szFr #[]).run Tryz.prog w' = .ok (frA g) w' := fun w' h => h.f1.load
                        have hla2 : ∀ w', LastV w Q a c f C5 E5 p p' w1 (.slice ga (upsN p p.n).length ca) g b3 b4 w' → (loadCellsFrom ⟨b4, 0, none⟩ 0 szFr #[]).run Tryz.prog w' = .ok (frA g) w' := fun w' h => h.f2.load
                        have HLO := HPA.out.off
                        have HMEM := Lib.hid (fun w' (h : LastV w Q a c f C5 E5 p p' w1 (.slice ga (upsN p p.n).length ca) g b3 b4 w') => show LastV w Q a c f C5 E5 p p' w1 (.slice ga (upsN p p.n).length ca) g b3 b4 w' ∧ w'.cell? ⟨f.t, 0, none⟩ = some (.slice (some ⟨f.P, 0, none⟩) p.n f.cap) ∧ w'.cell? ⟨f.t, 2, none⟩ = some (.bool p.off) from ⟨h, h.dx.px.c0, by rw [← HLO]; exact h.dx.px.c2⟩)
                        have CO := Lib.hid (fun w' (h : LastV w Q a c f C5 E5 p p' w1 (.slice ga (upsN p p.n).length ca) g b3 b4 w') => qoff_any w' h.dx.px.prog)
                        have CU := Lib.hid (fun w' (h : LastV w Q a c f C5 E5 p p' w1 (.slice ga (upsN p p.n).length ca) g b3 b4 w') => show Calls Tryz.prog 36 #[.pointer (some ⟨c.r, 0, none⟩)] w' (fun e w'' => ∃ (v : Value) (B : Nat), e = .returned v ∧ w''.ownsRow B 3 1 v (upsN p p.n).length (numsV (upsN p p.n)) ∧ LastV w Q a c f C5 E5 p p' w1 (.slice ga (upsN p p.n).length ca) g b3 b4 w'') from
                          (qonline_any w' h.dx.px.prog).mono fun _ _ ⟨v, h1, h2, h3⟩ => ⟨v, _, h1, h2, h.below h3⟩)
                        have CN := Lib.hid (fun w' (h : LastV w Q a c f C5 E5 p p' w1 (.slice ga (upsN p p.n).length ca) g b3 b4 w') => qn_any w' h.dx.px.prog)
                        have CS := Lib.hid (fun w' (h : LastV w Q a c f C5 E5 p p' w1 (.slice ga (upsN p p.n).length ca) g b3 b4 w') => qsectors_any w' h.dx.px.prog)
                        rw [HPK.out] at CS
                        unfold NumSame at CN CS
                        unfold BitSame at CO
                        have HLN := Lib.hid (show (upsN p p.n).length ≤ 100000 by have := upsN_length p p.n; have := h4.dx.px.prog.ok.n8; omega)
                        have CM := Lib.hid (fun w' v B (h : LastV w Q a c f C5 E5 p p' w1 (.slice ga (upsN p p.n).length ca) g b3 b4 w') (ho : w'.ownsRow B 3 1 v (upsN p p.n).length (numsV (upsN p p.n))) => show Calls Tryz.prog 35 #[v, .slice ga (upsN p p.n).length ca] w' (fun e w'' => e = .returned (.bool true) ∧ LastV w Q a c f C5 E5 p p' w1 (.slice ga (upsN p p.n).length ca) g b3 b4 w'') from by
                          have := same_nums w'.heap.size v (.slice ga (upsN p p.n).length ca) (upsN p p.n) (upsN p p.n) w' (sln_own ho rfl) (sln_own h.up rfl) (Nat.le_refl _) HLN.out
                          rw [decide_eq_true rfl] at this
                          exact this.mono fun _ _ ⟨h1, h2⟩ => ⟨h1, h.below h2⟩)
                        have HID := Lib.hid (fun x (h : DX w (fun b => b = Q) Q a c f C5 E5 p p' x) => show Idle w c f n m x from by
                          have := h.idle HPA.out
                          rw [HPN.out, HPK.out] at this
                          exact this)
                        generalize p.off = po at *
                        obtain ⟨h4a, h4b, h4c⟩ := HMEM.out _ h4
                        go_region_held3 (fun w' => LastV w Q a c f C5 E5 p p' w1 (.slice ga (upsN p p.n).length ca) g b3 b4 w' ∧ w'.cell? ⟨f.t, 0, none⟩ = some (.slice (some ⟨f.P, 0, none⟩) p.n f.cap) ∧ w'.cell? ⟨f.t, 2, none⟩ = some (.bool po)) (exact HMEM.out _ (by repeat (first | assumption | refine LastV.drew ?_)))
                          (first
                            | (go_at_call 34; (with_reducible refine (CO.out _ ?_).mono ?_); (repeat (first | assumption | refine LastV.drew ?_)); rintro e w' ⟨rfl, rfl⟩)
                            | (go_at_call 36; (with_reducible refine (CU.out _ ?_).mono ?_); (repeat (first | assumption | refine LastV.drew ?_)); rintro e w5 ⟨v5, B5, rfl, ho5, h5⟩; have HO5 := Lib.hid ho5; clear ho5)
                            | (go_at_call 35; (with_reducible refine (CM.out _ _ B5 h5 HO5.out).mono ?_); rintro e w6 ⟨rfl, h6⟩)
                            | (go_at_call 37; (with_reducible refine (CN.out _ ?_).mono ?_); (repeat (first | assumption | refine LastV.drew ?_)); rintro e w' ⟨rfl, rfl⟩)
                            | (go_at_call 38; (with_reducible refine (CS.out _ ?_).mono ?_); (repeat (first | assumption | refine LastV.drew ?_)); rintro e w' ⟨rfl, rfl⟩))
                        all_goals
                          go_wp2_with fail
                          go_roundw
                          case rel => exact ⟨k + 1, by omega, by omega, by go_num, HID.out _ h6.dx⟩
                          case measure => simp [RowKit.intOf]; omega
          · skip
            have HRR := Lib.hid (rack_runs wr (HT.out.below hb))
            clear hP hb hqn hqk hal
            go_wp2_with (refine HRR.out.mono ?_; rintro e w9 ⟨rfl, hb9⟩)
            go_ret
            exact bit rfl (HB.out.trans (hb9.mono HB.out.size))
        · skip
          have HRR := Lib.hid (rack_runs wr (HT.out.below hb))
          clear hP hb hqn hqk hal
          go_wp2_with (refine HRR.out.mono ?_; rintro e w9 ⟨rfl, hb9⟩)
          go_ret
          exact bit rfl (HB.out.trans (hb9.mono HB.out.size))
end Go.Proofs.YtbokangpcjeofaaGreatDoor
