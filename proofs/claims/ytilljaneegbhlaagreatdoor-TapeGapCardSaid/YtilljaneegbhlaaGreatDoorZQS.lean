import Derived.Test.YtilljaneegbhlaaGreatDoorZQKit
import Derived.Test.YtilljaneegbhlaaGreatDoorZHGet
import Derived.Deep.RegionLaw
import Derived.Deep.DrawnRows
namespace Go.Proofs.YtilljaneegbhlaaGreatDoor
open Go.RowKit Go.Deep Dk Qk Go.Maps Hf
set_option maxHeartbeats 4000000
set_option maxRecDepth 100000
def qval (q : Rk) (i s : Int) : List UInt8 := if q.has i ∧ q.off = false then rval (q.s i.toNat) s else []
def qrcode (q : Rk) (i s : Int) : Int := if q.has i then (if q.off = true then 5 else rcode (q.s i.toNat) s) else 1
def qrerr (q : Rk) (i s : Int) : Value :=
 if q.has i then (if q.off = true then wrapV opQRead i (errV 5) else if rcode (q.s i.toNat) s = 0 then .nilIface else wrapV opQRead i (wrapV opRead s (errV (rcode (q.s i.toNat) s)))) else wrapV opQRead i (errV 1)
def ReadQ (q : Rk) (i s : Int) (w : World) (e : Ending) (w' : World) : Prop := ∃ v, e = .returned (.tuple #[v, qrerr q i s]) ∧ SlB w'.heap.size w' v (qval q i s) ∧ Below w.heap.size w w'
variable {lo : Nat} {c : Lc} {q : Rk}
theorem qread_no (w : World) (h : RackIn lo w c q) (i s : Int) (hi : ¬ q.has i) :
  Calls Tryz.prog 29 #[.pointer (some ⟨c.r, 0, none⟩), .int .i64 i, .int .i64 s] w (Err2 (.slice none 0 0) opQRead 1 i w) := by
 have HH := hI (qhas_any w h i)
 rw [decide_eq_false hi] at HH
 clear h hi
 go_enter Tryz.func29, Tryz.ntmps29
 go_wp2_with (first
  | (go_at_call 47; refine HH.out.mono ?_; rintro e w' ⟨rfl, rfl⟩)
  | (go_at_call 32; refine (wrap_some _ _ _ _ _).mono ?_; rintro e w' ⟨rfl, rfl⟩))
 exact bodyPost_ret (v := .tuple #[.slice none 0 0, wrapV opQRead i (errV 1)]) (by simp [results, Tryz.results29, go_sem, wrapV, errV, opQRead]) rfl ⟨rfl, rfl⟩
theorem qread_off (w : World) (h : RackIn lo w c q) (i s : Int) (hi : q.has i) (ho : q.off = true) :
  Calls Tryz.prog 29 #[.pointer (some ⟨c.r, 0, none⟩), .int .i64 i, .int .i64 s] w (Err2 (.slice none 0 0) opQRead 5 i w) := by
 have HH := hI (qhas_any w h i)
 rw [decide_eq_true hi] at HH
 have c1 := h.c1
 rw [ho] at c1
 clear h hi ho
 go_enter Tryz.func29, Tryz.ntmps29
 go_wp2_with (first
  | (go_at_call 47; refine HH.out.mono ?_; rintro e w' ⟨rfl, rfl⟩)
  | (go_at_call 32; refine (wrap_some _ _ _ _ _).mono ?_; rintro e w' ⟨rfl, rfl⟩))
 exact bodyPost_ret (v := .tuple #[.slice none 0 0, wrapV opQRead i (errV 5)]) (by simp [results, Tryz.results29, go_sem, wrapV, errV, opQRead]) rfl ⟨rfl, rfl⟩
theorem qread_yes (w : World) (h : RackIn lo w c q) (k : Nat) (s : Int) (hk : k < q.n) (ho : q.off = false) :
  Calls Tryz.prog 29 #[.pointer (some ⟨c.r, 0, none⟩), .int .i64 (k : Int), .int .i64 s] w (fun e w' => ∃ v, e = .returned (.tuple #[v, if rcode (q.s k) s = 0 then .nilIface else wrapV opQRead k (wrapV opRead s (errV (rcode (q.s k) s)))]) ∧ SlB w'.heap.size w' v (rval (q.s k) s) ∧ Below w.heap.size w w') := by
 have HH := hI (qhas_any w h k)
 rw [decide_eq_true (show q.has (k : Int) from ⟨by omega, by omega⟩)] at HH
 have c1 := h.c1
 rw [ho] at c1
 have c0 := h.c0
 have ca := h.at_ hk
 have i1 : (k : Int) < q.n := by omega
 have i2 : (0 : Int) ≤ k := by omega
 have HP := hI (pread_d w (h.disk k hk) s)
 clear h ho
 generalize rcode (q.s k) s = rc at HP ⊢
 by_cases h0 : rc = 0
 ·subst h0
  unfold evs at HP; rw [if_pos rfl] at HP; rw [if_pos rfl]
  go_enter Tryz.func29, Tryz.ntmps29
  go_wp2_with (first
   | (go_at_call 47; refine HH.out.mono ?_; rintro e w' ⟨rfl, rfl⟩)
   | (go_at_call 54; refine HP.out.mono ?_; rintro e w1 ⟨v, rfl, hv, hb⟩)
   | (go_at_call 32; refine (wrap_nil _ _ _).mono ?_; rintro e w' ⟨rfl, rfl⟩))
  exact bodyPost_ret (v := .tuple #[v, .nilIface]) (by simp [results, Tryz.results29, go_sem]) rfl ⟨v, rfl, hv, hb⟩
 ·unfold evs at HP
  rw [if_neg h0] at HP; rw [if_neg h0]; clear h0; rw [show wrapV opRead s (errV rc) = .iface 103 (.agg #[.string opRead, .int .i64 s, errV rc]) from rfl] at HP ⊢; generalize (Value.agg #[.string opRead, .int .i64 s, errV rc]) = y at HP ⊢
  go_enter Tryz.func29, Tryz.ntmps29
  go_wp2_with (first
   | (go_at_call 47; refine HH.out.mono ?_; rintro e w' ⟨rfl, rfl⟩)
   | (go_at_call 54; refine HP.out.mono ?_; rintro e w1 ⟨v, rfl, hv, hb⟩)
   | (go_at_call 32; refine (wrap_some _ _ _ _ _).mono ?_; rintro e w' ⟨rfl, rfl⟩))
  exact bodyPost_ret (v := .tuple #[v, wrapV opQRead k (.iface 103 y)]) (by simp [results, Tryz.results29, go_sem, wrapV, opQRead]) rfl ⟨v, rfl, hv, hb⟩
theorem qread_any (w : World) (h : RackIn lo w c q) (i s : Int) :
  Calls Tryz.prog 29 #[.pointer (some ⟨c.r, 0, none⟩), .int .i64 i, .int .i64 s] w (ReadQ q i s w) := by
 unfold ReadQ qrerr qval
 by_cases hi : q.has i
 ·rw [if_pos hi]
  cases ho : q.off with
  | true =>
   rw [if_pos rfl, if_neg (fun e => by cases e.2)]; refine (qread_off w h i s hi ho).mono ?_; rintro e w' ⟨rfl, rfl⟩; exact ⟨_, rfl, slb_nil, Below.refl _ _⟩
  | false =>
   rw [if_neg (show ¬ false = true by decide), if_pos (show q.has i ∧ false = false from ⟨hi, rfl⟩)]; obtain ⟨k, rfl⟩ := Int.eq_ofNat_of_zero_le hi.1; exact qread_yes w h k s (by have := hi.2; omega) ho
 ·rw [if_neg hi, if_neg (fun e => hi e.1)]
  refine (qread_no w h i s hi).mono ?_; rintro e w' ⟨rfl, rfl⟩; exact ⟨_, rfl, slb_nil, Below.refl _ _⟩
def asked (f : Fr) (kind slot stripe : Int) : Bool := decide (f.k = kind) && (decide (f.s = slot) && (decide (stripe < 0) || decide (f.t = stripe)))
def qfound (q : Rk) (i s kind slot stripe : Int) : Bool := decide (qrcode q i s = 0) && (goodB (qval q i s) && asked (got (qval q i s)) kind slot stripe)
def qgot (q : Rk) (i s kind slot stripe : Int) : Fr := if qfound q i s kind slot stripe = true then got (qval q i s) else zeroF
variable {i s : Int}
theorem rerr_bad (h : qrcode q i s ≠ 0) : ∃ y, qrerr q i s = .iface 103 y := by
 unfold qrcode at h
 unfold qrerr
 by_cases hi : q.has i
 ·rw [if_pos hi] at h ⊢
  cases ho : q.off with
  | true => rw [if_pos rfl]; exact ⟨_, rfl⟩
  | false =>
   rw [ho, if_neg (show ¬ false = true by decide)] at h; rw [if_neg (show ¬ false = true by decide), if_neg h]; exact ⟨_, rfl⟩
 ·rw [if_neg hi]; exact ⟨_, rfl⟩
theorem rerr_good (h : qrcode q i s = 0) : qrerr q i s = .nilIface := by
 unfold qrcode at h
 unfold qrerr
 by_cases hi : q.has i
 ·rw [if_pos hi] at h ⊢
  cases ho : q.off with
  | true => rw [ho, if_pos rfl] at h; cases h
  | false =>
   rw [ho, if_neg (show ¬ false = true by decide)] at h; rw [if_neg (show ¬ false = true by decide), if_pos h]
 ·rw [if_neg hi] at h; cases h
theorem qget_bad (w : World) (h : RackIn lo w c q) (i s kind slot stripe : Int) (h0 : qrcode q i s ≠ 0) :
  Calls Tryz.prog 120 #[.pointer (some ⟨c.r, 0, none⟩), .int .i64 i, .int .i64 s, .int .i64 kind, .int .i64 slot, .int .i64 stripe] w (FrameBit zeroF false w) := by
 have HR := hI (qread_any (w.alloc (.cells (frA zeroF) 151)) (h.below (one_below w _)) i s)
 obtain ⟨y, hy⟩ := rerr_bad h0
 unfold ReadQ at HR
 rw [hy] at HR
 clear h h0 hy
 have hc : (Value.agg (frA zeroF)).cells = frA zeroF := rfl
 have hz := szFr_run
 have hz0 := zero_frame
 have hsz : (frC zeroF).length = szFr := frC_length zeroF_is
 have HZ := hI (zin_new w)
 go_enter Tryz.func120, Tryz.ntmps120
 go_wp2_with (go_at_call 29; (with_reducible refine HR.out.mono ?_); rintro e w1 ⟨v, rfl, hv, hb⟩; have hst := (HZ.out.below (by simp) hb).store zeroF zeroF_is; have HL := hI ((HZ.out.below (by simp) hb).load zeroF zeroF_is); have HB := hI (bthen (one_below w _) hb); clear hv hb)
 have hl2 := HL.out
 exact bodyPost_ret (v := .tuple #[.agg (frA zeroF), .bool false]) (by simp [results, Tryz.results120, go_sem, hz, hl2]) rfl ⟨rfl, setRow_below HB.out (Nat.le_refl _) _⟩
theorem get_end {w w1 w2 : World} {f g : Fr} (h1 : Below (w.alloc (.cells (frA zeroF) 151)).heap.size (w.alloc (.cells (frA zeroF) 151)) w1) (h2 : Below w1.heap.size w1 w2) (hg : g.is) :
  (storeCells ⟨w.heap.size, 0, none⟩ (frC g) 0).run Tryz.prog (w2.alloc (.cells (frA f) 151)) = .ok () ((w2.alloc (.cells (frA f) 151)).setRow w.heap.size (frA g)) ∧
  (loadCellsFrom ⟨w.heap.size, 0, none⟩ 0 szFr #[]).run Tryz.prog ((w2.alloc (.cells (frA f) 151)).setRow w.heap.size (frA g)) = .ok (frA g) ((w2.alloc (.cells (frA f) 151)).setRow w.heap.size (frA g)) ∧
  Below w.heap.size w ((w2.alloc (.cells (frA f) 151)).setRow w.heap.size (frA g)) := by
 have hb : Below (w.alloc (.cells (frA zeroF) 151)).heap.size (w.alloc (.cells (frA zeroF) 151)) (w2.alloc (.cells (frA f) 151)) := balloc (bthen h1 h2) _
 have hz := (zin_new w).below (by simp) hb
 exact ⟨hz.store g hg, hz.load g hg, setRow_below (bthen (one_below w _) hb) (Nat.le_refl _) _⟩
theorem qget_good (w : World) (h : RackIn lo w c q) (i s kind slot stripe : Int) (h0 : qrcode q i s = 0) :
  Calls Tryz.prog 120 #[.pointer (some ⟨c.r, 0, none⟩), .int .i64 i, .int .i64 s, .int .i64 kind, .int .i64 slot, .int .i64 stripe] w
   (FrameBit (if (goodB (qval q i s) && asked (got (qval q i s)) kind slot stripe) = true then got (qval q i s) else zeroF) (goodB (qval q i s) && asked (got (qval q i s)) kind slot stripe) w) := by
 have HR := hI (qread_any (w.alloc (.cells (frA zeroF) 151)) (h.below (one_below w _)) i s)
 unfold ReadQ at HR
 rw [rerr_good h0] at HR
 clear h h0
 have hi := got_is (qval q i s)
 have HGET := hI (fun (w : World) (v : Value) (hv : SlB w.heap.size w v (qval q i s)) => get_any w.heap.size v (qval q i s) w hv (Nat.le_refl _))
 generalize qval q i s = l at *
 generalize got l = f at *
 generalize goodB l = b at *
 have hc : (Value.agg (frA zeroF)).cells = frA zeroF := rfl
 have hc2 : (Value.agg (frA f)).cells = frA f := rfl
 have hz := szFr_run
 have hz0 := zero_frame
 have hsz : (frC zeroF).length = szFr := frC_length zeroF_is
 have hsf : (frC f).length = szFr := frC_length hi
 have HI := hI hi
 have hst : ∀ W : World, (storeCells ⟨W.heap.size, 0, none⟩ (frC f) 0).run Tryz.prog (W.alloc (.cells (frA zeroF) 151)) = .ok () (W.alloc (.cells (frA f) 151)) := fun W => storeCells_frame zeroF_is hi W
 have ends : ∀ (g : Fr) (bb : Bool) (w1 w2 : World), g.is → Below (w.alloc (.cells (frA zeroF) 151)).heap.size (w.alloc (.cells (frA zeroF) 151)) w1 → Below w1.heap.size w1 w2 → FrameBit g bb w (.returned (.tuple #[.agg (frA g), .bool bb])) ((w2.alloc (.cells (frA f) 151)).setRow w.heap.size (frA g)) :=
  fun g bb w1 w2 hg h1 h2 => ⟨rfl, (get_end h1 h2 hg).2.2⟩
 have HEND := hI ends
 clear ends hi
 have no : ∀ (hno : (b && asked f kind slot stripe) = false), (if (b && asked f kind slot stripe) = true then f else zeroF) = zeroF := fun hno => if_neg (by rw [hno]; decide)
 have HNO := hI no
 clear no
 have fins : ∀ w2 : World, (w2.alloc (.cells (frA f) 151)).cell? ⟨w2.heap.size, 0, none⟩ = some (.int .i64 f.k) ∧ (w2.alloc (.cells (frA f) 151)).cell? ⟨w2.heap.size, 1, none⟩ = some (.int .i64 f.s) ∧ (w2.alloc (.cells (frA f) 151)).cell? ⟨w2.heap.size, 2, none⟩ = some (.int .i64 f.t) ∧ (loadCellsFrom ⟨w2.heap.size, 0, none⟩ 0 szFr #[]).run Tryz.prog (w2.alloc (.cells (frA f) 151)) = .ok (frA f) (w2.alloc (.cells (frA f) 151)) :=
  fun w2 => ⟨(frIn_new w2 f HI.out).c0, (frIn_new w2 f HI.out).c1, (frIn_new w2 f HI.out).c2, (frIn_new w2 f HI.out).load⟩
 have HFI := hI fins
 clear fins
 cases hb : b with
 | false =>
  subst hb; have HK := hI (HNO.out rfl); rw [show (false && asked f kind slot stripe) = false from rfl] at HK ⊢; rw [HK.out]
  go_enter Tryz.func120, Tryz.ntmps120
  go_wp2_with (first
   | (go_at_call 29; (with_reducible refine HR.out.mono ?_); rintro e w1 ⟨v, rfl, hv, hb1⟩; have HV := hI hv; have HB1 := hI hb1; clear hv hb1)
   | (go_at_call 137; (with_reducible refine (HGET.out _ _ HV.out).mono ?_); rintro e w2 ⟨rfl, hb2⟩; have HB2 := hI hb2; have hst0 := (get_end (f := f) HB1.out hb2 zeroF_is).1; have HL := hI (get_end (f := f) HB1.out hb2 zeroF_is).2.1; clear hb2))
  have hl2 := HL.out; exact bodyPost_ret (v := .tuple #[.agg (frA zeroF), .bool false]) (by simp [results, Tryz.results120, go_sem, hz, hl2]) rfl (HEND.out _ _ _ _ zeroF_is HB1.out HB2.out)
 | true =>
  subst hb; rw [Bool.true_and] at *
  by_cases hk : f.k = kind
  ·by_cases hs : f.s = slot
   ·by_cases ht : stripe < 0
    ·skip
     have k1 : (f.k == kind) = true := by simpa using hk
     have k2 : (f.k != kind) = false := by simpa using hk
     have s1 : (f.s == slot) = true := by simpa using hs
     have s2 : (f.s != slot) = false := by simpa using hs
     have HA1 := hI (decide_eq_true hk); have HA2 := hI (decide_eq_true hs); have HA3 := hI (decide_eq_true ht)
     have t1 : ¬ 0 ≤ stripe := by omega
     clear hk hs; have HK := hI (show asked f kind slot stripe = true by unfold asked; rw [HA1.out, HA2.out, HA3.out]; simp); rw [HK.out, if_pos rfl]; clear HK HNO
     go_enter Tryz.func120, Tryz.ntmps120
     go_wp2_with (first
      | (go_at_call 29; (with_reducible refine HR.out.mono ?_); rintro e w1 ⟨v, rfl, hv, hb1⟩; have HV := hI hv; have HB1 := hI hb1; clear hv hb1)
      | (go_at_call 137; (with_reducible refine (HGET.out _ _ HV.out).mono ?_); rintro e w2 ⟨rfl, hb2⟩; have HB2 := hI hb2; have hst0 := (get_end (f := f) HB1.out hb2 HI.out).1; have HL := hI (get_end (f := f) HB1.out hb2 HI.out).2.1; obtain ⟨x0, x1, x2, x3⟩ := HFI.out w2; clear hb2))
     have hl2 := HL.out; exact bodyPost_ret (v := .tuple #[.agg (frA f), .bool true]) (by simp [results, Tryz.results120, go_sem, hz, hl2]) rfl (HEND.out _ _ _ _ HI.out HB1.out HB2.out)
    ·by_cases hu : f.t = stripe
     ·skip
      have k1 : (f.k == kind) = true := by simpa using hk
      have k2 : (f.k != kind) = false := by simpa using hk
      have s1 : (f.s == slot) = true := by simpa using hs
      have s2 : (f.s != slot) = false := by simpa using hs
      have u1 : (f.t == stripe) = true := by simpa using hu
      have u2 : (f.t != stripe) = false := by simpa using hu
      have HA1 := hI (decide_eq_true hk); have HA2 := hI (decide_eq_true hs); have HA3 := hI (decide_eq_true hu)
      have t1 : 0 ≤ stripe := by omega
      clear hk hs hu ht; have HK := hI (show asked f kind slot stripe = true by unfold asked; rw [HA1.out, HA2.out, HA3.out]; simp); rw [HK.out, if_pos rfl]; clear HK HNO
      go_enter Tryz.func120, Tryz.ntmps120
      go_wp2_with (first
       | (go_at_call 29; (with_reducible refine HR.out.mono ?_); rintro e w1 ⟨v, rfl, hv, hb1⟩; have HV := hI hv; have HB1 := hI hb1; clear hv hb1)
       | (go_at_call 137; (with_reducible refine (HGET.out _ _ HV.out).mono ?_); rintro e w2 ⟨rfl, hb2⟩; have HB2 := hI hb2; have hst0 := (get_end (f := f) HB1.out hb2 HI.out).1; have HL := hI (get_end (f := f) HB1.out hb2 HI.out).2.1; obtain ⟨x0, x1, x2, x3⟩ := HFI.out w2; clear hb2))
      have hl2 := HL.out; exact bodyPost_ret (v := .tuple #[.agg (frA f), .bool true]) (by simp [results, Tryz.results120, go_sem, hz, hl2]) rfl (HEND.out _ _ _ _ HI.out HB1.out HB2.out)
     ·skip
      have k1 : (f.k == kind) = true := by simpa using hk
      have k2 : (f.k != kind) = false := by simpa using hk
      have s1 : (f.s == slot) = true := by simpa using hs
      have s2 : (f.s != slot) = false := by simpa using hs
      have u1 : (f.t == stripe) = false := by simpa using hu
      have u2 : (f.t != stripe) = true := by simpa using hu
      have HA1 := hI (decide_eq_true hk); have HA2 := hI (decide_eq_true hs); have HA3 := hI (decide_eq_false hu); have HA4 := hI (decide_eq_false ht)
      have t1 : 0 ≤ stripe := by omega
      clear hk hs ht; have HK := hI (show asked f kind slot stripe = false by unfold asked; rw [HA1.out, HA2.out, HA3.out, HA4.out]; first | done | rfl); rw [HK.out, if_neg (show ¬ false = true by decide)]; clear HK HNO
      go_enter Tryz.func120, Tryz.ntmps120
      go_wp2_with (first
       | (go_at_call 29; (with_reducible refine HR.out.mono ?_); rintro e w1 ⟨v, rfl, hv, hb1⟩; have HV := hI hv; have HB1 := hI hb1; clear hv hb1)
       | (go_at_call 137; (with_reducible refine (HGET.out _ _ HV.out).mono ?_); rintro e w2 ⟨rfl, hb2⟩; have HB2 := hI hb2; have hst0 := (get_end (f := f) HB1.out hb2 zeroF_is).1; have HL := hI (get_end (f := f) HB1.out hb2 zeroF_is).2.1; obtain ⟨x0, x1, x2, x3⟩ := HFI.out w2; clear hb2))
      have hl2 := HL.out; exact bodyPost_ret (v := .tuple #[.agg (frA zeroF), .bool false]) (by simp [results, Tryz.results120, go_sem, hz, hl2]) rfl (HEND.out _ _ _ _ zeroF_is HB1.out HB2.out)
   ·skip
    have k1 : (f.k == kind) = true := by simpa using hk
    have k2 : (f.k != kind) = false := by simpa using hk
    have s1 : (f.s == slot) = false := by simpa using hs
    have s2 : (f.s != slot) = true := by simpa using hs
    have HA1 := hI (decide_eq_true hk); have HA2 := hI (decide_eq_false hs); have HA3 := hI (True.intro); have HA4 := hI (True.intro); clear hk; have HK := hI (show asked f kind slot stripe = false by unfold asked; rw [HA1.out, HA2.out]; first | done | rfl); rw [HK.out, if_neg (show ¬ false = true by decide)]; clear HK HNO
    go_enter Tryz.func120, Tryz.ntmps120
    go_wp2_with (first
     | (go_at_call 29; (with_reducible refine HR.out.mono ?_); rintro e w1 ⟨v, rfl, hv, hb1⟩; have HV := hI hv; have HB1 := hI hb1; clear hv hb1)
     | (go_at_call 137; (with_reducible refine (HGET.out _ _ HV.out).mono ?_); rintro e w2 ⟨rfl, hb2⟩; have HB2 := hI hb2; have hst0 := (get_end (f := f) HB1.out hb2 zeroF_is).1; have HL := hI (get_end (f := f) HB1.out hb2 zeroF_is).2.1; obtain ⟨x0, x1, x2, x3⟩ := HFI.out w2; clear hb2))
    have hl2 := HL.out; exact bodyPost_ret (v := .tuple #[.agg (frA zeroF), .bool false]) (by simp [results, Tryz.results120, go_sem, hz, hl2]) rfl (HEND.out _ _ _ _ zeroF_is HB1.out HB2.out)
  ·skip
   have k1 : (f.k == kind) = false := by simpa using hk
   have k2 : (f.k != kind) = true := by simpa using hk
   have HA1 := hI (decide_eq_false hk); have HK := hI (show asked f kind slot stripe = false by unfold asked; rw [HA1.out]; first | done | rfl); rw [HK.out, if_neg (show ¬ false = true by decide)]; clear HK HNO
   go_enter Tryz.func120, Tryz.ntmps120
   go_wp2_with (first
    | (go_at_call 29; (with_reducible refine HR.out.mono ?_); rintro e w1 ⟨v, rfl, hv, hb1⟩; have HV := hI hv; have HB1 := hI hb1; clear hv hb1)
    | (go_at_call 137; (with_reducible refine (HGET.out _ _ HV.out).mono ?_); rintro e w2 ⟨rfl, hb2⟩; have HB2 := hI hb2; have hst0 := (get_end (f := f) HB1.out hb2 zeroF_is).1; have HL := hI (get_end (f := f) HB1.out hb2 zeroF_is).2.1; obtain ⟨x0, x1, x2, x3⟩ := HFI.out w2; clear hb2))
   have hl2 := HL.out; exact bodyPost_ret (v := .tuple #[.agg (frA zeroF), .bool false]) (by simp [results, Tryz.results120, go_sem, hz, hl2]) rfl (HEND.out _ _ _ _ zeroF_is HB1.out HB2.out)
theorem qget_any (w : World) (h : RackIn lo w c q) (i s kind slot stripe : Int) :
  Calls Tryz.prog 120 #[.pointer (some ⟨c.r, 0, none⟩), .int .i64 i, .int .i64 s, .int .i64 kind, .int .i64 slot, .int .i64 stripe] w (FrameBit (qgot q i s kind slot stripe) (qfound q i s kind slot stripe) w) := by
 unfold qgot qfound
 by_cases h0 : qrcode q i s = 0
 ·rw [decide_eq_true h0, Bool.true_and]
  exact qget_good w h i s kind slot stripe h0
 ·rw [decide_eq_false h0, Bool.false_and, if_neg (show ¬ false = true by decide)]
  exact qget_bad w h i s kind slot stripe h0
theorem qgot_is (q : Rk) (i s kind slot stripe : Int) : (qgot q i s kind slot stripe).is := by
 unfold qgot
 split
 ·exact got_is _
 ·exact zeroF_is
end Go.Proofs.YtilljaneegbhlaaGreatDoor
namespace Go.Proofs.YtilljaneegbhlaaGreatDoor
open Go.RowKit Go.Deep Dk Qk Go.Maps
set_option maxHeartbeats 4000000
set_option maxRecDepth 100000
variable {q : Rk} {i : Int}
theorem ready_yes (h : q.ready i = 0) : ∃ k : Nat, i = (k : Int) ∧ k < q.n ∧ q.off = false ∧ (q.s k).dead = false := by
 unfold Rk.ready at h
 by_cases hi : q.has i
 ·rw [if_pos hi] at h
  obtain ⟨k, rfl⟩ := Int.eq_ofNat_of_zero_le hi.1; refine ⟨k, rfl, by have := hi.2; omega, ?_⟩
  cases ho : q.off
  ·cases hd : (q.s k).dead
   ·exact ⟨rfl, rfl⟩
   ·rw [ho, Int.toNat_natCast, hd] at h; exact absurd h (by decide)
  ·rw [ho, Bool.true_or] at h; exact absurd h (by decide)
 ·rw [if_neg hi] at h; cases h
variable {lo : Nat} {w : World} {c : Lc}
theorem RackIn.nocell (h : RackIn lo w c q) (i : Nat) (x : Int) : w.cell? ⟨c.r, i, none⟩ ≠ some (.int .u8 x) := by
 rw [cell_of_row w c.r i _ _ _ h.top]
 match i with
 | 0 => intro e; cases e
 | 1 => intro e; cases e
 | 2 => intro e; cases e
 | i + 3 => intro e; simp at e
variable {B : Nat} {w' : World} {v : Value} {l : List UInt8}
theorem SlB.spent (h : SlB B w v l) (hr : RackIn lo w c q) (hw : ∀ k, k ≠ c.r → w'.heap[k]? = w.heap[k]?) : SlB B w' v l := by
 rcases h with h0 | ⟨b, o, cap, h1, h2, h3, h4, h5⟩
 ·exact Or.inl h0
 ·have hne : b ≠ c.r := fun e => by
   subst e; exact hr.nocell _ _ (h3 0 h4)
  exact Or.inr ⟨b, o, cap, h1, h2, fun x hx => (World.cell?_of_block (a := ⟨b, o + x, none⟩) (hw b hne)).trans (h3 x hx), h4, h5⟩
variable {sec : Int}
theorem write_wait (h : ¬ q.ready i = 0) : q.write i sec l = q ∧ q.wcode i sec l.length = q.ready i := ⟨if_neg fun e => h e.1, if_neg h⟩
theorem write_odd (h : q.ready i = 0) (hf : ¬ q.fits sec l.length) : q.write i sec l = q ∧ q.wcode i sec l.length = 1 :=
 ⟨if_neg fun e => hf e.2, by unfold Rk.wcode; rw [if_pos h, if_neg hf]⟩
theorem write_last (h : q.ready i = 0) (hf : q.fits sec l.length) (h0 : q.rem = 0) : q.write i sec l = q.spent ∧ q.wcode i sec l.length = 5 :=
 ⟨by unfold Rk.write; rw [if_pos ⟨h, hf⟩, if_pos h0], by unfold Rk.wcode; rw [if_pos h, if_pos hf, if_pos h0]⟩
theorem write_goes (h : q.ready i = 0) (hf : q.fits sec l.length) (h0 : ¬ q.rem = 0) : q.write i sec l = q.spent.turn i.toNat ((q.s i.toNat).write sec.toNat l) ∧ q.wcode i sec l.length = 0 :=
 ⟨by unfold Rk.write; rw [if_pos ⟨h, hf⟩, if_neg h0], by unfold Rk.wcode; rw [if_pos h, if_pos hf, if_neg h0]⟩
theorem qwrite_wait (w : World) (h : RackIn lo w c q) (i sec : Int) (v : Value) (hr : ¬ q.ready i = 0) :
  Calls Tryz.prog 83 #[.pointer (some ⟨c.r, 0, none⟩), .int .i64 i, .int .i64 sec, v] w (ErrSame opQWrite (q.ready i) i w) := by
 have HR := hI (qready_any w h opQWrite i)
 unfold ErrSame at HR ⊢
 rw [evs_some _ _ hr] at HR ⊢
 clear h hr
 generalize q.ready i = rd at *
 unfold wrapV errV at HR
 go_enter Tryz.func83, Tryz.ntmps83
 go_wp2_with (go_at_call 104; refine HR.out.mono ?_; rintro e w' ⟨rfl, rfl⟩)
 exact bodyPost_ret (v := wrapV opQWrite i (errV rd)) (by simp [results, Tryz.results83, go_sem, wrapV, errV, opQWrite]) rfl ⟨rfl, rfl⟩
theorem qwrite_lo (w : World) (h : RackIn lo w c q) (i sec : Int) (a : Option Addr) (len cap : Nat) (hr : q.ready i = 0) (hx : sec < 0) :
  Calls Tryz.prog 83 #[.pointer (some ⟨c.r, 0, none⟩), .int .i64 i, .int .i64 sec, .slice a len cap] w (ErrSame opQWrite 1 i w) := by
 have HR := hI (qready_any w h opQWrite i)
 have HS := hI (qsectors_any w h)
 unfold ErrSame at HR ⊢
 rw [hr, evs_zero] at HR
 rw [evs_some _ _ (by decide)]
 clear h hr
 go_enter Tryz.func83, Tryz.ntmps83
 go_wp2_with (first
  | (go_at_call 104; refine HR.out.mono ?_; rintro e w' ⟨rfl, rfl⟩)
  | (go_at_call 28; refine HS.out.mono ?_; rintro e w' ⟨rfl, rfl⟩)
  | (go_at_call 32; refine (wrap_some _ _ _ _ _).mono ?_; rintro e w' ⟨rfl, rfl⟩))
 exact bodyPost_ret (v := wrapV opQWrite i (errV 1)) (by simp [results, Tryz.results83, go_sem, wrapV, errV, opQWrite]) rfl ⟨rfl, rfl⟩
theorem qwrite_hi (w : World) (h : RackIn lo w c q) (i sec : Int) (a : Option Addr) (len cap : Nat) (hr : q.ready i = 0) (hx : 0 ≤ sec) (hy : sec ≥ q.k) :
  Calls Tryz.prog 83 #[.pointer (some ⟨c.r, 0, none⟩), .int .i64 i, .int .i64 sec, .slice a len cap] w (ErrSame opQWrite 1 i w) := by
 have HR := hI (qready_any w h opQWrite i)
 have HS := hI (qsectors_any w h)
 unfold ErrSame at HR ⊢
 rw [hr, evs_zero] at HR
 rw [evs_some _ _ (by decide)]
 have i1 : ¬ sec < 0 := by omega
 clear h hr
 go_enter Tryz.func83, Tryz.ntmps83
 go_wp2_with (first
  | (go_at_call 104; refine HR.out.mono ?_; rintro e w' ⟨rfl, rfl⟩)
  | (go_at_call 28; refine HS.out.mono ?_; rintro e w' ⟨rfl, rfl⟩)
  | (go_at_call 32; refine (wrap_some _ _ _ _ _).mono ?_; rintro e w' ⟨rfl, rfl⟩))
 exact bodyPost_ret (v := wrapV opQWrite i (errV 1)) (by simp [results, Tryz.results83, go_sem, wrapV, errV, opQWrite]) rfl ⟨rfl, rfl⟩
theorem qwrite_len (w : World) (h : RackIn lo w c q) (i sec : Int) (a : Option Addr) (len cap : Nat) (hr : q.ready i = 0) (hx : 0 ≤ sec) (hy : sec < q.k) (hl : len ≠ 128) :
  Calls Tryz.prog 83 #[.pointer (some ⟨c.r, 0, none⟩), .int .i64 i, .int .i64 sec, .slice a len cap] w (ErrSame opQWrite 1 i w) := by
 have HR := hI (qready_any w h opQWrite i)
 have HS := hI (qsectors_any w h)
 unfold ErrSame at HR ⊢
 rw [hr, evs_zero] at HR
 rw [evs_some _ _ (by decide)]
 have i1 : ¬ sec < 0 := by omega
 have i2 : ¬ sec ≥ q.k := by omega
 have i3 : ¬ (len : Int) = 128 := by omega
 have i4 : ((len : Int) != 128) = true := by simpa using i3
 have i5 : ((len : Int) == 128) = false := by simpa using i3
 clear hx hy
 clear h hr
 go_enter Tryz.func83, Tryz.ntmps83
 go_wp2_with (first
  | (go_at_call 104; refine HR.out.mono ?_; rintro e w' ⟨rfl, rfl⟩)
  | (go_at_call 28; refine HS.out.mono ?_; rintro e w' ⟨rfl, rfl⟩)
  | (go_at_call 32; refine (wrap_some _ _ _ _ _).mono ?_; rintro e w' ⟨rfl, rfl⟩))
 exact bodyPost_ret (v := wrapV opQWrite i (errV 1)) (by simp [results, Tryz.results83, go_sem, wrapV, errV, opQWrite]) rfl ⟨rfl, rfl⟩
theorem qwrite_last (w : World) (h : RackIn lo w c q) (i sec : Int) (a : Option Addr) (len cap : Nat) (hr : q.ready i = 0) (hf : q.fits sec len) (h0 : q.rem = 0) :
  Calls Tryz.prog 83 #[.pointer (some ⟨c.r, 0, none⟩), .int .i64 i, .int .i64 sec, .slice a len cap] w (NextR lo c q.n q.spent (evs opQWrite 5 i) w) := by
 have HR := hI (qready_any w h opQWrite i)
 have HS := hI (qsectors_any w h)
 have HP := hI (qspend_any w h)
 unfold ErrSame at HR
 rw [hr, evs_zero] at HR
 rw [decide_eq_false (show ¬ q.rem ≠ 0 from fun e => e h0)] at HP
 rw [evs_some _ _ (by decide)]
 obtain ⟨f1, f2, rfl⟩ := hf
 obtain ⟨m, rfl⟩ := Int.eq_ofNat_of_zero_le f1
 have i1 : ¬ (m : Int) < 0 := by omega
 have i2 : ¬ q.k ≤ m := by omega
 have i3 : decide (q.k ≤ m) = false := by simpa using i2
 clear h hr f1 f2 h0
 go_enter Tryz.func83, Tryz.ntmps83
 go_wp2_with (first
  | (go_at_call 104; refine HR.out.mono ?_; rintro e w' ⟨rfl, rfl⟩)
  | (go_at_call 28; refine HS.out.mono ?_; rintro e w' ⟨rfl, rfl⟩)
  | (go_at_call 105; refine HP.out.mono ?_; rintro e w1 ⟨⟨rfl, hR1, hC1⟩, _, _⟩)
  | (go_at_call 32; refine (wrap_some _ _ _ _ _).mono ?_; rintro e w' ⟨rfl, rfl⟩))
 exact bodyPost_ret (v := wrapV opQWrite i (errV 5)) (by simp [results, Tryz.results83, go_sem, wrapV, errV, opQWrite]) rfl ⟨rfl, hR1, hC1⟩
theorem qwrite_goes (w : World) (h : RackIn lo w c q) (k m : Nat) (v : Value) (l : List UInt8) (hv : SlB w.heap.size w v l) (hr : q.ready (k : Int) = 0) (hm : m < q.k) (hl : l.length = 128) (h0 : ¬ q.rem = 0) :
  Calls Tryz.prog 83 #[.pointer (some ⟨c.r, 0, none⟩), .int .i64 (k : Int), .int .i64 (m : Int), v] w (NextR lo c q.n (q.spent.turn k ((q.s k).write m l)) .nilIface w) := by
 have HR := hI (qready_any w h opQWrite k)
 have HS := hI (qsectors_any w h)
 have HP := hI (qspend_any w h)
 unfold ErrSame at HR
 rw [hr, evs_zero] at HR
 rw [decide_eq_true (show q.rem ≠ 0 from h0)] at HP
 obtain ⟨k', e, hk, _, hdead⟩ := ready_yes hr
 obtain rfl : k = k' := by omega
 clear e
 obtain ⟨a, cap, rfl, _⟩ := hv.len
 rw [hl]
 rw [hl] at hv
 have i1 : ¬ (m : Int) < 0 := by omega
 have i2 : ¬ q.k ≤ m := by omega
 have i3 : decide (q.k ≤ m) = false := by simpa using i2
 have HQ := hI h
 have HV := hI hv
 have HF3 := hI hl
 have HDD := hI hdead
 clear h hr hv hl h0 hdead
 go_enter Tryz.func83, Tryz.ntmps83
 go_wp2_with (first
  | (go_at_call 104; refine HR.out.mono ?_; rintro e w' ⟨rfl, rfl⟩)
  | (go_at_call 28; refine HS.out.mono ?_; rintro e w' ⟨rfl, rfl⟩)
  | fail)
 refine HP.out.mono ?_
 rintro e w1 ⟨⟨rfl, hR1, hC1⟩, hsz, hoth⟩
 have hn1 : q.spent.n = q.n := spent_n q
 have hs1 := spent_s q
 have hk1 := spent_k q
 have c0 := hR1.c0
 have c1 := hR1.at_ (i := k) (by omega)
 have hD1 := hR1.disk k (by omega)
 rw [hs1] at hD1
 have hok := hR1.ok.k k (by omega)
 rw [hs1, hk1] at hok
 have HW := hI (write_yes w1 hD1 HDD.out m (.slice a 128 cap) l (by omega) (HV.out.spent HQ.out hoth) HF3.out)
 have HR1 := hI hR1
 have HC1 := hI hC1
 have HN := hI hok
 rw [hn1] at c0
 have j1 : (k : Int) < q.n := by omega
 have j2 : (0 : Int) ≤ k := by omega
 have HH := hI (show k < q.spent.n ∧ q.spent.k = q.k ∧ q.spent.n = q.n from ⟨by omega, hk1, hn1⟩)
 clear hR1 hC1 hD1 hok hsz hoth hn1 hs1 hk1
 go_wp2_with (first
  | (go_at_call 106; refine HW.out.mono ?_; rintro e w2 ⟨rfl, hD2, hC2⟩)
  | (go_at_call 32; refine (wrap_nil _ _ _).mono ?_; rintro e w' ⟨rfl, rfl⟩))
 go_ret
 exact ⟨rfl, HR1.out.turned HH.out.1 (by rw [HH.out.2.1]; exact HN.out) hD2 hC2, HC1.out.trans (RC.of_chg hC2 (by have := HH.out; omega))⟩
theorem qwrite_any (w : World) (h : RackIn lo w c q) (i sec : Int) (v : Value) (l : List UInt8) (hv : SlB w.heap.size w v l) :
  Calls Tryz.prog 83 #[.pointer (some ⟨c.r, 0, none⟩), .int .i64 i, .int .i64 sec, v] w (NextR lo c q.n (q.write i sec l) (evs opQWrite (q.wcode i sec l.length) i) w) := by
 by_cases hr : q.ready i = 0
 ·by_cases hf : q.fits sec l.length
  ·by_cases h0 : q.rem = 0
   ·obtain ⟨e1, e2⟩ := write_last (l := l) hr hf h0
    rw [e1, e2]; obtain ⟨a, cap, rfl, _⟩ := hv.len; exact qwrite_last w h i sec a _ cap hr hf h0
   ·obtain ⟨e1, e2⟩ := write_goes (l := l) hr hf h0
    rw [e1, e2, evs_zero]; obtain ⟨k, rfl, _⟩ := ready_yes hr; obtain ⟨m, rfl⟩ := Int.eq_ofNat_of_zero_le hf.1; exact qwrite_goes w h k m v l hv hr (by have := hf.2.1; omega) hf.2.2 h0
  ·obtain ⟨e1, e2⟩ := write_odd (l := l) hr hf
   rw [e1, e2]; obtain ⟨a, cap, rfl, _⟩ := hv.len
   have hE : Calls Tryz.prog 83 #[.pointer (some ⟨c.r, 0, none⟩), .int .i64 i, .int .i64 sec, .slice a l.length cap] w (ErrSame opQWrite 1 i w) := by
    by_cases h1 : sec < 0
    ·exact qwrite_lo w h i sec a _ cap hr h1
    ·by_cases h2 : sec ≥ q.k
     ·exact qwrite_hi w h i sec a _ cap hr (by omega) h2
     ·exact qwrite_len w h i sec a _ cap hr (by omega) (by omega) (fun e => hf ⟨by omega, by omega, e⟩)
   refine hE.mono ?_; rintro e w' ⟨rfl, rfl⟩; exact ⟨rfl, h, RC.refl _ _ _⟩
 ·obtain ⟨e1, e2⟩ := write_wait (sec := sec) (l := l) hr
  rw [e1, e2]; refine (qwrite_wait w h i sec v hr).mono ?_; rintro e w' ⟨rfl, rfl⟩; exact ⟨rfl, h, RC.refl _ _ _⟩
theorem flush_wait (h : ¬ q.ready i = 0) : q.flush i = q ∧ q.fcode i = q.ready i := ⟨if_neg h, if_neg h⟩
theorem flush_last (h : q.ready i = 0) (h0 : q.rem = 0) : q.flush i = q.spent ∧ q.fcode i = 5 :=
 ⟨by unfold Rk.flush; rw [if_pos h, if_pos h0], by unfold Rk.fcode; rw [if_pos h, if_pos h0]⟩
theorem flush_goes (h : q.ready i = 0) (h0 : ¬ q.rem = 0) : q.flush i = q.spent.turn i.toNat (q.s i.toNat).flush ∧ q.fcode i = 0 :=
 ⟨by unfold Rk.flush; rw [if_pos h, if_neg h0], by unfold Rk.fcode; rw [if_pos h, if_neg h0]⟩
theorem qflush_wait (w : World) (h : RackIn lo w c q) (i : Int) (hr : ¬ q.ready i = 0) :
  Calls Tryz.prog 84 #[.pointer (some ⟨c.r, 0, none⟩), .int .i64 i] w (ErrSame opQFlush (q.ready i) i w) := by
 have HR := hI (qready_any w h opQFlush i)
 unfold ErrSame at HR ⊢
 rw [evs_some _ _ hr] at HR ⊢
 clear h hr
 generalize q.ready i = rd at *
 unfold wrapV errV at HR
 go_enter Tryz.func84, Tryz.ntmps84
 go_wp2_with (go_at_call 104; refine HR.out.mono ?_; rintro e w' ⟨rfl, rfl⟩)
 exact bodyPost_ret (v := wrapV opQFlush i (errV rd)) (by simp [results, Tryz.results84, go_sem, wrapV, errV, opQFlush]) rfl ⟨rfl, rfl⟩
theorem qflush_last (w : World) (h : RackIn lo w c q) (i : Int) (hr : q.ready i = 0) (h0 : q.rem = 0) :
  Calls Tryz.prog 84 #[.pointer (some ⟨c.r, 0, none⟩), .int .i64 i] w (NextR lo c q.n q.spent (evs opQFlush 5 i) w) := by
 have HR := hI (qready_any w h opQFlush i)
 have HP := hI (qspend_any w h)
 unfold ErrSame at HR
 rw [hr, evs_zero] at HR
 rw [decide_eq_false (show ¬ q.rem ≠ 0 from fun e => e h0)] at HP
 rw [evs_some _ _ (by decide)]
 clear h hr h0
 go_enter Tryz.func84, Tryz.ntmps84
 go_wp2_with (first
  | (go_at_call 104; refine HR.out.mono ?_; rintro e w' ⟨rfl, rfl⟩)
  | (go_at_call 105; refine HP.out.mono ?_; rintro e w1 ⟨⟨rfl, hR1, hC1⟩, _, _⟩)
  | (go_at_call 32; refine (wrap_some _ _ _ _ _).mono ?_; rintro e w' ⟨rfl, rfl⟩))
 exact bodyPost_ret (v := wrapV opQFlush i (errV 5)) (by simp [results, Tryz.results84, go_sem, wrapV, errV, opQFlush]) rfl ⟨rfl, hR1, hC1⟩
theorem qflush_goes (w : World) (h : RackIn lo w c q) (k : Nat) (hr : q.ready (k : Int) = 0) (h0 : ¬ q.rem = 0) :
  Calls Tryz.prog 84 #[.pointer (some ⟨c.r, 0, none⟩), .int .i64 (k : Int)] w (NextR lo c q.n (q.spent.turn k (q.s k).flush) .nilIface w) := by
 have HR := hI (qready_any w h opQFlush k)
 have HP := hI (qspend_any w h)
 unfold ErrSame at HR
 rw [hr, evs_zero] at HR
 rw [decide_eq_true (show q.rem ≠ 0 from h0)] at HP
 obtain ⟨k', e, hk, _, hdead⟩ := ready_yes hr
 obtain rfl : k = k' := by omega
 clear e
 have HDD := hI hdead
 clear h hr h0 hdead
 go_enter Tryz.func84, Tryz.ntmps84
 go_wp2_with (first
  | (go_at_call 104; refine HR.out.mono ?_; rintro e w' ⟨rfl, rfl⟩)
  | fail)
 refine HP.out.mono ?_
 rintro e w1 ⟨⟨rfl, hR1, hC1⟩, _, _⟩
 have hn1 : q.spent.n = q.n := spent_n q
 have hs1 := spent_s q
 have hk1 := spent_k q
 have c0 := hR1.c0
 have c1 := hR1.at_ (i := k) (by omega)
 have hD1 := hR1.disk k (by omega)
 rw [hs1] at hD1
 have hok := hR1.ok.k k (by omega)
 rw [hs1, hk1] at hok
 have HW := hI (flush_yes w1 hD1 HDD.out)
 have HR1 := hI hR1
 have HC1 := hI hC1
 have HN := hI (show (q.s k).flush.n = q.k from (St.stores_n _ _).trans hok)
 rw [hn1] at c0
 have j1 : (k : Int) < q.n := by omega
 have j2 : (0 : Int) ≤ k := by omega
 have HH := hI (show k < q.spent.n ∧ q.spent.k = q.k ∧ q.spent.n = q.n from ⟨by omega, hk1, hn1⟩)
 clear hR1 hC1 hD1 hok hn1 hs1 hk1
 go_wp2_with (first
  | (go_at_call 107; refine HW.out.mono ?_; rintro e w2 ⟨rfl, hD2, hC2⟩)
  | (go_at_call 32; refine (wrap_nil _ _ _).mono ?_; rintro e w' ⟨rfl, rfl⟩))
 go_ret
 exact ⟨rfl, HR1.out.turned HH.out.1 (by rw [HH.out.2.1]; exact HN.out) hD2 hC2, HC1.out.trans (RC.of_chg hC2 (by have := HH.out; omega))⟩
theorem qflush_any (w : World) (h : RackIn lo w c q) (i : Int) :
  Calls Tryz.prog 84 #[.pointer (some ⟨c.r, 0, none⟩), .int .i64 i] w (NextR lo c q.n (q.flush i) (evs opQFlush (q.fcode i) i) w) := by
 by_cases hr : q.ready i = 0
 ·by_cases h0 : q.rem = 0
  ·obtain ⟨e1, e2⟩ := flush_last hr h0
   rw [e1, e2]; exact qflush_last w h i hr h0
  ·obtain ⟨e1, e2⟩ := flush_goes hr h0
   rw [e1, e2, evs_zero]; obtain ⟨k, rfl, _⟩ := ready_yes hr; exact qflush_goes w h k hr h0
 ·obtain ⟨e1, e2⟩ := flush_wait hr
  rw [e1, e2]; refine (qflush_wait w h i hr).mono ?_; rintro e w' ⟨rfl, rfl⟩; exact ⟨rfl, h, RC.refl _ _ _⟩
theorem info_dptr : (Tryz.prog.info? 70).map (fun i => (i.zero, i.size, i.bytes)) = some (some (.pointer none), 1, 8) := by kernel_rfl
theorem wpList_append_dptr (w : World) {ops : Array Oper} {rest : List Oper} {o : Oper} {a : Act} {Q : Exit → Act → World → Prop} (hgd : o.guard = none) (s x : Operand)
  (ho : o.op = .call { callee := .builtin .append, args := #[s, x], argTypes := #[67, 67] })
  (base : Nat) (v : Value) (n : Nat) (xs : List Value) (hsv : a.eval s = v) (hown : w.ownsRow base 70 1 v n xs)
  (b : Nat) (u : Value) (hx : a.eval x = .slice (some ⟨b, 0, none⟩) 1 1) (hb : w.cell? ⟨b, 0, none⟩ = some u) (hu : u.oneCell' = true) (h63 : n + 1 ≤ 100000) (hbase : base ≤ w.heap.size)
  (h : ∀ v' w', w'.ownsRow base 70 1 v' (n + 1) (xs ++ [u]) → Grew w v.ownBlock w' v'.ownBlock → wpList Tryz.prog ops Q rest (a.put o.dst v') w') : wpList Tryz.prog ops Q (o :: rest) a w := by
 obtain ⟨i0, hi0, hz⟩ := Option.map_eq_some_iff.1 info_dptr
 simp only [Prod.mk.injEq] at hz
 obtain ⟨hz0, hz1, hz2⟩ := hz
 have hsrc : Src Tryz.prog 1 67 (.slice (some ⟨b, 0, none⟩) 1 1) 1 [u] w := Src.ofSlice _ Tryz.underlying67 ⟨b, 0, none⟩ 1 1 [u] rfl (fun j y hy => by
  match j, hy with
  | 0, hy => injection hy with hy; subst hy; simpa [Addr.add] using hb
  | j + 1, hy => simp at hy) (fun y hy => by rw [List.mem_singleton.1 hy]; exact hu)
 exact wpList_append_src w hgd s x 67 67 ho base 70 i0 (.pointer none) 1 8 Tryz.underlying67 hi0 hz0 hz1 hz2 rfl v n xs hsv hown (.slice (some ⟨b, 0, none⟩) 1 1) 1 [u] hx hsrc (by unfold maxLen; omega) (by omega) hbase fun v' w' h1 h2 _ => h v' w' h1 h2
theorem grown_cellq (w : World) (g i : Nat) (u : Value) : w.grownBy (w.setCell ⟨g, i, none⟩ u) (some g) :=
 ⟨rfl, rfl, rfl, by simp, fun k _ hk => heap_setCell_other w ⟨g, i, none⟩ k u (fun e => hk (by rw [e]))⟩
variable {w2 wx w3 : World} {r r' : Option Nat}
theorem qcell_later {c i : Nat} {x : Value} (hb : Below w2.heap.size w2 wx) (hg : Grew wx r w3 r') (hl : c < w2.heap.size) (hr : r ≠ some c) (h : w2.cell? ⟨c, i, none⟩ = some x) : w3.cell? ⟨c, i, none⟩ = some x := by
 rw [hg.cell (a := ⟨c, i, none⟩) (Nat.lt_of_lt_of_le hl hb.size) (fun e => hr e.symm), hb.cell (p := ⟨c, i, none⟩) hl]; exact h
theorem qfrozen_later {c i : Nat} (hb : Below w2.heap.size w2 wx) (hg : Grew wx r w3 r') (hl : c < w2.heap.size) (hr : r ≠ some c) (h : w2.frozen? ⟨c, i, none⟩ = false) : w3.frozen? ⟨c, i, none⟩ = false := by
 rw [hg.frozen (a := ⟨c, i, none⟩) (Nat.lt_of_lt_of_le hl hb.size) (fun e => hr e.symm), hb.frozen (p := ⟨c, i, none⟩) hl]; exact h
variable {n : Nat} {xs : List Value}
theorem own_not {e g : Nat} {o : Obj} (h : w.ownsRow B e 1 v n xs) (hg : w.heap[g]? = some o) (ho : ∀ cur f, o ≠ .cells cur e f) : v.ownBlock ≠ some g := by
 rcases h.2 with ⟨rfl, _⟩ | ⟨g', cap, cur', rfl, _, hg', _⟩
 ·intro e; cases e
 ·intro e
  have e : g' = g := by
   have : (Value.slice (some ⟨g', 0, none⟩) n cap).ownBlock = some g' := rfl; rw [this] at e; injection e
  subst e; rw [hg] at hg'; injection hg' with hg'; exact ho _ _ hg'
variable {M : Nat}
theorem DiskIn.not {d S : Nat} {s : St} (h : DiskIn w d S M s) (ho : w.ownsRow B 70 1 v n xs) : v.ownBlock ≠ some d ∧ v.ownBlock ≠ some S ∧ v.ownBlock ≠ some M := by
 obtain ⟨es, k, hm⟩ := h.mapObj
 exact ⟨own_not ho h.top fun cur f e => by (injection e with _ e _; exact absurd e (by decide)), own_not ho h.secs fun cur f e => by (injection e with _ e _; exact absurd e (by decide)), own_not ho hm fun cur f e => by cases e⟩
def dptr (d : Nat → Nat) (j : Nat) : List Value := (List.range j).map fun i => .pointer (some ⟨d i, 0, none⟩)
theorem dptr_succ (d : Nat → Nat) (j : Nat) : dptr d (j + 1) = dptr d j ++ [.pointer (some ⟨d j, 0, none⟩)] := by simp [dptr, List.range_succ]
variable {j : Nat}
theorem dptr_congr {d e : Nat → Nat} (h : ∀ i, i < j → d i = e i) : dptr d j = dptr e j := by
 unfold dptr
 refine List.map_congr_left fun i hi => ?_
 rw [h i (List.mem_range.1 hi)]
structure NRk (w : World) (j k : Nat) (v : Value) (d S M : Nat → Nat) (w0 : World) : Prop where
 top : w.heap[w0.heap.size]? = some (.cells #[v, .bool false, .int .i64 (-1)] 69 (0, 0))
 own : w.ownsRow (w0.heap.size + 1) 70 1 v j (dptr d j)
 disk : ∀ i, i < j → DiskIn w (d i) (S i) (M i) (new k)
 lo : ∀ i, i < j → w0.heap.size ≤ d i ∧ w0.heap.size ≤ S i ∧ w0.heap.size ≤ M i
 inj : ∀ i i', i < j → i' < j → i ≠ i' → d i ≠ d i' ∧ S i ≠ S i' ∧ M i ≠ M i'
 below : Below w0.heap.size w0 w
variable {w0 : World} {k : Nat}
theorem NRk.lt {d S M : Nat → Nat} (h : NRk w j k v d S M w0) : w0.heap.size < w.heap.size := (Array.getElem?_eq_some_iff.1 h.top).1
theorem NRk.cells {d S M : Nat → Nat} (h : NRk w j k v d S M w0) : w.cell? ⟨w0.heap.size, 0, none⟩ = some v ∧ w.frozen? ⟨w0.heap.size, 0, none⟩ = false := by
 refine ⟨?_, frozen_of_row _ _ 0 _ _ h.top⟩
 rw [cell_of_row _ _ 0 _ _ (0, 0) h.top]; rfl
theorem NRk.off {d S M : Nat → Nat} (h : NRk w j k v d S M w0) : v.ownBlock ≠ some w0.heap.size := fun e => by have := (own_block h.own e).1; omega
variable {d' S' M' : Nat} {v' : Value}
theorem NRk.next {wr : World} {d S M : Nat → Nat} (h : NRk wr j k v d S M w0) (hb : Below wr.heap.size wr w2) (hD : DiskIn w2 d' S' M' (new k)) (h1 : wr.heap.size ≤ d') (h2 : wr.heap.size ≤ S') (h3 : wr.heap.size ≤ M')
  (hx : Below w2.heap.size w2 wx) (hown : w3.ownsRow (w0.heap.size + 1) 70 1 v' (j + 1) (dptr d j ++ [.pointer (some ⟨d', 0, none⟩)])) (hg : Grew wx v.ownBlock w3 v'.ownBlock) :
  NRk (w3.setCell ⟨w0.heap.size, 0, none⟩ v') (j + 1) k v' (upd d j d') (upd S j S') (upd M j M') w0 := by
 have hlt := h.lt
 have hoff := h.off
 have hbx : Below wr.heap.size wr wx := hb.trans (hx.mono hb.size)
 have hownx := own_below h.own hbx
 have oth : ∀ k, k ≠ w0.heap.size → (w3.setCell ⟨w0.heap.size, 0, none⟩ v').heap[k]? = w3.heap[k]? := fun k hk => heap_setCell_other _ ⟨w0.heap.size, 0, none⟩ k _ hk
 have disk : ∀ {a b c : Nat}, DiskIn wx a b c (new k) → DiskIn (w3.setCell ⟨w0.heap.size, 0, none⟩ v') a b c (new k) := fun {a b c} hq => by
  obtain ⟨n1, n2, n3⟩ := hq.not hownx; obtain ⟨l1, l2, l3⟩ := hq.lt; have ht := (hbx.block _ hlt).trans h.top; obtain ⟨es, kk, hm⟩ := hq.mapObj; exact hq.keep ((oth _ (cells_ne hq.top ht (by decide))).trans (hg.by_.block _ l1 (fun e => n1 e.symm))) ((oth _ (cells_ne hq.secs ht (by decide))).trans (hg.by_.block _ l2 (fun e => n2 e.symm))) ((oth _ (cells_map_ne ht hm).symm).trans (hg.by_.block _ l3 (fun e => n3 e.symm)))
 have up : ∀ {f : Nat → Nat} {x i : Nat}, i < j → upd f j x i = f i := fun {f x i} hi => upd_other _ _ (by omega)
 refine ⟨heap_setCell_same w3 _ 0 _ _ v' ((hg.by_.block _ (Nat.lt_of_lt_of_le hlt hbx.size) (fun e => hoff e.symm)).trans ((hbx.block _ hlt).trans h.top)), ?_, fun i hi => ?_, fun i hi => ?_, fun i i' hi hi' hne => ?_, ?_⟩
 ·rw [dptr_succ, upd_same, dptr_congr (e := d) fun i hi => up hi]
  exact World.ownsRow.kept hown (grown_cellq w3 _ 0 v') (Or.inr fun e => by have := (own_block hown e).1; omega)
 ·by_cases e : i = j
  ·subst e; rw [upd_same, upd_same, upd_same]; exact disk (hD.below hx)
  ·rw [upd_other _ _ e, upd_other _ _ e, upd_other _ _ e]; exact disk (((h.disk i (by omega)).below hb).below hx)
 ·by_cases e : i = j
  ·subst e; rw [upd_same, upd_same, upd_same]; omega
  ·rw [upd_other _ _ e, upd_other _ _ e, upd_other _ _ e]; exact h.lo i (by omega)
 ·by_cases e : i = j
  ·subst e
   have hl := (h.disk i' (by omega)).lt; rw [upd_same, upd_same, upd_same, upd_other _ _ hne.symm, upd_other _ _ hne.symm, upd_other _ _ hne.symm]; omega
  ·by_cases e' : i' = j
   ·subst e'
    have hl := (h.disk i (by omega)).lt; rw [upd_same, upd_same, upd_same, upd_other _ _ e, upd_other _ _ e, upd_other _ _ e]; omega
   ·rw [upd_other _ _ e, upd_other _ _ e, upd_other _ _ e, upd_other _ _ e', upd_other _ _ e', upd_other _ _ e']; exact h.inj i i' (by omega) (by omega) hne
 ·refine Below.setCell (p := ⟨w0.heap.size, 0, none⟩) ?_ (Nat.le_refl _) _
  exact (h.below.trans (hbx.mono h.below.size)).trans (hg.below (Nat.le_trans h.below.size hbx.size) fun k hk => by have := (own_block h.own hk).1; omega)
def NewR (n k : Nat) (w : World) (e : Ending) (w' : World) : Prop :=
 ∃ c : Lc, e = .returned (.tuple #[.pointer (some ⟨c.r, 0, none⟩), .nilIface]) ∧ RackIn w.heap.size w' c (newRk n k) ∧ Below w.heap.size w w'
theorem NRk.made {d S M : Nat → Nat} (h : NRk w n k v d S M w0) (h1 : 1 ≤ n) (h2 : n ≤ 8) (h3 : 1 ≤ k) (h4 : k ≤ 128) : NewR n k w0 (.returned (.tuple #[.pointer (some ⟨w0.heap.size, 0, none⟩), .nilIface])) w := by
 rcases h.own.2 with ⟨_, h0⟩ | ⟨P, cap, cur, rfl, hB, hg, hle, _, _, ht⟩
 ·omega
 ·refine ⟨⟨w0.heap.size, P, cap, d, S, M⟩, rfl, ⟨newRk_ok h1 h2 h3 h4, Nat.le_refl _, by show _ ≤ P; omega, h.lo, hle, h.top, ⟨cur, hg, fun i hi => ?_⟩, h.disk, h.inj⟩, h.below⟩
  have hi : i < n := hi; rw [Nat.mul_one] at ht
  have hu : (dptr d n)[i]? = some (.pointer (some ⟨d i, 0, none⟩)) := by simp [dptr, hi]
  show cur[i]? = some (.pointer (some ⟨d i, 0, none⟩))
  rw [← hu, ← ht, List.getElem?_take, if_pos hi, Array.getElem?_toList]
theorem nrk_start (w : World) (k : Nat) : NRk (w.alloc (.cells #[.slice none 0 0, .bool false, .int .i64 (-1)] 69)) 0 k (.slice none 0 0) (fun _ => 0) (fun _ => 0) (fun _ => 0) w :=
 ⟨heap_alloc_new w _, ⟨rfl, Or.inl ⟨rfl, rfl⟩⟩, fun _ h => absurd h (by omega), fun _ h => absurd h (by omega), fun _ _ h => absurd h (by omega), one_below w _⟩
def RelQN (n k : Nat) (w : World) (i : Value) (wr : World) : Prop := ∃ (j : Nat) (v : Value) (d S M : Nat → Nat), j ≤ n ∧ i = .int .i64 j ∧ NRk wr j k v d S M w
theorem relQN_next {wr : World} {d S M : Nat → Nat} (h : NRk wr j k v d S M w0) (hj : j < n) (hb : Below wr.heap.size wr w2) (hD : DiskIn w2 d' S' M' (new k)) (h1 : wr.heap.size ≤ d') (h2 : wr.heap.size ≤ S') (h3 : wr.heap.size ≤ M')
  (hx : Below w2.heap.size w2 wx) (hown : w3.ownsRow (w0.heap.size + 1) 70 1 v' (j + 1) (dptr d j ++ [.pointer (some ⟨d', 0, none⟩)])) (hg : Grew wx v.ownBlock w3 v'.ownBlock) : RelQN n k w0 (.int .i64 ((j : Int) + 1)) (w3.setCell ⟨w0.heap.size, 0, none⟩ v') :=
 ⟨j + 1, v', _, _, _, by omega, by go_num, h.next hb hD h1 h2 h3 hx hown hg⟩
theorem qnew_yes (n k : Nat) (w : World) (h1 : 1 ≤ n) (h2 : n ≤ 8) (h3 : 1 ≤ k) (h4 : k ≤ 128) : Calls Tryz.prog 8 #[.int .i64 (n : Int), .int .i64 (k : Int)] w (NewR n k w) := by
 have HNS := hI (nrk_start w k)
 have i1 : ¬ (n : Int) < 1 := by omega
 have i2 : ¬ 8 < n := by omega
 go_enter Tryz.func8, Tryz.ntmps8
 go_wp2_with fail
 go_loopw [21] (fun c wr => RelQN n k w c wr) (fun c _ => n - (intOf c).toNat)
 case atStart => exact ⟨0, _, _, _, _, Nat.zero_le _, rfl, HNS.out⟩
 case round =>
  obtain ⟨j, v, d, S, M, hj, rfl, hr3⟩ := hrel
  by_cases hlt : j < n
  ·have HR3 := hI hr3
   clear hr3; go_wp2_with fail; refine (new_yes k wr h3 h4).mono ?_; rintro e w2 ⟨d', S', M', rfl, hD, e1, e2, e3, hb⟩; have HE := hI (show wr.heap.size ≤ d' ∧ wr.heap.size ≤ S' ∧ wr.heap.size ≤ M' from ⟨e1, e2, e3⟩); have HD := hI hD; have HB := hI hb; obtain ⟨c1, c3⟩ := HR3.out.cells; have hcl0 := HR3.out.lt; have c1 : w2.cell? ⟨w.heap.size, 0, none⟩ = some v := (hb.cell (p := ⟨w.heap.size, 0, none⟩) hcl0).trans c1; have c3 : w2.frozen? ⟨w.heap.size, 0, none⟩ = false := (hb.frozen (p := ⟨w.heap.size, 0, none⟩) hcl0).trans c3; have hcl : w.heap.size < w2.heap.size := Nat.lt_of_lt_of_le hcl0 hb.size; have HNE := hI (show v.ownBlock ≠ some w.heap.size from HR3.out.off); have HO := hI (own_below HR3.out.own hb); clear hD e1 e2 e3 hb hcl0; go_wp2_with (at_builtin; refine wpList_append_dptr _ rfl (.tmp 37) (.tmp 39) rfl (w.heap.size + 1) _ _ _ rfl (own_below HO.out (one_below _ _)) w2.heap.size (.pointer (some ⟨d', 0, none⟩)) rfl (by simp) rfl (by omega) (by simp; omega) ?_; intro v' w3 hown3 hg3; have c1d := qcell_later (one_below _ _) hg3 hcl HNE.out c1; have c3d := qfrozen_later (one_below _ _) hg3 hcl HNE.out c3; have HO3 := hI hown3; have HG3 := hI hg3; obtain ⟨gv, cv, rfl, _⟩ := own_slice hown3; clear hown3 hg3)
   go_roundw
   case rel => exact relQN_next HR3.out hlt HB.out HD.out HE.out.1 HE.out.2.1 HE.out.2.2 (one_below _ _) HO3.out HG3.out
   case measure => simp [intOf]; omega
  ·obtain rfl : j = n := by omega
   have HR3 := hI hr3; clear hr3; go_wp2_with fail; exact bodyPost_ret (v := .tuple #[.pointer (some ⟨w.heap.size, 0, none⟩), .nilIface]) (by simp [results, Tryz.results8, go_sem]) rfl (HR3.out.made h1 h2 h3 h4)
def SlU (B : Nat) (w : World) (v : Value) (l : List Nat) : Prop :=
 (l = [] ∧ ∃ a cap, v = .slice a 0 cap) ∨ ∃ b o cap, v = .slice (some ⟨b, o, none⟩) l.length cap ∧ b < B ∧ 0 < l.length ∧ ∀ x, x < l.length → w.cell? ⟨b, o + x, none⟩ = some (.int .u64 ((l.getD x 0 : Nat) : Int))
theorem SlU.len {l : List Nat} (h : SlU B w v l) : ∃ a cap, v = .slice a l.length cap := by
 rcases h with ⟨rfl, a, cap, h⟩ | ⟨b, o, cap, h1, _⟩
 ·exact ⟨a, cap, h⟩
 ·exact ⟨_, cap, h1⟩
theorem SlU.below {l : List Nat} (h : SlU B w v l) (hb : Below B w w') : SlU B w' v l := by
 rcases h with h | ⟨b, o, cap, h1, h2, h0, h3⟩
 ·exact Or.inl h
 ·exact Or.inr ⟨b, o, cap, h1, h2, h0, fun x hx => by rw [hb.cell (p := ⟨b, o + x, none⟩) h2]; exact h3 x hx⟩
theorem SlU.wider {B' : Nat} {l : List Nat} (h : SlU B w v l) (hB : B ≤ B') : SlU B' w v l := by
 rcases h with h | ⟨b, o, cap, h1, h2, h3⟩
 ·exact Or.inl h
 ·exact Or.inr ⟨b, o, cap, h1, by omega, h3⟩
theorem map_nocell {i : Nat} {es : Array MapEntry} (h : w.heap[M]? = some (.map es k)) : w.cell? ⟨M, i, none⟩ = none := by
 unfold World.cell?; rw [h]
theorem sec_cells {st : Nat → Sec} {rot : Nat → Bool} (h : v ∈ secsV n st rot) (x : Int) : v ≠ .int .u64 x := by
 obtain ⟨i, _, hv⟩ := List.mem_flatMap.1 h
 rcases List.mem_append.1 hv with hv | hv
 ·obtain ⟨c, _, rfl⟩ := List.mem_map.1 hv; intro e; cases e
 ·rw [List.mem_singleton.1 hv]; intro e; cases e
theorem RackIn.off64 (h : RackIn lo w c q) {b o : Nat} {x : Int} (hc : w.cell? ⟨b, o, none⟩ = some (.int .u64 x)) : b ≠ c.r ∧ ∀ i, i < q.n → b ≠ c.d i ∧ b ≠ c.S i ∧ b ≠ c.M i := by
 refine ⟨fun e => ?_, fun i hi => ⟨fun e => ?_, fun e => ?_, fun e => ?_⟩⟩
 ·subst e
  rw [cell_of_row w c.r o _ _ _ h.top] at hc
  match o with
  | 0 => cases hc
  | 1 => cases hc
  | 2 => cases hc
  | o + 3 => simp at hc
 ·subst e
  rw [cell_of_row w _ o _ _ _ (h.disk i hi).top] at hc
  match o with
  | 0 => cases hc
  | 1 => cases hc
  | 2 => cases hc
  | o + 3 => simp at hc
 ·subst e
  rw [cell_of_row w _ o _ _ _ (h.disk i hi).secs, List.getElem?_toArray] at hc; exact sec_cells (List.mem_of_getElem? hc) x rfl
 ·subst e
  obtain ⟨es, k, hm⟩ := (h.disk i hi).mapObj; rw [map_nocell hm] at hc; cases hc
theorem SlU.rc {l : List Nat} (h : SlU B w v l) (hr : RackIn lo w c q) (hc : RC c q.n w w') (hB : B ≤ w.heap.size) : SlU B w' v l := by
 rcases h with h | ⟨b, o, cap, h1, h2, h0, h3⟩
 ·exact Or.inl h
 ·obtain ⟨e1, e2⟩ := hr.off64 (h3 0 h0)
  exact Or.inr ⟨b, o, cap, h1, h2, h0, fun x hx => (World.cell?_of_block (a := ⟨b, o + x, none⟩) (hc.block b (by omega) e1 e2)).trans (h3 x hx)⟩
theorem SlU.num {l : List Nat} (h : SlU B w v l) {k : Nat} (hk : k < l.length) : ∃ b o cap, v = .slice (some ⟨b, o, none⟩) l.length cap ∧ w.cell? ⟨b, o + k, none⟩ = some (.int .u64 ((l.getD k 0 : Nat) : Int)) := by
 rcases h with ⟨rfl, _⟩ | ⟨b, o, cap, h1, _, _, h3⟩
 ·simp at hk
 ·exact ⟨b, o, cap, h1, h3 k hk⟩
theorem crashed_zero (q : Rk) (bits : Nat → Nat) : q.crashed bits 0 = q := by
 unfold Rk.crashed
 have : (fun i => if i < 0 then (q.s i).crash (bits i) else q.s i) = q.s := by funext i; rw [if_neg (by omega)]
 rw [this]
theorem crashed_succ (q : Rk) (bits : Nat → Nat) (m : Nat) : q.crashed bits (m + 1) = (q.crashed bits m).turn m (((q.crashed bits m).s m).crash (bits m)) := by
 unfold Rk.crashed Rk.turn
 have : (fun i => if i < m + 1 then (q.s i).crash (bits i) else q.s i) = upd (fun i => if i < m then (q.s i).crash (bits i) else q.s i) m ((if m < m then (q.s m).crash (bits m) else q.s m).crash (bits m)) := by
  funext i
  by_cases e : i = m
  ·subst e; rw [upd_same, if_pos (by omega), if_neg (by omega)]
  ·rw [upd_other _ _ e]
   by_cases h : i < m
   ·rw [if_pos h, if_pos (by omega)]
   ·rw [if_neg h, if_neg (by omega)]
 rw [this]
theorem crash_nn (s : St) (bits : Nat) : (s.crash bits).n = s.n := St.stores_n _ _
def RelQB (lo : Nat) (c : Lc) (q : Rk) (bits : Nat → Nat) (w0 : World) (i : Value) (wr : World) : Prop :=
 ∃ m : Nat, m ≤ q.n ∧ i = .int .i64 m ∧ RackIn lo wr c (q.crashed bits m) ∧ RC c q.n w0 wr
theorem qboot_any (w : World) (h : RackIn lo w c q) (v : Value) (l : List Nat) (hv : SlU B w v l) (hB : B ≤ w.heap.size) (hl : ∀ x, x < l.length → l.getD x 0 < 18446744073709551616) :
  Calls Tryz.prog 56 #[.pointer (some ⟨c.r, 0, none⟩), v] w (NextR lo c q.n (q.boot fun i => l.getD i 0) (.tuple #[]) w) := by
 have c0 := h.c0
 have hn8 := h.ok.n8
 have HQ := hI h
 have HV := hI hv
 have HL := hI hl
 obtain ⟨a, cap, rfl⟩ := hv.len
 clear h hv hl
 go_enter Tryz.func56, Tryz.ntmps56
 go_wp2_with fail
 go_loopw [12] (fun i wr => RelQB lo c q (fun i => l.getD i 0) w i wr) (fun i _ => q.n - (intOf i).toNat)
 case atStart => exact ⟨0, Nat.zero_le _, rfl, by rw [crashed_zero]; exact HQ.out, RC.refl _ _ _⟩
 case round =>
  obtain ⟨m, hm, rfl, hR, hC⟩ := hrel; have HR := hI hR; have HC := hI hC; have c1 := hR.c1; have c2 := hR.c2; have f1 := hR.fz 1; have f2 := hR.fz 2
  by_cases hlt : m < q.n
  ·have ca := hR.at_ hlt
   clear hR hC c1 c2 f1 f2
   have i1 : (m : Int) < q.n := by omega
   have i2 : (0 : Int) ≤ m := by omega
   have crash : ∀ x : Nat, x < 18446744073709551616 → x = l.getD m 0 → Calls Tryz.prog 81 #[.pointer (some ⟨c.d m, 0, none⟩), .int .u64 (x : Int)] wr (fun e w' => e = .returned (.tuple #[]) ∧ RelQB lo c q (fun i => l.getD i 0) w (.int .i64 ((m : Int) + 1)) w') := fun x hx hxe => by
    refine (crash_any wr (HR.out.disk m hlt) x hx).mono ?_; rintro e w' ⟨rfl, hD, hG⟩; refine ⟨rfl, m + 1, by omega, by go_num, ?_, HC.out.trans (RC.of_chg hG hlt)⟩; rw [crashed_succ]; subst hxe; exact HR.out.turned hlt ((crash_nn _ _).trans (HR.out.ok.k m hlt)) hD hG
   have HCR := hI crash; clear crash
   by_cases hb : m < l.length
   ·have hb' : (m : Int) < l.length := by omega
    obtain ⟨b, o, cap', e, cb⟩ := (HV.out.rc HQ.out HC.out hB).num hb; injection e with e _ e2; subst e e2; have HX := hI (HCR.out (l.getD m 0) (HL.out m hb) rfl); generalize l.getD m 0 = x at *; go_wp2_with (go_at_call 81; refine HX.out.mono ?_; rintro e w2 ⟨rfl, hrel⟩)
    go_roundw
    case rel => exact hrel
    case measure => simp [intOf]; omega
   ·have HX := hI (HCR.out 0 (by omega) (by simp [List.getD]; rw [List.getElem?_eq_none (by omega)]; rfl))
    go_wp2_with (go_at_call 81; refine HX.out.mono ?_; rintro e w2 ⟨rfl, hrel⟩)
    go_roundw
    case rel => exact hrel
    case measure => simp [intOf]; omega
  ·obtain rfl : m = q.n := by omega
   have H1 := hI (hR.setOff false); have H2 := hI ((hR.setOff false).setRem (-1) (by omega) (by omega)); have d2 := H1.out.c2; have g2 := H1.out.fz 2; clear hR hC
   go_wp2
   go_end0; exact ⟨rfl, H2.out, (HC.out.trans (RC.set _ _ _ _ _)).trans (RC.set _ _ _ _ _)⟩
end Go.Proofs.YtilljaneegbhlaaGreatDoor
namespace Go.Proofs.YtilljaneegbhlaaGreatDoor
open Go.RowKit Go.Deep Dk Qk Go.Maps Hf
set_option maxHeartbeats 4000000
set_option maxRecDepth 100000
structure QS (w0 : World) (c : Lc) (q : Rk) (w : World) : Prop where
 rack : RackIn w0.heap.size w c q
 base : Below w0.heap.size w0 w
variable {w0 w : World} {c : Lc} {q : Rk}
theorem QS.le (h : QS w0 c q w) : w0.heap.size ≤ w.heap.size := h.base.size
variable {w' : World}
theorem QS.below (h : QS w0 c q w) (hb : Below w.heap.size w w') : QS w0 c q w' := ⟨h.rack.below hb, bthen h.base hb⟩
variable {q' : Rk}
theorem QS.next (h : QS w0 c q w) (hr : RackIn w0.heap.size w' c q') (hc : RC c q.n w w') : QS w0 c q' w' := ⟨hr, hc.below h.rack h.base h.le⟩
def QN (w0 : World) (c : Lc) (n : Nat) (q' : Rk) (v : Value) (w : World) (e : Ending) (w' : World) : Prop := e = .returned v ∧ QS w0 c q' w' ∧ RC c n w w'
theorem QS.of {v : Value} {f : Nat} {args : Array Value} (h : QS w0 c q w) (hc : Calls Tryz.prog f args w (NextR w0.heap.size c q.n q' v w)) : Calls Tryz.prog f args w (QN w0 c q.n q' v w) :=
 hc.mono fun _ _ ⟨h1, h2, h3⟩ => ⟨h1, h.next h2 h3, h3⟩
theorem QS.boot (h : QS w0 c q w) (v : Value) (l : List Nat) (hv : SlU w.heap.size w v l) (hl : ∀ x, x < l.length → l.getD x 0 < 18446744073709551616) :
  Calls Tryz.prog 56 #[.pointer (some ⟨c.r, 0, none⟩), v] w (QN w0 c q.n (q.boot fun i => l.getD i 0) (.tuple #[]) w) := h.of (qboot_any w h.rack v l hv (Nat.le_refl _) hl)
def QNew (w0 : World) (n k : Nat) (e : Ending) (w' : World) : Prop := ∃ c : Lc, e = .returned (.tuple #[.pointer (some ⟨c.r, 0, none⟩), .nilIface]) ∧ QS w0 c (newRk n k) w'
theorem qs_new (n k : Nat) (w : World) (h1 : 1 ≤ n) (h2 : n ≤ 8) (h3 : 1 ≤ k) (h4 : k ≤ 128) : Calls Tryz.prog 8 #[.int .i64 (n : Int), .int .i64 (k : Int)] w (QNew w n k) :=
 (qnew_yes n k w h1 h2 h3 h4).mono fun _ _ ⟨c, h1, h2, h3⟩ => ⟨c, h1, h2, h3⟩
def Far (B : Nat) (c : Lc) (n : Nat) : Prop := c.r < B ∧ ∀ i, i < n → c.d i < B ∧ c.S i < B ∧ c.M i < B
theorem RackIn.far {lo : Nat} (h : RackIn lo w c q) : Far w.heap.size c q.n := ⟨h.lt.1, fun i hi => (h.disk i hi).lt⟩
theorem Far.mono {B B' : Nat} {n : Nat} (h : Far B c n) (hB : B ≤ B') : Far B' c n := ⟨Nat.lt_of_lt_of_le h.1 hB, fun i hi => ⟨Nat.lt_of_lt_of_le (h.2 i hi).1 hB, Nat.lt_of_lt_of_le (h.2 i hi).2.1 hB, Nat.lt_of_lt_of_le (h.2 i hi).2.2 hB⟩⟩
theorem ready_ok {i : Nat} (h1 : i < q.n) (h2 : q.off = false) (h3 : (q.s i).dead = false) : q.ready (i : Int) = 0 := by
 unfold Rk.ready
 rw [if_pos (show q.has (i : Int) from ⟨by omega, by omega⟩), Int.toNat_natCast, h2, h3]
 exact if_neg (by decide)
theorem spent_goes (h : ¬ q.rem = 0) : q.spent.off = q.off ∧ q.spent.rem = if 0 < q.rem then q.rem - 1 else q.rem := by
 unfold Rk.spent
 rw [if_neg h]
 by_cases h1 : 0 < q.rem
 ·rw [if_pos h1, if_pos h1]; exact ⟨rfl, rfl⟩
 ·rw [if_neg h1, if_neg h1]; exact ⟨rfl, rfl⟩
end Go.Proofs.YtilljaneegbhlaaGreatDoor
