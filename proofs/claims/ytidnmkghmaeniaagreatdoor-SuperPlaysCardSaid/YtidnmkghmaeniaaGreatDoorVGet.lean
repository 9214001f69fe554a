/-
  (*staveref8.Rack).Get.
-/
import Derived.Test.YtidnmkghmaeniaaGreatDoorVBase
import Derived.Test.YtidnmkghmaeniaaGreatDoorQS
import Derived.Test.YtidnmkghmaeniaaGreatDoorHRef
namespace Go.Proofs.YtidnmkghmaeniaaGreatDoor
open Go.RowKit Go.Deep Dk Qk Go.Maps Hf
theorem qr_ready {q : Rk} {i s : Int} (h : qrcode q i s = 0) : q.ready i = 0 ∧ qval q i s = rval (q.s i.toNat) s ∧ rcode (q.s i.toNat) s = 0 := by
  unfold qrcode at h
  by_cases hi : q.has i
  · rw [if_pos hi] at h
    cases ho : q.off with
    | true => rw [ho, if_pos rfl] at h; cases h
    | false =>
      rw [ho, if_neg (show ¬ false = true by decide)] at h
      refine ⟨?_, ?_, h⟩
      · unfold Rk.ready
        rw [if_pos hi, ho, Bool.false_or]
        have : (q.s i.toNat).dead = false := by
          cases hd : (q.s i.toNat).dead
          · rfl
          · unfold rcode at h; rw [hd, if_pos rfl] at h; cases h
        rw [this]; rfl
      · unfold qval; rw [if_pos ⟨hi, ho⟩]
  · rw [if_neg hi] at h; cases h
theorem qr_not {q : Rk} {i s : Int} (h : qrcode q i s ≠ 0) (hr : q.ready i = 0) : rcode (q.s i.toNat) s ≠ 0 := by
  obtain ⟨hi, ho⟩ := ready_on hr
  unfold qrcode at h
  rw [if_pos hi, ho, if_neg (show ¬ false = true by decide)] at h
  exact h
set_option maxHeartbeats 2000000 in
set_option maxRecDepth 100000 in
theorem vget_bad {lo : Nat} {K : Nat → Prop} {c : Lc} {F : Lf} {C E : Nat → Nat} {q q' : Rk} (w : World) (h : PX lo K w c F C E q q') (hlo : lo ≤ w.heap.size) (i s kind slot stripe : Int) (h0 : qrcode q' i s ≠ 0) :
    Calls Tryz.prog 72 #[.pointer (some ⟨F.t, 0, none⟩), .int .i64 i, .int .i64 s, .int .i64 kind, .int .i64 slot, .int .i64 stripe] w (FrameBit zeroF false w) := by
  have hX := (h.below (one_below w (.cells (frA zeroF) 103)) hlo).1
  have HM := Lib.hid (vmay_any _ hX i)
  have hc : (Value.agg (frA zeroF)).cells = frA zeroF := rfl
  have hz := szFr_run
  have hz0 := zero_frame
  have hsz : (frC zeroF).length = szFr := frC_length zeroF_is
  have HZ := Lib.hid (zin_new w)
  have hst := HZ.out.store zeroF zeroF_is
  have HL := Lib.hid (HZ.out.load zeroF zeroF_is)
  have HB := Lib.hid (one_below w (.cells (frA zeroF) 103))
  by_cases hr : q'.ready i = 0
  · have hn := qr_not h0 hr
    obtain ⟨k, rfl, hk, hoff, hdead⟩ := ready_yes hr
    rw [Int.toNat_natCast] at hn
    rw [h.n] at hk
    rw [hr] at HM
    have c0 := hX.c0
    have ca := hX.at_ hk
    have i1 : (k : Int) < q.n := by omega
    have i2 : (0 : Int) ≤ k := by omega
    have HR := Lib.hid (rread_ev _ (hX.ref k hk) s)
    generalize rcode (q'.s k) s = rc at hn HR
    have rc1 : (rc == 0) = false := by simpa using hn
    have rc2 : (rc != 0) = true := by simpa using hn
    clear h h0 hX hr hoff hdead hlo hst
    go_enter Tryz.func72, Tryz.ntmps72
    go_wp2_with (first
      | (go_at_call 125; (with_reducible refine HM.out.mono ?_); rintro e w' ⟨rfl, rfl⟩)
      | (go_at_call 136; (with_reducible refine HR.out.mono ?_); rintro e w1 ⟨v, rfl, hv, hb⟩; have hst := (HZ.out.below (by simp) hb).store zeroF zeroF_is; have HL := Lib.hid ((HZ.out.below (by simp) hb).load zeroF zeroF_is); have HB := Lib.hid (bthen (one_below w _) hb); clear hv hb))
    have hl2 := HL.out
    exact bodyPost_ret (v := .tuple #[.agg (frA zeroF), .bool false]) (by simp [results, Tryz.results72, go_sem, hz, hl2]) rfl ⟨rfl, setRow_below HB.out (Nat.le_refl _) _⟩
  · have rc1 : (q'.ready i == 0) = false := by simpa using hr
    have rc2 : (q'.ready i != 0) = true := by simpa using hr
    clear h h0 hX hlo
    generalize q'.ready i = rd at *
    go_enter Tryz.func72, Tryz.ntmps72
    go_wp2_with (go_at_call 125; (with_reducible refine HM.out.mono ?_); rintro e w' ⟨rfl, rfl⟩)
    have hl2 := HL.out
    exact bodyPost_ret (v := .tuple #[.agg (frA zeroF), .bool false]) (by simp [results, Tryz.results72, go_sem, hz, hl2]) rfl ⟨rfl, setRow_below HB.out (Nat.le_refl _) _⟩
set_option maxHeartbeats 4000000 in
set_option maxRecDepth 100000 in
theorem vget_good {lo : Nat} {K : Nat → Prop} {c : Lc} {F : Lf} {C E : Nat → Nat} {q q' : Rk} (w : World) (h : PX lo K w c F C E q q') (hlo : lo ≤ w.heap.size) (i s kind slot stripe : Int) (h0 : qrcode q' i s = 0) :
    Calls Tryz.prog 72 #[.pointer (some ⟨F.t, 0, none⟩), .int .i64 i, .int .i64 s, .int .i64 kind, .int .i64 slot, .int .i64 stripe] w
      (FrameBit (if (goodB (qval q' i s) && asked (got (qval q' i s)) kind slot stripe) = true then got (qval q' i s) else zeroF) (goodB (qval q' i s) && asked (got (qval q' i s)) kind slot stripe) w) := by
  have hX := (h.below (one_below w (.cells (frA zeroF) 103)) hlo).1
  have HM := Lib.hid (vmay_any _ hX i)
  obtain ⟨hr, hqv, hqc⟩ := qr_ready h0
  obtain ⟨k, rfl, hk, hoff, hdead⟩ := ready_yes hr
  rw [Int.toNat_natCast] at hqv hqc
  rw [h.n] at hk
  rw [hr] at HM
  have c0 := hX.c0
  have ca := hX.at_ hk
  have i1 : (k : Int) < q.n := by omega
  have i2 : (0 : Int) ≤ k := by omega
  have HR := Lib.hid (rread_ev _ (hX.ref k hk) s)
  rw [hqc, ← hqv] at HR
  clear h h0 hX hr hoff hdead hlo hqv hqc
  have hi := got_is (qval q' (k : Int) s)
  have HGET := Lib.hid (fun (w : World) (v : Value) (hv : SlB w.heap.size w v (qval q' (k : Int) s)) => refGet_any w.heap.size v (qval q' (k : Int) s) w hv (Nat.le_refl _))
  generalize qval q' (k : Int) s = l at *
  generalize got l = f at *
  generalize goodB l = b at *
  have hc : (Value.agg (frA zeroF)).cells = frA zeroF := rfl
  have hc2 : (Value.agg (frA f)).cells = frA f := rfl
  have hz := szFr_run
  have hz0 := zero_frame
  have hsz : (frC zeroF).length = szFr := frC_length zeroF_is
  have hsf : (frC f).length = szFr := frC_length hi
  have HI := Lib.hid hi
  have hst : ∀ W : World, (storeCells ⟨W.heap.size, 0, none⟩ (frC f) 0).run Tryz.prog (W.alloc (.cells (frA zeroF) 103)) = .ok () (W.alloc (.cells (frA f) 103)) := fun W => storeCells_frame zeroF_is hi W
  have ends : ∀ (g : Fr) (bb : Bool) (w1 w2 : World), g.is → Below (w.alloc (.cells (frA zeroF) 103)).heap.size (w.alloc (.cells (frA zeroF) 103)) w1 → Below w1.heap.size w1 w2 → FrameBit g bb w (.returned (.tuple #[.agg (frA g), .bool bb])) ((w2.alloc (.cells (frA f) 103)).setRow w.heap.size (frA g)) :=
    fun g bb w1 w2 hg h1 h2 => ⟨rfl, (get_end h1 h2 hg).2.2⟩
  have HEND := Lib.hid ends
  clear ends hi
  have no : ∀ (hno : (b && asked f kind slot stripe) = false), (if (b && asked f kind slot stripe) = true then f else zeroF) = zeroF := fun hno => if_neg (by rw [hno]; decide)
  have HNO := Lib.hid no
  clear no
  have fins : ∀ w2 : World, (w2.alloc (.cells (frA f) 103)).cell? ⟨w2.heap.size, 0, none⟩ = some (.int .i64 f.k) ∧ (w2.alloc (.cells (frA f) 103)).cell? ⟨w2.heap.size, 1, none⟩ = some (.int .i64 f.s) ∧ (w2.alloc (.cells (frA f) 103)).cell? ⟨w2.heap.size, 2, none⟩ = some (.int .i64 f.t) ∧ (loadCellsFrom ⟨w2.heap.size, 0, none⟩ 0 szFr #[]).run Tryz.prog (w2.alloc (.cells (frA f) 103)) = .ok (frA f) (w2.alloc (.cells (frA f) 103)) :=
    fun w2 => ⟨(frIn_new w2 f HI.out).c0, (frIn_new w2 f HI.out).c1, (frIn_new w2 f HI.out).c2, (frIn_new w2 f HI.out).load⟩
  have HFI := Lib.hid fins
  clear fins
  cases hb : b with
  | false =>
    subst hb
    have HK := Lib.hid (HNO.out rfl)
    rw [show (false && asked f kind slot stripe) = false from rfl] at HK ⊢
    rw [HK.out]
    go_enter Tryz.func72, Tryz.ntmps72
    go_wp2_with (first
      | (go_at_call 125; (with_reducible refine HM.out.mono ?_); rintro e w' ⟨rfl, rfl⟩)
      | (go_at_call 136; (with_reducible refine HR.out.mono ?_); rintro e w1 ⟨v, rfl, hv, hb1⟩; have HV := Lib.hid hv; have HB1 := Lib.hid hb1; clear hv hb1)
      | (go_at_call 137; (with_reducible refine (HGET.out _ _ HV.out).mono ?_); rintro e w2 ⟨rfl, hb2⟩; have HB2 := Lib.hid hb2; have hst0 := (get_end (f := f) HB1.out hb2 zeroF_is).1; have HL := Lib.hid (get_end (f := f) HB1.out hb2 zeroF_is).2.1; clear hb2))
    have hl2 := HL.out
    exact bodyPost_ret (v := .tuple #[.agg (frA zeroF), .bool false]) (by simp [results, Tryz.results72, go_sem, hz, hl2]) rfl (HEND.out _ _ _ _ zeroF_is HB1.out HB2.out)
  | true =>
    subst hb
    rw [Bool.true_and] at *
    by_cases hk : f.k = kind
    · by_cases hs : f.s = slot
      · by_cases ht : stripe < 0
        · skip
          have k1 : (f.k == kind) = true := by simpa using hk
          have k2 : (f.k != kind) = false := by simpa using hk
          have s1 : (f.s == slot) = true := by simpa using hs
          have s2 : (f.s != slot) = false := by simpa using hs
          have HA1 := Lib.hid (decide_eq_true hk)
          have HA2 := Lib.hid (decide_eq_true hs)
          have HA3 := Lib.hid (decide_eq_true ht)
          have t1 : ¬ 0 ≤ stripe := by omega
          clear hk hs
          have HK := Lib.hid (show asked f kind slot stripe = true by unfold asked; rw [HA1.out, HA2.out, HA3.out]; simp)
          rw [HK.out, if_pos rfl]
          clear HK HNO
          go_enter Tryz.func72, Tryz.ntmps72
          go_wp2_with (first
            | (go_at_call 125; (with_reducible refine HM.out.mono ?_); rintro e w' ⟨rfl, rfl⟩)
            | (go_at_call 136; (with_reducible refine HR.out.mono ?_); rintro e w1 ⟨v, rfl, hv, hb1⟩; have HV := Lib.hid hv; have HB1 := Lib.hid hb1; clear hv hb1)
            | (go_at_call 137; (with_reducible refine (HGET.out _ _ HV.out).mono ?_); rintro e w2 ⟨rfl, hb2⟩; have HB2 := Lib.hid hb2; have hst0 := (get_end (f := f) HB1.out hb2 HI.out).1; have HL := Lib.hid (get_end (f := f) HB1.out hb2 HI.out).2.1; obtain ⟨x0, x1, x2, x3⟩ := HFI.out w2; clear hb2))
          have hl2 := HL.out
          exact bodyPost_ret (v := .tuple #[.agg (frA f), .bool true]) (by simp [results, Tryz.results72, go_sem, hz, hl2]) rfl (HEND.out _ _ _ _ HI.out HB1.out HB2.out)
        · by_cases hu : f.t = stripe
          · skip
            have k1 : (f.k == kind) = true := by simpa using hk
            have k2 : (f.k != kind) = false := by simpa using hk
            have s1 : (f.s == slot) = true := by simpa using hs
            have s2 : (f.s != slot) = false := by simpa using hs
            have u1 : (f.t == stripe) = true := by simpa using hu
            have u2 : (f.t != stripe) = false := by simpa using hu
            have HA1 := Lib.hid (decide_eq_true hk)
            have HA2 := Lib.hid (decide_eq_true hs)
            have HA3 := Lib.hid (decide_eq_true hu)
            have t1 : 0 ≤ stripe := by omega
            clear hk hs hu ht
            have HK := Lib.hid (show asked f kind slot stripe = true by unfold asked; rw [HA1.out, HA2.out, HA3.out]; simp)
            rw [HK.out, if_pos rfl]
            clear HK HNO
            go_enter Tryz.func72, Tryz.ntmps72
            go_wp2_with (first
              | (go_at_call 125; (with_reducible refine HM.out.mono ?_); rintro e w' ⟨rfl, rfl⟩)
              | (go_at_call 136; (with_reducible refine HR.out.mono ?_); rintro e w1 ⟨v, rfl, hv, hb1⟩; have HV := Lib.hid hv; have HB1 := Lib.hid hb1; clear hv hb1)
              | (go_at_call 137; (with_reducible refine (HGET.out _ _ HV.out).mono ?_); rintro e w2 ⟨rfl, hb2⟩; have HB2 := Lib.hid hb2; have hst0 := (get_end (f := f) HB1.out hb2 HI.out).1; have HL := Lib.hid (get_end (f := f) HB1.out hb2 HI.out).2.1; obtain ⟨x0, x1, x2, x3⟩ := HFI.out w2; clear hb2))
            have hl2 := HL.out
            exact bodyPost_ret (v := .tuple #[.agg (frA f), .bool true]) (by simp [results, Tryz.results72, go_sem, hz, hl2]) rfl (HEND.out _ _ _ _ HI.out HB1.out HB2.out)
          · skip
            have k1 : (f.k == kind) = true := by simpa using hk
            have k2 : (f.k != kind) = false := by simpa using hk
            have s1 : (f.s == slot) = true := by simpa using hs
            have s2 : (f.s != slot) = false := by simpa using hs
            have u1 : (f.t == stripe) = false := by simpa using hu
            have u2 : (f.t != stripe) = true := by simpa using hu
            have HA1 := Lib.hid (decide_eq_true hk)
            have HA2 := Lib.hid (decide_eq_true hs)
            have HA3 := Lib.hid (decide_eq_false hu)
            have HA4 := Lib.hid (decide_eq_false ht)
            have t1 : 0 ≤ stripe := by omega
            clear hk hs ht
            have HK := Lib.hid (show asked f kind slot stripe = false by unfold asked; rw [HA1.out, HA2.out, HA3.out, HA4.out]; first | done | rfl)
            rw [HK.out, if_neg (show ¬ false = true by decide)]
            clear HK HNO
            go_enter Tryz.func72, Tryz.ntmps72
            go_wp2_with (first
              | (go_at_call 125; (with_reducible refine HM.out.mono ?_); rintro e w' ⟨rfl, rfl⟩)
              | (go_at_call 136; (with_reducible refine HR.out.mono ?_); rintro e w1 ⟨v, rfl, hv, hb1⟩; have HV := Lib.hid hv; have HB1 := Lib.hid hb1; clear hv hb1)
              | (go_at_call 137; (with_reducible refine (HGET.out _ _ HV.out).mono ?_); rintro e w2 ⟨rfl, hb2⟩; have HB2 := Lib.hid hb2; have hst0 := (get_end (f := f) HB1.out hb2 zeroF_is).1; have HL := Lib.hid (get_end (f := f) HB1.out hb2 zeroF_is).2.1; obtain ⟨x0, x1, x2, x3⟩ := HFI.out w2; clear hb2))
            have hl2 := HL.out
            exact bodyPost_ret (v := .tuple #[.agg (frA zeroF), .bool false]) (by simp [results, Tryz.results72, go_sem, hz, hl2]) rfl (HEND.out _ _ _ _ zeroF_is HB1.out HB2.out)
      · skip
        have k1 : (f.k == kind) = true := by simpa using hk
        have k2 : (f.k != kind) = false := by simpa using hk
        have s1 : (f.s == slot) = false := by simpa using hs
        have s2 : (f.s != slot) = true := by simpa using hs
        have HA1 := Lib.hid (decide_eq_true hk)
        have HA2 := Lib.hid (decide_eq_false hs)
        have HA3 := Lib.hid (True.intro)
        have HA4 := Lib.hid (True.intro)
        clear hk
        have HK := Lib.hid (show asked f kind slot stripe = false by unfold asked; rw [HA1.out, HA2.out]; first | done | rfl)
        rw [HK.out, if_neg (show ¬ false = true by decide)]
        clear HK HNO
        go_enter Tryz.func72, Tryz.ntmps72
        go_wp2_with (first
          | (go_at_call 125; (with_reducible refine HM.out.mono ?_); rintro e w' ⟨rfl, rfl⟩)
          | (go_at_call 136; (with_reducible refine HR.out.mono ?_); rintro e w1 ⟨v, rfl, hv, hb1⟩; have HV := Lib.hid hv; have HB1 := Lib.hid hb1; clear hv hb1)
          | (go_at_call 137; (with_reducible refine (HGET.out _ _ HV.out).mono ?_); rintro e w2 ⟨rfl, hb2⟩; have HB2 := Lib.hid hb2; have hst0 := (get_end (f := f) HB1.out hb2 zeroF_is).1; have HL := Lib.hid (get_end (f := f) HB1.out hb2 zeroF_is).2.1; obtain ⟨x0, x1, x2, x3⟩ := HFI.out w2; clear hb2))
        have hl2 := HL.out
        exact bodyPost_ret (v := .tuple #[.agg (frA zeroF), .bool false]) (by simp [results, Tryz.results72, go_sem, hz, hl2]) rfl (HEND.out _ _ _ _ zeroF_is HB1.out HB2.out)
    · skip
      have k1 : (f.k == kind) = false := by simpa using hk
      have k2 : (f.k != kind) = true := by simpa using hk
      have HA1 := Lib.hid (decide_eq_false hk)
      have HK := Lib.hid (show asked f kind slot stripe = false by unfold asked; rw [HA1.out]; first | done | rfl)
      rw [HK.out, if_neg (show ¬ false = true by decide)]
      clear HK HNO
      go_enter Tryz.func72, Tryz.ntmps72
      go_wp2_with (first
        | (go_at_call 125; (with_reducible refine HM.out.mono ?_); rintro e w' ⟨rfl, rfl⟩)
        | (go_at_call 136; (with_reducible refine HR.out.mono ?_); rintro e w1 ⟨v, rfl, hv, hb1⟩; have HV := Lib.hid hv; have HB1 := Lib.hid hb1; clear hv hb1)
        | (go_at_call 137; (with_reducible refine (HGET.out _ _ HV.out).mono ?_); rintro e w2 ⟨rfl, hb2⟩; have HB2 := Lib.hid hb2; have hst0 := (get_end (f := f) HB1.out hb2 zeroF_is).1; have HL := Lib.hid (get_end (f := f) HB1.out hb2 zeroF_is).2.1; obtain ⟨x0, x1, x2, x3⟩ := HFI.out w2; clear hb2))
      have hl2 := HL.out
      exact bodyPost_ret (v := .tuple #[.agg (frA zeroF), .bool false]) (by simp [results, Tryz.results72, go_sem, hz, hl2]) rfl (HEND.out _ _ _ _ zeroF_is HB1.out HB2.out)
theorem vget_any {lo : Nat} {K : Nat → Prop} {c : Lc} {F : Lf} {C E : Nat → Nat} {q q' : Rk} (w : World) (h : PX lo K w c F C E q q') (hlo : lo ≤ w.heap.size) (i s kind slot stripe : Int) :
    Calls Tryz.prog 72 #[.pointer (some ⟨F.t, 0, none⟩), .int .i64 i, .int .i64 s, .int .i64 kind, .int .i64 slot, .int .i64 stripe] w (FrameBit (qgot q' i s kind slot stripe) (qfound q' i s kind slot stripe) w) := by
  unfold qgot qfound
  by_cases h0 : qrcode q' i s = 0
  · rw [decide_eq_true h0, Bool.true_and]
    exact vget_good w h hlo i s kind slot stripe h0
  · rw [decide_eq_false h0, Bool.false_and, if_neg (show ¬ false = true by decide)]
    exact vget_bad w h hlo i s kind slot stripe h0
end Go.Proofs.YtidnmkghmaeniaaGreatDoor
