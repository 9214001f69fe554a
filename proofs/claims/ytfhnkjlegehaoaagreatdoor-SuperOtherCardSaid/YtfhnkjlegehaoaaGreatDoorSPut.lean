/-
  super.Put.
-/
import Derived.Test.YtfhnkjlegehaoaaGreatDoorSFits
namespace Go.Proofs.YtfhnkjlegehaoaaGreatDoor
open Go.RowKit Go.Deep Crc Dk Qk Go.Maps Hf
def opSPut : ByteArray := ⟨#[115, 117, 112, 101, 114, 46, 80, 117, 116]⟩
def opSFind : ByteArray := ⟨#[115, 117, 112, 101, 114, 46, 70, 105, 110, 100]⟩
/-- The error of a Put. -/
def Rk.serr (q : Rk) (c : Cf) (i : Int) : Value :=
  if c.fits q = true then
    (if q.wcode i 0 (put (supF c i)).length = 0 then
      (if (q.write i 0 (put (supF c i))).fcode i = 0 then .nilIface else wrapV opSPut i (wrapV opQFlush i (errV ((q.write i 0 (put (supF c i))).fcode i))))
    else wrapV opSPut i (wrapV opQWrite i (errV (q.wcode i 0 (put (supF c i)).length))))
  else wrapV opSPut i (errV 1)
theorem kind_serr (q : Rk) (c : Cf) (i : Int) (w : World) (hT : Typ w) : Calls Tryz.prog 13 #[Rk.serr q c i] w (Num (Rk.scode q c i) w) := by
  unfold Rk.serr Rk.scode
  by_cases hf : c.fits q = true
  · rw [if_pos hf, if_pos hf]
    by_cases hw : q.wcode i 0 (put (supF c i)).length = 0
    · rw [if_pos hw, if_pos hw]
      by_cases hx : (q.write i 0 (put (supF c i))).fcode i = 0
      · rw [if_pos hx, hx]; exact kind_nil w
      · rw [if_neg hx]; exact kind_err [(opSPut, i), (opQFlush, i)] _ w _ rfl hT
    · rw [if_neg hw, if_neg hw]; exact kind_err [(opSPut, i), (opQWrite, i)] _ w _ rfl hT
  · rw [if_neg hf, if_neg hf]; exact kind_err [(opSPut, i)] 1 w _ rfl hT
theorem serr_nil {q : Rk} {c : Cf} {i : Int} (h : Rk.scode q c i = 0) : Rk.serr q c i = .nilIface := by
  unfold Rk.scode at h
  unfold Rk.serr
  by_cases hf : c.fits q = true
  · rw [if_pos hf] at h ⊢
    by_cases hw : q.wcode i 0 (put (supF c i)).length = 0
    · rw [if_pos hw] at h ⊢
      rw [if_pos h]
    · rw [if_neg hw] at h; exact absurd h hw
  · rw [if_neg hf] at h; cases h
set_option maxHeartbeats 2000000 in
set_option maxRecDepth 100000 in
theorem sput_no {lo : Nat} {c : Lc} {q : Rk} (w : World) (h : RackIn lo w c q) (cf : Cf) (i : Int) (hf : cf.fits q = false) :
    Calls Tryz.prog 10 #[.pointer (some ⟨c.r, 0, none⟩), .agg (cfA cf), .int .i64 i] w (NextR lo c q.n q (wrapV opSPut i (errV 1)) w) := by
  have h1 := ftS_new h cf
  have HF := Lib.hid (sfits_any _ h1.1 cf)
  rw [hf] at HF
  have H1 := Lib.hid h1
  obtain ⟨d0, d1, d2, d3, d4⟩ := h1.2.1.cells
  clear h h1
  go_enter Tryz.func10, Tryz.ntmps10
  go_wp2_with (first
    | (go_at_call 19; refine HF.out.mono ?_; rintro e w2 ⟨rfl, hb2⟩; have H2 := Lib.hid (FtS.then H1.out hb2); clear hb2)
    | (go_at_call 38; refine (wrap_some _ _ _ _ _).mono ?_; rintro e w' ⟨rfl, rfl⟩))
  exact bodyPost_ret (v := wrapV opSPut i (errV 1)) (by simp [results, Tryz.results10, go_sem, wrapV, errV, opSPut]) rfl ⟨rfl, H2.out.1, RC.of_below H2.out.2.2.2⟩
set_option maxHeartbeats 4000000 in
set_option maxRecDepth 100000 in
theorem sput_yes {lo : Nat} {c : Lc} {q : Rk} (w : World) (h : RackIn lo w c q) (cf : Cf) (i : Int) (hf : cf.fits q = true) :
    Calls Tryz.prog 10 #[.pointer (some ⟨c.r, 0, none⟩), .agg (cfA cf), .int .i64 i] w (NextR lo c q.n (Rk.sput q cf i) (Rk.serr q cf i) w) := by
  have h1 := ftS_new h cf
  have HF := Lib.hid (sfits_any _ h1.1 cf)
  rw [hf] at HF
  have H1 := Lib.hid h1
  have CB := Lib.hid (fun w => superblock_any cf i w (fits_right hf).1)
  have CP := Lib.hid (fun w => put_any (supF cf i) w (supF_is cf i))
  have HSP := Lib.hid (show Rk.sput q cf i = _ from if_pos hf)
  have HSE := Lib.hid (show Rk.serr q cf i = _ from if_pos hf)
  obtain ⟨d0, d1, d2, d3, d4⟩ := h1.2.1.cells
  clear h h1 hf
  generalize supF cf i = F at *
  go_enter Tryz.func10, Tryz.ntmps10
  go_wp2_with fail
  refine HF.out.mono ?_
  rintro e w2 ⟨rfl, hb2⟩
  have h2 := FtS.then H1.out hb2
  have H2 := Lib.hid h2
  obtain ⟨e0, e1, e2, e3, e4⟩ := h2.2.1.cells
  clear hb2 h2 d0 d1 d2 d3 d4
  go_wp2_with fail
  refine (CB.out w2).mono ?_
  rintro e w3 ⟨rfl, hb3⟩
  have H3 := Lib.hid (FtS.then H2.out hb3)
  clear hb3
  go_wp2_with fail
  refine (CP.out w3).mono ?_
  rintro e w4 ⟨v4, rfl, ho4, hb4⟩
  have H4 := Lib.hid (FtS.then H3.out hb4)
  have HW := Lib.hid (qwrite_any w4 H4.out.1 i 0 v4 (Hf.put F) (slb_own ho4))
  clear hb4 ho4
  generalize Hf.put F = L at *
  by_cases hw : q.wcode i 0 L.length = 0
  · rw [hw, evs_zero] at HW
    rw [if_pos hw] at HSP HSE
    clear hw
    go_wp2_with fail
    refine HW.out.mono ?_
    rintro e w5 ⟨rfl, hR5, hC5⟩
    have HFL := Lib.hid (qflush_any w5 hR5 i)
    have HC5 := Lib.hid hC5
    have HN5 := Lib.hid (write_n q i 0 L)
    generalize q.write i 0 L = q1 at *
    clear hR5 hC5
    by_cases hx : q1.fcode i = 0
    · rw [hx, evs_zero] at HFL
      rw [if_pos hx] at HSE
      clear hx
      go_wp2_with (first
        | (go_at_call 41; refine HFL.out.mono ?_; rintro e w6 ⟨rfl, hR6, hC6⟩; have HR6 := Lib.hid hR6; have HC6 := Lib.hid hC6; clear hR6 hC6)
        | (go_at_call 38; refine (wrap_nil _ _ _).mono ?_; rintro e w' ⟨rfl, rfl⟩))
      rw [HSP.out, HSE.out]
      go_ret
      have hc6 := HC6.out
      rw [HN5.out] at hc6
      exact ⟨rfl, HR6.out, ((RC.of_below H4.out.2.2.2).trans HC5.out).trans hc6⟩
    · rw [evs_some _ _ hx] at HFL
      rw [if_neg hx] at HSE
      clear hx
      unfold wrapV errV at HFL
      go_wp2_with (first
        | (go_at_call 41; refine HFL.out.mono ?_; rintro e w6 ⟨rfl, hR6, hC6⟩; have HR6 := Lib.hid hR6; have HC6 := Lib.hid hC6; clear hR6 hC6)
        | (go_at_call 38; refine (wrap_some _ _ _ _ _).mono ?_; rintro e w' ⟨rfl, rfl⟩))
      rw [HSP.out, HSE.out]
      have hc6 := HC6.out
      rw [HN5.out] at hc6
      exact bodyPost_ret (v := wrapV opSPut i (wrapV opQFlush i (errV (q1.fcode i)))) (by simp [results, Tryz.results10, go_sem, wrapV, errV, opSPut]) rfl ⟨rfl, HR6.out, ((RC.of_below H4.out.2.2.2).trans HC5.out).trans hc6⟩
  · rw [evs_some _ _ hw] at HW
    rw [if_neg hw] at HSP HSE
    clear hw
    unfold wrapV errV at HW
    go_wp2_with (first
      | (go_at_call 36; refine HW.out.mono ?_; rintro e w5 ⟨rfl, hR5, hC5⟩; have HR5 := Lib.hid hR5; have HC5 := Lib.hid hC5; clear hR5 hC5)
      | (go_at_call 38; refine (wrap_some _ _ _ _ _).mono ?_; rintro e w' ⟨rfl, rfl⟩))
    rw [HSP.out, HSE.out]
    exact bodyPost_ret (v := wrapV opSPut i (wrapV opQWrite i (errV (q.wcode i 0 L.length)))) (by simp [results, Tryz.results10, go_sem, wrapV, errV, opSPut]) rfl ⟨rfl, HR5.out, (RC.of_below H4.out.2.2.2).trans HC5.out⟩
theorem sput_any {lo : Nat} {c : Lc} {q : Rk} (w : World) (h : RackIn lo w c q) (cf : Cf) (i : Int) :
    Calls Tryz.prog 10 #[.pointer (some ⟨c.r, 0, none⟩), .agg (cfA cf), .int .i64 i] w (NextR lo c q.n (Rk.sput q cf i) (Rk.serr q cf i) w) := by
  cases hf : cf.fits q with
  | true => exact sput_yes w h cf i hf
  | false =>
    have e1 : Rk.sput q cf i = q := if_neg (by rw [hf]; decide)
    have e2 : Rk.serr q cf i = wrapV opSPut i (errV 1) := if_neg (by rw [hf]; decide)
    rw [e1, e2]
    exact sput_no w h cf i hf
end Go.Proofs.YtfhnkjlegehaoaaGreatDoor
