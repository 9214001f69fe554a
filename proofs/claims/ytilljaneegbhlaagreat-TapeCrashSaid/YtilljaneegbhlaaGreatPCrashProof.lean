/-
  The law stavelaw14.TapeCrash (what was appended well is there behind a crash at any operation and N - K disks that went, in its order; the one that was cut short is there whole, or isn't) returns true for all numbers, entries and bits, and leaves all memory that was there as it was.
  Conditions: none but the row's own. The statement speaks of the pruned copy of the project that the seat names.
-/
import Derived.Test.YtilljaneegbhlaaGreatZPlain
import Derived.Test.YtilljaneegbhlaaGreatPOpenL
import Derived.Test.YtilljaneegbhlaaGreatPSome
import Derived.Test.YtilljaneegbhlaaGreatZOpenV
import Derived.Test.YtilljaneegbhlaaGreatZMNums
namespace Go.Proofs.YtilljaneegbhlaaGreat
open Go.RowKit Go.Deep Crc Dk Qk Go.Maps Hf
theorem VW.belowB {w1 : World} {c : Lc} {cf : Cf} {n : Nat} {q : Rk} {g : Int} {down : Bool} {b B : Nat} {w w' : World} (h : VW w1 c cf n q g down b w) (hb : Below B w w') (hf : FarV B c n) (hB : b < B) (h1 : w1.heap.size ≤ B) : VW w1 c cf n q g down b w' :=
  ⟨⟨h.qs.rack.keep (hb.block _ hf.1.1) (hb.block _ hf.2) fun i hi => by
      have hi' : i < n := by have := h.nn; omega
      exact ⟨hb.block _ (hf.1.2 i hi').1, hb.block _ (hf.1.2 i hi').2.1, hb.block _ (hf.1.2 i hi').2.2⟩, h.qs.base.trans (hb.mono h1)⟩, h.nn, by unfold VB; rw [hb.block _ hB]; exact h.vb, h.farv, h.le⟩
theorem TW.belowB {w1 : World} {c : Lc} {cf : Cf} {n : Nat} {q : Rk} {g : Int} {down : Bool} {b t B : Nat} {u : Int} {w w' : World} (h : TW w1 c cf n q g down b t u w) (hb : Below B w w') (hf : FarV B c n) (hB : b < B) (ht : t < B) (h1 : w1.heap.size ≤ B) : TW w1 c cf n q g down b t u w' :=
  ⟨h.vw.belowB hb hf hB h1, by unfold TpB; rw [hb.block _ ht]; exact h.tp, h.farv, h.ne, h.le⟩
/-- A tape whose rack was worked on. -/
theorem TW.rc {w1 : World} {c : Lc} {cf : Cf} {n : Nat} {q q' : Rk} {g : Int} {down : Bool} {b t : Nat} {u : Int} {w w' : World} (h : TW w1 c cf n q g down b t u w) (hv : VW w1 c cf n q' g down b w') (hc : RC c n w w') : TW w1 c cf n q' g down b t u w' :=
  ⟨hv, h.tp.rcv h.farv h.ne (hc.rcv b), h.farv, h.ne, h.le⟩
theorem fill_single {k : Nat} (hk : 1 ≤ k) {x : List UInt8} (h0 : 0 < x.length) (h1 : x.length ≤ 100) : fillL k [x] ≠ [] := by
  refine (fillL_fits (by simp) (fun e he => by rw [List.mem_singleton] at he; subst he; exact List.length_pos_iff.1 h0) ?_).2
  rw [show encE [x] = entB x ++ encE [] from rfl, List.length_append, entB_len, show (encE []).length = 0 from rfl]
  omega
/-- The entries so far are short. -/
def Sht (Ls : List (List (List UInt8))) : Prop := ∀ ls ∈ Ls, ls.length ≤ 10 ∧ ∀ l ∈ ls, l.length ≤ 200
theorem Sht.snoc {Ls : List (List (List UInt8))} {x : List (List UInt8)} (h : Sht Ls) (h1 : x.length ≤ 10) (h2 : ∀ l ∈ x, l.length ≤ 200) : Sht (Ls ++ [x]) := fun ls hl => by
  rcases List.mem_append.1 hl with h3 | h3
  · exact h ls h3
  · rw [List.mem_singleton] at h3; subst h3; exact ⟨h1, h2⟩
theorem Sht.fit {Ls : List (List (List UInt8))} (h : Sht Ls) : ∀ ls ∈ Ls, ls.length ≤ 1000 ∧ ∀ l ∈ ls, l.length ≤ 100000 := fun ls hl =>
  ⟨Nat.le_trans (h ls hl).1 (by decide), fun l hl2 => Nat.le_trans ((h ls hl).2 l hl2) (by decide)⟩
theorem one_at {v : Value} (w wx : World) (h : wx.heap = (w.alloc (.cells #[v] 5)).heap) : wx.ownsRow w.heap.size 5 1 (.slice (some ⟨w.heap.size, 0, none⟩) 1 1) 1 [v] := by
  refine ⟨rfl, Or.inr ⟨w.heap.size, 1, #[v], rfl, Nat.le_refl _, ?_, Nat.le_refl _, by decide, rfl, rfl⟩⟩
  rw [h]; exact heap_alloc_new w _
theorem first_byte {m : Nat} (h : m < 256) (pc : List UInt8) : [Value.int .u8 ((m : Int) % 256)] ++ bytesV pc = bytesV (UInt8.ofNat m :: pc) := by
  show _ = Value.int .u8 ((UInt8.ofNat m).toNat : Nat) :: bytesV pc
  rw [UInt8.toNat_ofNat', Nat.mod_eq_of_lt (by omega), show ((m : Int) % 256) = m from by omega]
  rfl
theorem own_single {w : World} {B n : Nat} {v : Value} {x : List UInt8} (h : w.ownsRow B 5 1 v n (bytesV x)) (hn : n = x.length) (hB : B ≤ w.heap.size) : SlAs (fun k => B ≤ k) (w.alloc (.cells #[v] 24)) (.slice (some ⟨w.heap.size, 0, none⟩) 1 1) [x] := by
  subst hn
  refine Or.inr ⟨w.heap.size, 0, 1, rfl, by simp, hB, fun i hi => ?_, by simp, by simp⟩
  match i with
  | 0 => exact ⟨v, new_cells _ _ _ 0 _ rfl, (slA_own h fun k h1 _ => h1).agr (Agr.of_below (one_below _ _))⟩
  | i + 1 => exact absurd hi (by simp)
theorem raw_die {cf : Cf} {V : Vl} {Y : Option Rc} {P : Nat → Bool} {q : Rk} {M : Int} (h : Raw cf V Y P q M) {d : Nat} (hd : d < q.n) : Raw cf V Y (PD P d) (Rk.dying q d true) M :=
  ⟨⟨h.tnt.inv.worn h.tnt.on.right h.tnt.on.ok.n8 (worn_dying hd true), h.tnt.sup.worn (worn_dying hd true), h.tnt.on.dying hd true, h.tnt.qt.dying hd true⟩, h.le, h.yle, h.m1⟩
def RelTc2 (w3 w6 : World) (c : Lc) (cf : Cf) (N K : Nat) (V : Vl) (Y : Option Rc) (M : Int) (want cut : Value) (us : List Value) (Ls : List (List (List UInt8))) (C : List (List UInt8)) (i : Value) (wr : World) : Prop :=
  ∃ (m : Nat) (P : Nat → Bool) (q : Rk), m ≤ N - K ∧ i = .int .i64 m ∧ QS w3 c q wr ∧ q.n = N ∧ q.rem = -1 ∧ Raw cf V Y P q M ∧ K + (N - K - m) ≤ ((List.range N).filter P).length ∧ OwnT w6.heap.size (fun k => w6.heap.size ≤ k) wr want us Ls ∧ SlAs (fun k => w6.heap.size ≤ k ∧ want.ownBlock ≠ some k) wr cut C ∧ w6.heap.size ≤ wr.heap.size
theorem OwnT.slAtB {B : Nat} {w : World} {v : Value} {us : List Value} {Ls : List (List (List UInt8))} (h : OwnT B (fun k => B ≤ k) w v us Ls) : SlAt (fun k => B ≤ k) w v Ls := by
  rcases Nat.eq_zero_or_pos Ls.length with h0 | h0
  · have hh := h.top
    rcases hh.2 with ⟨rfl, _⟩ | ⟨g, cap, cur, rfl, _⟩
    · exact Or.inl ⟨List.eq_nil_of_length_eq_zero h0, none, 0, rfl⟩
    · rw [h0]
      exact Or.inl ⟨List.eq_nil_of_length_eq_zero h0, _, _, rfl⟩
  · obtain ⟨g, cap, rfl, h2, h3, h4, _, h5⟩ := own_some h.top h0
    refine Or.inr ⟨g, 0, cap, rfl, h3, h2, fun i hi => ⟨us.getD i nilB, ?_, (h.each i hi).sub fun _ _ hk => hk.1⟩, h0, h4⟩
    rw [Nat.zero_add]
    exact h5 i _ (by rw [List.getD, List.getElem?_eq_getElem (by rw [h.ulen]; exact hi)]; rfl)
theorem own_base_le {w : World} {B e n : Nat} {v : Value} {xs : List Value} (h : w.ownsRow B e 1 v n xs) (h0 : 0 < n) : B ≤ w.heap.size := by
  obtain ⟨g, _, _, h1, h2, _⟩ := own_some h h0
  omega
theorem qs_die {w3 : World} {c : Lc} {q : Rk} {w : World} (h : QS w3 c q w) (i : Int) : Calls Tryz.prog 28 #[.pointer (some ⟨c.r, 0, none⟩), .int .i64 i] w (QN w3 c q.n (Rk.dying q i true) (.bool (decide (q.has i))) w) := h.of (qdie_any w h.rack i)
/-- An append of one slice of entries where a guard lets it. -/
theorem wpList_append_rowsG (w : World) {ops : Array Oper} {rest : List Oper} {o : Oper} {a : Act} {Q : Exit → Act → World → Prop} (hw : Region.wanted o (yielded ops a.tmps) = true) (s x : Operand)
    (ho : o.op = .call { callee := .builtin .append, args := #[s, x], argTypes := #[35, 35] })
    (base : Nat) (v : Value) (n : Nat) (xs : List Value) (hsv : a.eval s = v) (hown : w.ownsRow base 25 1 v n xs)
    (b : Nat) (u : Value) (hx : a.eval x = .slice (some ⟨b, 0, none⟩) 1 1) (hb : w.cell? ⟨b, 0, none⟩ = some u) (hu : u.oneCell' = true) (h63 : n + 1 ≤ 100000) (hbase : base ≤ w.heap.size)
    (h : ∀ v' w', w'.ownsRow base 25 1 v' (n + 1) (xs ++ [u]) → Grew w v.ownBlock w' v'.ownBlock → wpList Tryz.prog ops Q rest (a.put o.dst v') w') : wpList Tryz.prog ops Q (o :: rest) a w := by
  obtain ⟨i0, hi0, hz⟩ := Option.map_eq_some_iff.1 info_rows
  simp only [Prod.mk.injEq] at hz
  obtain ⟨hz0, hz1, hz2⟩ := hz
  refine wpList_step fun K hK => ?_
  rw [if_pos hw]
  exact wp_append_src w s x 35 35 ho base 25 i0 (.slice none 0 0) 1 24 Tryz.underlying35 hi0 hz0 hz1 hz2 rfl v n xs hsv hown (.slice (some ⟨b, 0, none⟩) 1 1) 1 [u] hx
    (src_cells (e := 25) (by kernel_rfl) (by simp) (fun j u' hj => by
      match j with
      | 0 => simp at hj; subst hj; simpa using hb
      | j + 1 => simp at hj) (fun u' hu' => by simp at hu'; subst hu'; exact hu)) (by unfold maxLen; omega) (by omega) hbase fun v' w' h1 h2 _ => hK _ _ (h v' w' h1 h2)
def RelTc1 (w3 w6 : World) (c : Lc) (cf : Cf) (N b t : Nat) (P : Nat → Bool) (L : Nat) (x i : Value) (wr : World) : Prop :=
  ∃ (q : Rk) (V : Vl) (us : List Value) (Ls : List (List (List UInt8))), Ls.length ≤ 5 ∧ Ls.length ≤ L ∧ i = .int .i64 (Ls.length : Nat) ∧ TW w3 c cf N q (1 + (Ls.length : Nat)) false b t (Ls.length : Nat) wr ∧ Live cf V P q (1 + (Ls.length : Nat)) ∧
    Taped cf.t.toNat V.G V.B Ls ∧ Sht Ls ∧ OwnT w6.heap.size (fun k => w6.heap.size ≤ k) wr x us Ls ∧ w6.heap.size ≤ wr.heap.size
set_option maxHeartbeats 8000000 in
set_option maxRecDepth 100000 in
theorem tcrash_any (w : World) (k_ n_ : Int) (v : Value) (ls : List (List UInt8)) (h : SlBs w.heap.size w v ls) (_hl : ls.length ≤ maxLen) (hls : ∀ l ∈ ls, l.length ≤ maxLen) (f_ : Int) (vb : Value) (lb : List Nat) (hvb : SlU w.heap.size w vb lb) (hlb : ∀ x, x < lb.length → lb.getD x 0 < 18446744073709551616)
    (vg : Value) (lg : List Int) (hvg : SlI w.heap.size w vg lg) (hlg : lg.length ≤ maxLen) :
    Calls Tryz.prog 6 #[.int .i64 k_, .int .i64 n_, v, .int .i64 f_, vb, vg] w (Bit true w) := by
  obtain ⟨al, cal, rfl, _⟩ := h.len
  obtain ⟨ab, cb, rfl⟩ := hvb.len
  obtain ⟨ag, cg, rfl⟩ := hvg.len
  have HV := Lib.hid h
  have HLS := Lib.hid hls
  have HVB := Lib.hid hvb
  have HLB := Lib.hid hlb
  have HVG := Lib.hid hvg
  unfold maxLen at hlg
  clear h hls hvb hlb hvg
  go_enter Tryz.func6, Tryz.ntmps6
  go_wp2_with fail
  refine (fixed_any k_ n_ 5 2 _ (by omega) (by omega)).mono ?_
  rintro e w1 ⟨cf, ⟨hok, ht, hs⟩, rfl, hb1⟩
  obtain ⟨f1, f2, hn, hsec, n1, n6, s1, s128⟩ := fresh_on hok
  have CS := Lib.hid (fun w => ksectors_any cf w hok.right)
  have CN := Lib.hid (fun w => show Calls Tryz.prog 8 #[.int .i64 cf.n, .int .i64 cf.secs] w (QNew w cf.n.toNat cf.secs.toNat) by
    have := qs_new cf.n.toNat cf.secs.toNat w n1 (by omega) s1 s128
    rwa [hn, hsec] at this)
  have HMF := Lib.hid (make_free f1 f2 rfl hn)
  have HNC := Lib.hid (show ((Rk.vmake (newRk cf.n.toNat cf.secs.toNat) cf).n : Int) = cf.n by rw [vmake_n]; exact hn)
  have HKS := Lib.hid (show 1 ≤ cf.k ∧ cf.k ≤ 4 ∧ cf.k ≤ cf.n ∧ cf.n ≤ 6 from ⟨hok.2.1, hok.2.2.1, hok.2.2.2.1, hok.2.2.2.2.1⟩)
  have HT := Lib.hid (show cf.t = 5 ∧ cf.s = 2 from ⟨ht, hs⟩)
  have H2 := Lib.hid (show JfS cf w1.heap.size w (w1.alloc (.cells (cfA cf) 23)) from ⟨cfB_new w1 cf, by simp, balloc hb1 _⟩)
  obtain ⟨d0, d1, d2, d3, d4⟩ := CfB.cells H2.out.1
  clear hok ht hs f1 f2 hn hsec n1 n6 s1 s128 hb1
  go_wp2_with fail
  clear d0 d1 d2 d3 d4
  have h2 := H2.out
  generalize w1.alloc (.cells (cfA cf) 23) = w2 at *
  generalize w1.heap.size = bc at *
  have d0 : ∀ w', JfS cf bc w w' → w'.cell? ⟨bc, 0, none⟩ = some (.int .i64 cf.id) := fun w' h => h.1.cell 0
  have d1 : ∀ w', JfS cf bc w w' → w'.cell? ⟨bc, 1, none⟩ = some (.int .i64 cf.k) := fun w' h => h.1.cell 1
  have d2 : ∀ w', JfS cf bc w w' → w'.cell? ⟨bc, 2, none⟩ = some (.int .i64 cf.n) := fun w' h => h.1.cell 2
  have d3 : ∀ w', JfS cf bc w w' → w'.cell? ⟨bc, 3, none⟩ = some (.int .i64 cf.t) := fun w' h => h.1.cell 3
  have d4 : ∀ w', JfS cf bc w w' → w'.cell? ⟨bc, 4, none⟩ = some (.int .i64 cf.s) := fun w' h => h.1.cell 4
  refine wp_region_noPanic ?_
  refine wp_region_held_drew (S := (fun w' => JfS cf bc w w')) (by kernel_rfl) h2.drew (fun hHeld => ?_)
  refine wpAnyH_take (i := 0) (oi := ⟨some 34, _, _, _, _, _⟩) (v := ?_) rfl (by kernel_rfl) (by kernel_rfl) (by kernel_rfl) (fun _ _ _ h => h) (Or.inl ⟨by rfl, ?_⟩) hHeld ?_
  rotate_left
  · intro w hSw; (go_simp; try with_reducible rfl)
  simp only [Act.put, List.setIfInBounds_toArray, List.set_cons_zero, List.set_cons_succ]
  refine wpAnyH_take (i := 1) (oi := ⟨some 35, _, _, _, _, _⟩) (v := ?_) rfl (by kernel_rfl) (by kernel_rfl) (by kernel_rfl) (fun _ _ _ h => h) (Or.inl ⟨by rfl, ?_⟩) hHeld ?_
  rotate_left
  · intro w hSw; (go_simp; try with_reducible rfl)
  simp only [Act.put, List.setIfInBounds_toArray, List.set_cons_zero, List.set_cons_succ]
  refine wpAnyH_take (i := 2) (oi := ⟨some 36, _, _, _, _, _⟩) (v := ?_) rfl (by kernel_rfl) (by kernel_rfl) (by kernel_rfl) (fun _ _ _ h => h) (Or.inl ⟨by rfl, ?_⟩) hHeld ?_
  rotate_left
  · intro w hSw; (go_simp; try with_reducible rfl)
  simp only [Act.put, List.setIfInBounds_toArray, List.set_cons_zero, List.set_cons_succ]
  refine wpAnyH_ready (rs := [3]) (by kernel_rfl) (by simp) (AllReadyH.cons rfl (fun K hK => ?_) AllReadyH.nil)
  go_simp
  refine (CS.out _).mono ?_
  rintro e w3 ⟨rfl, hb3⟩
  have h3 := JfS.then hHeld hb3
  clear hb3
  refine hK.out _ _ h3 (fun _ => ?_)
  clear hK K
  refine wpAnyH_ready (rs := [4]) (by kernel_rfl) (by simp) (AllReadyH.cons rfl (fun K hK => ?_) AllReadyH.nil)
  go_simp
  refine (CN.out _).mono ?_
  rintro e w4 ⟨c, rfl, h4⟩
  have H4 := Lib.hid h4
  have H3 := Lib.hid h3
  have h5 := JfS.made h3 h4
  clear h4
  refine hK.out _ _ h5 (fun _ => ?_)
  clear hK K
  refine wpAnyH_take (i := 5) (oi := ⟨some 33, _, _, _, _, _⟩) (v := ?_) rfl (by kernel_rfl) (by kernel_rfl) (by kernel_rfl) (fun _ _ _ h => h) (Or.inl ⟨by rfl, ?_⟩) h5 ?_
  rotate_left
  · intro w hSw; (go_simp; try with_reducible rfl)
  simp only [Act.put, List.setIfInBounds_toArray, List.set_cons_zero, List.set_cons_succ]
  refine wpAnyH_take (i := 6) (oi := ⟨some 39, _, _, _, _, _⟩) (v := ?_) rfl (by kernel_rfl) (by kernel_rfl) (by kernel_rfl) (fun _ _ _ h => h) (Or.inl ⟨by rfl, ?_⟩) h5 ?_
  rotate_left
  · intro w hSw; (go_simp; try with_reducible rfl)
  simp only [Act.put, List.setIfInBounds_toArray, List.set_cons_zero, List.set_cons_succ]
  refine wpAnyH_take (i := 7) (oi := ⟨some 40, _, _, _, _, _⟩) (v := ?_) rfl (by kernel_rfl) (by kernel_rfl) (by kernel_rfl) (fun _ _ _ h => h) (Or.inl ⟨by rfl, ?_⟩) h5 ?_
  rotate_left
  · intro w hSw; (go_simp; try with_reducible rfl)
  simp only [Act.put, List.setIfInBounds_toArray, List.set_cons_zero, List.set_cons_succ]
  refine wpAnyH_take (i := 8) (oi := ⟨some 14, _, _, _, _, _⟩) (v := ?_) rfl (by kernel_rfl) (by kernel_rfl) (by kernel_rfl) (fun _ _ _ h => h) (Or.inl ⟨by rfl, ?_⟩) h5 ?_
  rotate_left
  · intro w hSw; (go_simp; try with_reducible rfl)
  simp only [Act.put, List.setIfInBounds_toArray, List.set_cons_zero, List.set_cons_succ]
  refine wpAnyH_take (i := 9) (oi := ⟨some 15, _, _, _, _, _⟩) (v := ?_) rfl (by kernel_rfl) (by kernel_rfl) (by kernel_rfl) (fun _ _ _ h => h) (Or.inl ⟨by rfl, ?_⟩) h5 ?_
  rotate_left
  · intro w hSw; (go_simp; try with_reducible rfl)
  simp only [Act.put, List.setIfInBounds_toArray, List.set_cons_zero, List.set_cons_succ]
  refine wpAnyH_done (by kernel_rfl) ?_ _
  refine NoPanic.normal ?_
  have HJ5 := Lib.hid h5
  obtain ⟨e0, e1, e2, e3, e4⟩ := CfB.cells h5.1
  clear d0 d1 d2 d3 d4 h2 hHeld h3 h5 H2 CS CN
  generalize newRk cf.n.toNat cf.secs.toNat = q0 at *
  have CM := Lib.hid (vmake_any w4 H4.out.rack cf)
  go_wp2_with fail
  refine CM.out.mono ?_
  rintro e w5 ⟨v5, rfl, hkv5, hr5, hc5⟩
  obtain rfl := hkv5.nil HMF.out.1
  have HQ5 := Lib.hid (H4.out.next hr5 hc5)
  have HENO := Lib.hid (show Enough cf (allP (Rk.vmake q0 cf)) (Rk.vmake q0 cf).n from allP_enough HMF.out.2.1.tnt.on.fits)
  have CO := Lib.hid (topen_ok HQ5.out rfl HMF.out.2.1 HENO.out HMF.out.2.2 (v0_taped cf) (fun y e => by cases e))
  clear hkv5 hr5 hc5 e0 e1 e2 e3 e4
  generalize Rk.vmake q0 cf = q1 at *
  obtain ⟨N, hN⟩ : ∃ N, q1.n = N := ⟨_, rfl⟩
  have HALL := Lib.hid (show N ≤ ((List.range N).filter (allP q1)).length by
    rw [show (List.range N).filter (allP q1) = List.range N from List.filter_eq_self.2 fun d hd => decide_eq_true (by rw [hN]; exact List.mem_range.1 hd), List.length_range]
    exact Nat.le_refl _)
  rw [hN] at CO HENO HNC
  clear hN
  go_wp2_with fail
  refine CO.out.mono ?_
  rintro e w6 ⟨q, b, t, g, V, lv, us, Ls, rfl, hrc, hn6, hk6, hrem, hl, hg, htp, rfl | ⟨y, hy, _⟩, htw, hwb, hwt, hot⟩
  rotate_left
  · cases hy
  have hg1 : g = 1 := by have := hl.s1; omega
  subst hg1
  have HT6 := Lib.hid htw
  have HL6 := Lib.hid hl
  have HR6 := Lib.hid hrem
  have HTP6 := Lib.hid htp
  have HN6 := Lib.hid (show q.n = N from htw.vw.nn)
  have HBW := Lib.hid (fun (w' : World) (h : Below w3.heap.size w3 w') => show Below w.heap.size w w' from bthen H3.out.2.2 h)
  have HCC := Lib.hid (fun (w' : World) (h : Below w3.heap.size w3 w') => show CfB cf bc w' from CfB.below H3.out.1 H3.out.2.1 h)
  have HFAR := Lib.hid (show Far w6.heap.size c N from by have := htw.vw.qs.rack.far; rwa [htw.vw.nn] at this)
  have HFV := Lib.hid (show FarV w6.heap.size c N from by have := htw.vw.qs.rack.farV (Nat.le_refl w6.heap.size); rwa [htw.vw.nn] at this)
  have HBT := Lib.hid (show b < w6.heap.size ∧ t < w6.heap.size ∧ w3.heap.size ≤ w6.heap.size from ⟨htw.vw.vb.lt, htw.tp.lt, htw.vw.qs.le⟩)
  obtain ⟨K, hK⟩ : ∃ K : Nat, cf.k = K := ⟨cf.k.toNat, by have := HKS.out.1; omega⟩
  have HK := Lib.hid hK
  have HCELL := Lib.hid (fun (w' : World) (h : Below w3.heap.size w3 w') => show w'.cell? ⟨bc, 0, none⟩ = some (.int .i64 cf.id) ∧ w'.cell? ⟨bc, 1, none⟩ = some (.int .i64 K) ∧ w'.cell? ⟨bc, 2, none⟩ = some (.int .i64 N) ∧ w'.cell? ⟨bc, 3, none⟩ = some (.int .i64 5) ∧ w'.cell? ⟨bc, 4, none⟩ = some (.int .i64 2) by
    have := CfB.cells (HCC.out w' h)
    rw [hK, HT.out.1, HT.out.2, ← HNC.out] at this
    exact this)
  obtain ⟨gl, cl, rfl, -⟩ := own_slice hot.top
  generalize allP q1 = P at *
  clear hrc hn6 hk6 hrem hl hg htp htw hwb hwt hot hK CO CM HQ5 HMF HJ5 H4 H3
  simp only [List.length_nil] at *
  go_wp2_with fail
  refine (within_int f_ 0 100 w6 (by omega) (by omega) (by omega)).mono ?_
  rintro e w7 ⟨fz, hfz, rfl, rfl⟩
  have CA := Lib.hid (HT6.out.vw.arm fz (by omega) (by omega))
  go_wp2_with fail
  refine CA.out.mono ?_
  rintro e w8 ⟨rfl, hvw8, hrc8⟩
  have HT8 := Lib.hid (HT6.out.rc hvw8 hrc8)
  have HL8 := Lib.hid (HL6.out.arm (f := fz) (by omega) (by omega))
  have HS8 := Lib.hid hrc8.size
  generalize q.arm fz = q8 at *
  have HKN := Lib.hid (show 1 ≤ K ∧ K ≤ N ∧ N ≤ 6 by have h1 := HKS.out; have h2 := HK.out; have h3 := HNC.out; omega)
  clear hvw8 hrc8 CA hfz HT6 HL6 HR6 HN6
  go_wp2_with fail
  go_loopw [19, 20, 21] (fun x y i wr => y = .slice none 0 0 ∧ RelTc1 w3 w6 c cf N b t P ls.length x i wr) (fun _ _ i _ => 5 - (intOf i).toNat)
  case atStart =>
    exact ⟨rfl, q8, V, [], [], by simp, by simp, rfl, HT8.out, HL8.out, HTP6.out, fun _ h => (by cases h), ownT_nil _ _ _, HS8.out⟩
  case round =>
    obtain ⟨rfl, qm, Vm, us, Ls, h5, hL5, rfl, htw, hlv, htp, hsh, hot, hsz⟩ := hrel
    have HTM := Lib.hid htw
    have HLM := Lib.hid hlv
    have HTPM := Lib.hid htp
    have HSH := Lib.hid hsh
    have HOT := Lib.hid hot
    have HSZ := Lib.hid hsz
    obtain ⟨gx, cx, rfl, -⟩ := own_slice hot.top
    generalize hm : Ls.length = m at *
    have HM := Lib.hid hm
    clear htw hlv htp hsh hot hsz hm
    by_cases hlt : m < ls.length
    · by_cases hlt5 : m < 5
      · have hBW : Below w.heap.size w wr := HBW.out wr HTM.out.vw.qs.base
        obtain ⟨b1, o1, cap1, u, e1, _, hb1, hu0, hu2⟩ := HV.out.row hlt
        have hu1 : wr.cell? ⟨b1, o1 + m, none⟩ = some u := (hBW.cell (p := ⟨b1, o1 + m, none⟩) hb1).trans hu0
        injection e1 with e1 _ e2
        subst e1 e2
        obtain ⟨a2, c2, rfl, hc2⟩ := hu2.len
        have hll := HLS.out _ (show ls.getD m [] ∈ ls by simp [List.getD, hlt])
        unfold maxLen at hll
        have HP := Lib.hid (slb_take (m := min (ls.getD m []).length 90) hu2 (by omega))
        rw [show (ls.getD m []).take (min (ls.getD m []).length 90) = piece 90 (ls.getD m []) from rfl] at HP
        have hpl := piece_length 90 (ls.getD m [])
        have hm2 : min ((ls.getD m []).length : Int) 90 = ((min (ls.getD m []).length 90 : Nat) : Int) := by omega
        have hm1 : (if (90 : Int) < (ls.getD m []).length then 90 else ((ls.getD m []).length : Int)) = ((min (ls.getD m []).length 90 : Nat) : Int) := by split <;> omega
        have hp1 : min (ls.getD m []).length 90 ≤ 90 := by omega
        have hp2 : min (ls.getD m []).length 90 ≤ c2 := by omega
        generalize piece 90 (ls.getD m []) = pc at *
        generalize (ls.getD m []).length = n2 at *
        generalize min n2 90 = mm at *
        subst hpl
        have i1 : (0 : Int) ≤ pc.length := by omega
        have i2 : (pc.length : Int) ≤ c2 := by omega
        have i3 : (m : Int) < ls.length := by omega
        have i4 : (0 : Int) ≤ m := by omega
        have i5 : (m : Int) < 5 := by omega
        have HPL := Lib.hid hp1
        have HFB := Lib.hid (first_byte (m := m) (by omega) pc)
        have hmem : ∀ w', KW w w' → KW w w' ∧ w'.cell? ⟨b1, o1 + m, none⟩ = some (.slice a2 n2 c2) := fun w' hk => ⟨hk, (Below.cell hk (p := ⟨b1, o1 + m, none⟩) hb1).trans hu0⟩
        have HMEM := Lib.hid hmem
        have hk0 : KW w wr := hBW
        have HK0 := Lib.hid hBW
        have HPR := Lib.hid (HP.out.below hBW)
        have hz : w.heap.size ≤ wr.heap.size := hBW.size
        clear hu0 hu2 hmem hBW
        go_wp2_with fail
        go_region_held3 (fun w' => KW w w' ∧ w'.cell? ⟨b1, o1 + m, none⟩ = some (.slice a2 n2 c2)) (exact HMEM.out _ (by (repeat (first | assumption | refine KW.drew ?_ | refine KW.alloc ?_ _)))) (first | (refine step_append_bytes (o := ⟨some 93, _, _, _, _, _⟩) _ rfl (.tmp 81) (.tmp 92) (by rfl) wr.heap.size _ 1 [.int .u8 ((m : Int) % 256)] (by rfl) ?_ w.heap.size _ pc (by rfl) ?_ ?_ ?_ ?_; exact one_at wr _ (by rfl); exact slb_push HPR.out hz (.cells #[.int .u8 ((m : Int) % 256)] 5) (by rfl); omega; exact size_push (w := wr) (o := .cells #[.int .u8 ((m : Int) % 256)] 5) (by rfl) (Nat.le_refl _); intro v2 w2 hown hg; rw [HFB.out] at hown; obtain ⟨g2, q2, rfl, _⟩ := own_slice hown; have HU2 := Lib.hid hown; have HB2 := Lib.hid (grew_new0 (grew_back (w := wr) (o := .cells #[.int .u8 ((m : Int) % 256)] 5) hg (by rfl) (by rfl) (by rfl) (by rfl))); have hk2 : KW w w2 := bthen HK0.out HB2.out; clear hown hg))
        all_goals
          have HS9 := Lib.hid (own_single HU2.out (by simp; omega) HB2.out.size)
          have HB9 := Lib.hid (bthen HB2.out (one_below w2 (.cells #[.slice g2 (1 + pc.length) q2] 24)))
          have HNE := Lib.hid (show fillL cf.k.toNat [UInt8.ofNat m :: pc] ≠ [] from fill_single (by have := HKS.out.1; omega) (by simp) (by have := HPL.out; simp; omega))
          obtain ⟨x, hx⟩ : ∃ x, x = UInt8.ofNat m :: pc := ⟨_, rfl⟩
          have HXL := Lib.hid (show x.length ≤ 200 by rw [hx]; have := HPL.out; simp; omega)
          rw [← hx] at HS9 HNE
          generalize (w2.alloc (.cells #[.slice g2 (1 + pc.length) q2] 24)) = w9 at *
          generalize w2.heap.size = b9 at *
          clear hx HU2 HFB HP HPR HMEM
          have CT := Lib.hid (tapp_any (u := m) (HTM.out.below HB9.out) HLM.out (by rw [HTM.out.vw.nn]; exact HENO.out) (by omega) (by rw [HT.out.1]; omega) _ [x] HS9.out.slbs (by simp))
          go_wp2_with fail
          refine CT.out.mono ?_
          rintro e w10 (⟨⟨h0, _⟩ | ⟨_, h1, _⟩, _⟩ | ⟨_, _, q10, hrc10, hn10, hk10, hres⟩)
          · exact absurd h0 HNE.out
          · exact absurd h1 (by rw [HT.out.1]; omega)
          have hagr : Agr (fun k => w6.heap.size ≤ k) w9 w10 := Agr.of_rct hrc10 (HTM.out.below HB9.out).vw.qs.rack HTM.out.vw.nn HFAR.out fun k hk => ⟨Or.inr hk, by have := HBT.out; omega, by have := HBT.out; omega⟩
          have hot10 := (HOT.out.below HB9.out).rct hrc10 (HTM.out.below HB9.out).vw.qs.rack HTM.out.vw.nn HFAR.out (HTM.out.below HB9.out).vw.vb (HTM.out.below HB9.out).tp fun k hk => ⟨Or.inr hk, by have := HBT.out; omega, by have := HBT.out; omega⟩
          have hsa10 := HS9.out.sub (S' := fun k => w6.heap.size ≤ k) fun k _ hk => Nat.le_trans HSZ.out hk
          obtain ⟨rfl, hf10, htw10, hl10⟩ | ⟨v10, hkv10, rfl, hrem10, htw10, hoff10, hd10⟩ := hres
          · have HX10 := Lib.hid (show TW w3 c cf N q10 (1 + ((m + 1 : Nat) : Int)) false b t ((m + 1 : Nat) : Int) w10 ∧ Live cf (addY cf Vm (cRec (1 + (m : Int)) m (fillL cf.k.toNat [x]))) P q10 (1 + ((m + 1 : Nat) : Int)) by
              rw [show (1 + ((m + 1 : Nat) : Int)) = 1 + (m : Int) + 1 from by omega]; exact ⟨htw10, hl10⟩)
            have HTP10 := Lib.hid (show Taped cf.t.toNat (addY cf Vm (cRec (1 + (m : Int)) m (fillL cf.k.toNat [x]))).G (addY cf Vm (cRec (1 + (m : Int)) m (fillL cf.k.toNat [x]))).B (Ls ++ [[x]]) from by
              have := addY_taped (g := 1 + (m : Int)) (own := [x]) HTPM.out (by rw [HM.out, HT.out.1]; omega) (by omega) (by have := HKS.out; omega) HNE.out
              rwa [HM.out] at this)
            have HSH10 := Lib.hid (HSH.out.snoc (x := [x]) (by simp) fun l hl => by rw [List.mem_singleton] at hl; subst hl; exact HXL.out)
            have HO10 := Lib.hid hot10
            have HSA := Lib.hid ((HS9.out.sub (S' := fun k => w6.heap.size ≤ k ∧ (Value.slice gx m cx).ownBlock ≠ some k) fun k _ hk => ⟨Nat.le_trans HSZ.out hk, fun e => by have := (own_block HOT.out.top e).2; omega⟩).agr ⟨hagr.size, fun k hk hs => hagr.block k hk hs.1⟩)
            have HSZ10 := Lib.hid (show w6.heap.size ≤ w10.heap.size from Nat.le_trans HSZ.out (Nat.le_trans HB9.out.size hagr.size))
            have HTOP := Lib.hid (show w10.ownsRow w6.heap.size 25 1 (.slice gx m cx) m us by have := hot10.top; rwa [HM.out] at this)
            clear hf10 htw10 hl10 hagr hot10 hsa10 hrc10 hn10 hk10
            go_wp2_with (at_builtin; refine wpList_append_rows (o := ⟨some 107, _, _, _, _, _⟩) _ rfl (.tmp 104) (.tmp 106) rfl w6.heap.size _ _ us rfl (own_below HTOP.out (one_below _ _)) w10.heap.size (.slice (some ⟨b9, 0, none⟩) 1 1) rfl (new_cells _ _ _ _ _ rfl) rfl (by omega) (Nat.le_trans HSZ10.out (one_below _ _).size) ?_; intro v11 w11 h11 hg11; have H11 := Lib.hid (OwnT.snoc (HO10.out.below (one_below _ _)) (HSA.out.agr (Agr.of_below (one_below _ _))) (by rw [HM.out]; exact h11) hg11); have HAG := Lib.hid (show Below w6.heap.size w10 w11 from ((one_below _ _).mono HSZ10.out).trans (hg11.below (Nat.le_trans HSZ10.out (one_below _ _).size) fun k hk => (own_block HO10.out.top hk).1)); clear h11 hg11)
            go_roundw
            case rel =>
              have hlen : (Ls ++ [[x]]).length = m + 1 := by rw [List.length_append, HM.out]; rfl
              refine ⟨rfl, q10, _, _, Ls ++ [[x]], ?_, ?_, ?_, ?_, ?_, HTP10.out, HSH10.out, H11.out, ?_⟩
              · rw [hlen]; omega
              · rw [hlen]; omega
              · rw [hlen]; go_num
              · rw [hlen]; exact HX10.out.1.belowB HAG.out HFV.out HBT.out.1 HBT.out.2.1 HBT.out.2.2
              · rw [hlen]; exact HX10.out.2
              · exact Nat.le_trans HSZ10.out HAG.out.size
            case measure => simp [intOf]; omega
          · obtain ⟨TT, xx, rfl⟩ := hkv10.some (by decide)
            have RQ := Lib.hid htw10.vw.qs
            have RN := Lib.hid htw10.vw.nn
            have RD := Lib.hid hd10
            have RT := HTPM
            have RY := Lib.hid (show ∀ y, (some (cRec (1 + (m : Int)) m (fillL cf.k.toNat [x])) : Option Rc) = some y → (y.t.toNat = Ls.length ∧ 1 < y.q ∧ Ls.length < cf.t.toNat) ∧ emptyL y.b = [x] from fun y e => by
              injection e with e
              subst e
              refine ⟨⟨by rw [HM.out]; exact Int.toNat_natCast m, by show 1 < 1 + (m : Int) + 1; omega, by rw [HM.out, HT.out.1]; omega⟩, empty_fill (by have := HKS.out; omega) HNE.out⟩)
            have RS := HSH
            have RZ := Lib.hid (show w6.heap.size ≤ w10.heap.size from Nat.le_trans HSZ.out (Nat.le_trans HB9.out.size hagr.size))
            have RO := Lib.hid hot10
            have RC := Lib.hid ((HS9.out.sub (S' := fun k => w6.heap.size ≤ k ∧ (Value.slice gx m cx).ownBlock ≠ some k) fun k _ hk => ⟨Nat.le_trans HSZ.out hk, fun e => by have := (own_block HOT.out.top e).2; omega⟩).agr ⟨hagr.size, fun k hk hs => hagr.block k hk hs.1⟩)
            have CB := Lib.hid (RQ.out.boot (.slice ab lb.length cb) lb ((HVB.out.below (HBW.out _ RQ.out.base)).wider (HBW.out _ RQ.out.base).size) HLB.out)
            have RR := Lib.hid (RD.out.boot fun i => lb.getD i 0)
            go_wp2_with fail
            refine CB.out.mono ?_
            rintro e wB ⟨rfl, hqB, hcB⟩
            rw [RN.out] at hcB
            have RQB := Lib.hid hqB
            have RNB := Lib.hid (show (q10.boot fun i => lb.getD i 0).n = N from RR.out.2.2.1.trans RN.out)
            have hagB : Agr (fun k => w6.heap.size ≤ k) w10 wB := Agr.of_rc hcB RQ.out.rack RN.out HFAR.out fun k hk => Or.inr hk
            have ROB := Lib.hid (RO.out.next hagB (own_rc RO.out.top HFAR.out hcB))
            have RCB := Lib.hid (RC.out.agr ⟨hagB.size, fun k hk hs => hagB.block k hk hs.1⟩)
            generalize (q10.boot fun i => lb.getD i 0) = qB at *
            have RZB := Lib.hid (show w6.heap.size ≤ wB.heap.size from Nat.le_trans RZ.out hcB.size)
            clear hqB hcB hagB CB
            go_wp2_with fail
            go_loopw [25] (fun i wr => RelTc2 w3 w6 c cf N K Vm (some (cRec (1 + (m : Int)) m (fillL cf.k.toNat [x]))) (1 + (m : Int) + 1) (.slice gx m cx) (.slice (some ⟨b9, 0, none⟩) 1 1) us Ls [x] i wr) (fun i _ => N - K - (intOf i).toNat)
            case atStart =>
              exact ⟨0, P, qB, Nat.zero_le _, rfl, RQB.out, RNB.out, RR.out.2.1, RR.out.1, by have := HALL.out; have := HKN.out; omega, ROB.out, RCB.out, RZB.out⟩
            case round =>
              obtain ⟨z, Pz, qz, hz, rfl, hqs, hqn, hqr, hraw, hcnt, hoz, hcz, hwz⟩ := hrel
              have HQS := Lib.hid hqs
              have HQN := Lib.hid hqn
              have HQR := Lib.hid hqr
              have HRW := Lib.hid hraw
              have HCN := Lib.hid hcnt
              have HOZ := Lib.hid hoz
              have HCZ := Lib.hid hcz
              have HSZR := Lib.hid hwz
              obtain ⟨c0, c1, c2', c3', c4'⟩ := HCELL.out wr hqs.base
              have hkn := HKN.out
              clear hqs hqn hqr hraw hcnt hoz hcz hwz
              by_cases hlz : z < N - K
              · have e1 : decide ((z : Int) < (N : Int) - (K : Int)) = true := decide_eq_true (by omega)
                have HLZ := Lib.hid hlz
                have HDIE := Lib.hid (fun (wd : World) (hbd : Below wr.heap.size wr wd) (d : Nat) (hd : d < N) => show Calls Tryz.prog 28 #[.pointer (some ⟨c.r, 0, none⟩), .int .i64 (d : Int)] wd (fun e w' => (∃ v, e = .returned v) ∧ RelTc2 w3 w6 c cf N K Vm (some (cRec (1 + (m : Int)) m (fillL cf.k.toNat [x]))) (1 + (m : Int) + 1) (.slice gx m cx) (.slice (some ⟨b9, 0, none⟩) 1 1) us Ls [x] (.int .i64 ((z : Int) + 1)) w') from by
                  have hq := HQS.out.below hbd
                  refine (qs_die hq d).mono ?_
                  rintro e w' ⟨rfl, hq', hc'⟩
                  rw [HQN.out] at hc'
                  have hag : Agr (fun k => w6.heap.size ≤ k) wd w' := Agr.of_rc hc' hq.rack HQN.out HFAR.out fun k hk => Or.inr hk
                  have ho := HOZ.out.below hbd
                  refine ⟨⟨_, rfl⟩, z + 1, PD Pz d, _, hlz, rfl, hq', (dying_rem qz d true).2.1.trans HQN.out, (dying_rem qz d true).1.trans HQR.out, raw_die HRW.out (by rw [HQN.out]; exact hd), ?_, ho.next hag (own_rc ho.top HFAR.out hc'), (HCZ.out.agr (Agr.of_below hbd)).agr ⟨hag.size, fun k hk hs => hag.block k hk hs.1⟩, Nat.le_trans HSZR.out (Nat.le_trans hbd.size hag.size)⟩
                  have h1 := pd_count (P := Pz) hd
                  have h2 := HCN.out
                  omega)
                by_cases hg : z < lg.length
                · have hBz : Below w.heap.size w wr := HBW.out wr HQS.out.base
                  obtain ⟨bg, og, cg', eg, hgc⟩ := HVG.out.num (Nat.le_refl _) hBz hg
                  injection eg with eg1 _ eg3
                  subst eg1 eg3
                  have hgl : bg < wr.heap.size := World.block_lt_of_cell? wr ⟨bg, og + z, none⟩ hgc
                  have lc' : ∀ w', Below wr.heap.size wr w' → w'.cell? ⟨bg, og + z, none⟩ = some (.int .i64 (lg.getD z 0)) := fun w' h => (h.cell (p := ⟨bg, og + z, none⟩) hgl).trans hgc
                  have dn : ∀ w', Below wr.heap.size wr w' → w'.cell? ⟨bc, 2, none⟩ = some (.int .i64 (N : Int)) := fun w' h => (HCELL.out w' (bthen HQS.out.base h)).2.2.1
                  have hb0 : Below wr.heap.size wr wr.drew := (Below.refl _ _).drew
                  have hgI : (z : Int) < lg.length := by omega
                  have hN1 : (1 : Int) ≤ N := by omega
                  have hN6 : (N : Int) ≤ 6 := by omega
                  generalize lg.getD z 0 = gz at *
                  clear hBz hgc
                  go_wp2_with fail
                  have hwn : IntKind.i64.wrap ((N : Int) - 1) = (N : Int) - 1 := by rw [IntKind.wrap_i64]; omega
                  clear e1 hkn hgI hgl hlz hz
                  refine wp_region_noPanic ?_
                  refine wp_region_held_drew (S := (fun w' => Below wr.heap.size wr w')) (by kernel_rfl) hb0 (fun hHeld => ?_)
                  refine wpAnyH_take (i := 0) (oi := ⟨some 125, _, _, _, _, _⟩) (v := ?_) rfl (by kernel_rfl) (by kernel_rfl) (by kernel_rfl) (fun _ _ _ h => h) (Or.inl ⟨by rfl, ?_⟩) hHeld ?_
                  rotate_left
                  · intro w hSw; (go_simp; try with_reducible rfl)
                  simp only [Act.put, List.setIfInBounds_toArray, List.set_cons_zero, List.set_cons_succ]
                  refine wpAnyH_take (i := 1) (oi := ⟨some 126, _, _, _, _, _⟩) (v := ?_) rfl (by kernel_rfl) (by kernel_rfl) (by kernel_rfl) (fun _ _ _ h => h) (Or.inl ⟨by rfl, ?_⟩) hHeld ?_
                  rotate_left
                  · intro w hSw; (go_simp; try with_reducible rfl)
                  simp only [Act.put, List.setIfInBounds_toArray, List.set_cons_zero, List.set_cons_succ]
                  refine wpAnyH_take (i := 2) (oi := ⟨some 127, _, _, _, _, _⟩) (v := ?_) rfl (by kernel_rfl) (by kernel_rfl) (by kernel_rfl) (fun _ _ _ h => h) (Or.inl ⟨by rfl, ?_⟩) hHeld ?_
                  rotate_left
                  · intro w hSw; (go_simp; try with_reducible rfl)
                  simp only [Act.put, List.setIfInBounds_toArray, List.set_cons_zero, List.set_cons_succ]
                  refine wpAnyH_take (i := 3) (oi := ⟨some 128, _, _, _, _, _⟩) (v := ?_) rfl (by kernel_rfl) (by kernel_rfl) (by kernel_rfl) (fun _ _ _ h => h) (Or.inl ⟨by rfl, ?_⟩) hHeld ?_
                  rotate_left
                  · intro w hSw; (go_simp; try with_reducible rfl)
                  simp only [Act.put, List.setIfInBounds_toArray, List.set_cons_zero, List.set_cons_succ]
                  refine wpAnyH_take (i := 4) (oi := ⟨some 129, _, _, _, _, _⟩) (v := ?_) rfl (by kernel_rfl) (by kernel_rfl) (by kernel_rfl) (fun _ _ _ h => h) (Or.inl ⟨by rfl, ?_⟩) hHeld ?_
                  rotate_left
                  · intro w hSw; (go_simp; try with_reducible rfl)
                  simp only [Act.put, List.setIfInBounds_toArray, List.set_cons_zero, List.set_cons_succ]
                  refine wpAnyH_take (i := 5) (oi := ⟨some 130, _, _, _, _, _⟩) (v := ?_) rfl (by kernel_rfl) (by kernel_rfl) (by kernel_rfl) (fun _ _ _ h => h) (Or.inl ⟨by rfl, ?_⟩) hHeld ?_
                  rotate_left
                  · intro w hSw; (go_simp; try with_reducible rfl)
                  simp only [Act.put, List.setIfInBounds_toArray, List.set_cons_zero, List.set_cons_succ]
                  refine wpAnyH_take (i := 6) (oi := ⟨some 131, _, _, _, _, _⟩) (v := ?_) rfl (by kernel_rfl) (by kernel_rfl) (by kernel_rfl) (fun _ _ _ h => h) (Or.inl ⟨by rfl, ?_⟩) hHeld ?_
                  rotate_left
                  · intro w hSw; (go_simp; try with_reducible rfl)
                  simp only [Act.put, List.setIfInBounds_toArray, List.set_cons_zero, List.set_cons_succ]
                  refine wpAnyH_ready (rs := [7]) (by kernel_rfl) (by simp) (AllReadyH.cons rfl (fun K hK => ?_) AllReadyH.nil)
                  go_simp
                  try rw [hwn]
                  refine (within_int gz 0 ((N : Int) - 1) _ (by omega) (by omega) (by omega)).mono ?_
                  rintro e wI ⟨dd, hdd, rfl, rfl⟩
                  have hI := hHeld
                  refine hK.out _ _ hI (fun _ => ?_)
                  clear hK K
                  refine wpAnyH_take (i := 8) (oi := ⟨some 26, _, _, _, _, _⟩) (v := ?_) rfl (by kernel_rfl) (by kernel_rfl) (by kernel_rfl) (fun _ _ _ h => h) (Or.inl ⟨by rfl, ?_⟩) hI ?_
                  rotate_left
                  · intro w hSw; (go_simp; try with_reducible rfl)
                  simp only [Act.put, List.setIfInBounds_toArray, List.set_cons_zero, List.set_cons_succ]
                  refine wpAnyH_done (by kernel_rfl) ?_ _
                  refine NoPanic.normal ?_
                  obtain ⟨dd, rfl⟩ := Int.eq_ofNat_of_zero_le hdd.1
                  have HDD := Lib.hid (HDIE.out _ hI dd (by omega))
                  clear lc' dn hb0 hI hHeld hdd hwn
                  have hz2 : (z : Int) < 6 := by have h1 := HLZ.out; have h2 := HKN.out; omega
                  go_wp2_with fail
                  refine HDD.out.mono ?_
                  rintro e wD ⟨⟨vD, rfl⟩, hrD⟩
                  have HRD := Lib.hid hrD
                  clear hrD
                  go_wp2_with fail
                  go_roundw
                  case rel => exact HRD.out
                  case measure => have h1 := HLZ.out; simp [intOf]; omega
                · have e2 : decide ((z : Int) < (lg.length : Int)) = false := decide_eq_false (by omega)
                  have HDD := Lib.hid (HDIE.out wr (Below.refl _ _) z (by omega))
                  go_wp2_with fail
                  refine HDD.out.mono ?_
                  rintro e wD ⟨⟨vD, rfl⟩, hrD⟩
                  have HRD := Lib.hid hrD
                  clear hrD
                  go_wp2_with fail
                  go_roundw
                  case rel => exact HRD.out
                  case measure => simp [intOf]; omega
              · obtain rfl : z = N - K := by omega
                have e1 : decide (((N - K : Nat) : Int) < (N : Int) - (K : Int)) = false := decide_eq_false (by omega)
                have CO2 := Lib.hid (topen_ok HQS.out HQN.out HRW.out ⟨by rw [HQN.out, show cf.k.toNat = K by have := HK.out; omega]; have := HCN.out; omega⟩ HQR.out RT.out (fun y e => (RY.out y e).1))
                go_wp2_with fail
                refine CO2.out.mono ?_
                rintro e wf ⟨qf, bf, tf, gf, Vf, lvf, usf, Lf, rfl, hrcf, hnf, hkf, hremf, hlf, hgf, htpf, hLf, htwf, hwbf, hwtf, hotf⟩
                have hagf : Agr (fun k => w6.heap.size ≤ k) wr wf := Agr.of_rc hrcf HQS.out.rack HQN.out HFAR.out fun k hk => Or.inr hk
                have HTF := Lib.hid htwf
                have HOF := Lib.hid hotf
                have HOW := Lib.hid (HOZ.out.next hagf (own_rc HOZ.out.top HFAR.out hrcf))
                have HCW := Lib.hid (HCZ.out.agr ⟨hagf.size, fun k hk hs => hagf.block k hk hs.1⟩)
                have HBF := Lib.hid (HBW.out wf htwf.vw.qs.base)
                have HSZW := Lib.hid (show w6.heap.size ≤ wf.heap.size from Nat.le_trans HSZR.out hrcf.size)
                have HLF := Lib.hid hLf
                obtain ⟨gq, cq, rfl, -⟩ := own_slice hotf.top
                have CU := Lib.hid (tused_any wf htwf.tp)
                have HLS5 := Lib.hid (show Ls.length ≤ 5 by have := HM.out; omega)
                clear hagf hrcf hnf hkf hremf hlf hgf htpf hLf htwf hwbf hwtf hotf CO2 c0 c1 c2' c3' c4' e1 hkn
                go_wp2_with fail
                refine CU.out.mono ?_
                rintro e wU ⟨rfl, rfl⟩
                clear CU
                rcases HLF.out with rfl | ⟨y, hy, rfl⟩
                · have CL := Lib.hid (show Calls Tryz.prog 16 #[.slice gq Lf.length cq, .slice gx m cx] wf (Bit (decide (Lf = Lf)) wf) from all_any _ _ Lf Lf wf HOF.out.slAt HOW.out.slAt (by have := HLS5.out; omega) RS.out.fit)
                  go_wp2_with fail
                  refine CL.out.mono ?_
                  rintro e wL ⟨rfl, hbL⟩
                  have HBL := Lib.hid hbL
                  clear hbL CL
                  simp only [decide_true]
                  go_wp2_with fail
                  refine (truns_any _).mono ?_
                  rintro e wT ⟨rfl, hbT⟩
                  have HBT2 := Lib.hid hbT
                  clear hbT
                  go_wp2_with fail
                  go_ret
                  exact bit rfl (bthen (bthen HBF.out HBL.out) HBT2.out)
                · have hyb := (RY.out y hy).2
                  rw [hyb] at HOF ⊢
                  have HSH2 := Lib.hid (RS.out.snoc (x := [x]) (by simp) fun l hl => by rw [List.mem_singleton] at hl; subst hl; exact HXL.out)
                  have hne : decide (Ls ++ [[x]] = Ls) = false := decide_eq_false fun e => by have := congrArg List.length e; simp at this
                  have CL := Lib.hid (show Calls Tryz.prog 16 #[.slice gq (Ls ++ [[x]]).length cq, .slice gx m cx] wf (Bit false wf) from by
                    have := all_any (.slice gq (Ls ++ [[x]]).length cq) (.slice gx m cx) (Ls ++ [[x]]) Ls wf HOF.out.slAt HOW.out.slAt (by rw [List.length_append]; have := HLS5.out; simp; omega) HSH2.out.fit
                    rwa [hne] at this)
                  clear hne hyb
                  generalize hLL : (Ls ++ [[x]]).length = LL at *
                  have HLLE := Lib.hid hLL
                  clear hLL
                  go_wp2_with fail
                  refine CL.out.mono ?_
                  rintro e wL ⟨rfl, hbL⟩
                  have HBL := Lib.hid hbL
                  clear hbL CL
                  have HTW2 := Lib.hid (show wL.ownsRow w6.heap.size 25 1 (.slice gx m cx) m us by have := (HOW.out.below HBL.out).top; rwa [HM.out] at this)
                  have HSZL := Lib.hid (show w6.heap.size ≤ wL.heap.size from Nat.le_trans HSZW.out HBL.out.size)
                  have HGOT := Lib.hid (((HOF.out.below HBL.out).below (one_below wL (.cells #[.slice (some ⟨b9, 0, none⟩) 1 1] 25))).slAtB)
                  go_wp2_with (refine wpList_append_rowsG (o := ⟨some 167, _, _, _, _, _⟩) _ (by rfl) (.tmp 164) (.tmp 166) rfl w6.heap.size _ _ us rfl (own_below HTW2.out (one_below _ _)) wL.heap.size (.slice (some ⟨b9, 0, none⟩) 1 1) rfl (new_cells _ _ _ _ _ rfl) rfl (by omega) (Nat.le_trans HSZL.out (one_below _ _).size) ?_; intro v13 w13 h13 hg13; have H13 := Lib.hid (OwnT.snoc ((HOW.out.below HBL.out).below (one_below _ _)) ((HCW.out.agr (Agr.of_below HBL.out)).agr (Agr.of_below (one_below _ _))) (by rw [HM.out]; exact h13) hg13); have HG13 := Lib.hid (HGOT.out.agr (Agr.of_grew hg13 fun k hk e => by have := (own_block HOZ.out.top e).2; omega)); have HBG := Lib.hid (show Below w6.heap.size wL w13 from ((one_below _ _).mono HSZL.out).trans (hg13.below (B := w6.heap.size) (Nat.le_trans HSZL.out (one_below _ _).size) fun k hk => (own_block HOW.out.top hk).1)); obtain ⟨g13, c13, rfl, -⟩ := own_slice h13; clear h13 hg13)
                  have CL2 := Lib.hid (show Calls Tryz.prog 16 #[.slice gq LL cq, .slice g13 (m + 1) c13] w13 (Bit true w13) from by
                    have := all_any (.slice gq LL cq) (.slice g13 (m + 1) c13) (Ls ++ [[x]]) (Ls ++ [[x]]) w13 HG13.out H13.out.slAt (by rw [List.length_append]; have := HLS5.out; simp; omega) HSH2.out.fit
                    rwa [decide_eq_true rfl] at this)
                  refine CL2.out.mono ?_
                  rintro e w14 ⟨rfl, hb14⟩
                  have HB14 := Lib.hid hb14
                  clear hb14 CL2
                  go_wp2_with fail
                  refine (truns_any _).mono ?_
                  rintro e wT ⟨rfl, hbT⟩
                  have HBT2 := Lib.hid hbT
                  clear hbT
                  go_wp2_with fail
                  go_ret
                  have hw6 : w.heap.size ≤ w6.heap.size := Nat.le_trans (HBW.out w3 (Below.refl _ _)).size HBT.out.2.2
                  exact bit rfl (bthen (bthen ((bthen HBF.out HBL.out).trans (HBG.out.mono hw6)) HB14.out) HBT2.out)

      · have hm5 : (5 : Int) ≤ m := by omega
        have RQ := Lib.hid HTM.out.vw.qs
        have RN := Lib.hid HTM.out.vw.nn
        have RD := Lib.hid HLM.out.down
        have RT := HTPM
        have RY := Lib.hid (show ∀ y, (none : Option Rc) = some y → (y.t.toNat = Ls.length ∧ 1 < y.q ∧ Ls.length < cf.t.toNat) ∧ emptyL y.b = ([] : List (List UInt8)) from fun y e => by cases e)
        have RS := HSH
        have RZ := HSZ
        have RO := HOT
        have RC := Lib.hid (show SlAs (fun k => w6.heap.size ≤ k ∧ (Value.slice gx m cx).ownBlock ≠ some k) wr (.slice none 0 0) [] from Or.inl ⟨rfl, _, _, rfl⟩)
        have CB := Lib.hid (RQ.out.boot (.slice ab lb.length cb) lb ((HVB.out.below (HBW.out _ RQ.out.base)).wider (HBW.out _ RQ.out.base).size) HLB.out)
        have RR := Lib.hid (RD.out.boot fun i => lb.getD i 0)
        go_wp2_with fail
        refine CB.out.mono ?_
        rintro e wB ⟨rfl, hqB, hcB⟩
        rw [RN.out] at hcB
        have RQB := Lib.hid hqB
        have RNB := Lib.hid (show (qm.boot fun i => lb.getD i 0).n = N from RR.out.2.2.1.trans RN.out)
        have hagB : Agr (fun k => w6.heap.size ≤ k) wr wB := Agr.of_rc hcB RQ.out.rack RN.out HFAR.out fun k hk => Or.inr hk
        have ROB := Lib.hid (RO.out.next hagB (own_rc RO.out.top HFAR.out hcB))
        have RCB := Lib.hid (RC.out.agr ⟨hagB.size, fun k hk hs => hagB.block k hk hs.1⟩)
        generalize (qm.boot fun i => lb.getD i 0) = qB at *
        have RZB := Lib.hid (show w6.heap.size ≤ wB.heap.size from Nat.le_trans RZ.out hcB.size)
        clear hqB hcB hagB CB
        go_wp2_with fail
        go_loopw [25] (fun i wr => RelTc2 w3 w6 c cf N K Vm none (1 + (m : Int)) (.slice gx m cx) (.slice none 0 0) us Ls [] i wr) (fun i _ => N - K - (intOf i).toNat)
        case atStart =>
          exact ⟨0, P, qB, Nat.zero_le _, rfl, RQB.out, RNB.out, RR.out.2.1, RR.out.1, by have := HALL.out; have := HKN.out; omega, ROB.out, RCB.out, RZB.out⟩
        case round =>
          obtain ⟨z, Pz, qz, hz, rfl, hqs, hqn, hqr, hraw, hcnt, hoz, hcz, hwz⟩ := hrel
          have HQS := Lib.hid hqs
          have HQN := Lib.hid hqn
          have HQR := Lib.hid hqr
          have HRW := Lib.hid hraw
          have HCN := Lib.hid hcnt
          have HOZ := Lib.hid hoz
          have HCZ := Lib.hid hcz
          have HSZR := Lib.hid hwz
          obtain ⟨c0, c1, c2', c3', c4'⟩ := HCELL.out wr hqs.base
          have hkn := HKN.out
          clear hqs hqn hqr hraw hcnt hoz hcz hwz
          by_cases hlz : z < N - K
          · have e1 : decide ((z : Int) < (N : Int) - (K : Int)) = true := decide_eq_true (by omega)
            have HLZ := Lib.hid hlz
            have HDIE := Lib.hid (fun (wd : World) (hbd : Below wr.heap.size wr wd) (d : Nat) (hd : d < N) => show Calls Tryz.prog 28 #[.pointer (some ⟨c.r, 0, none⟩), .int .i64 (d : Int)] wd (fun e w' => (∃ v, e = .returned v) ∧ RelTc2 w3 w6 c cf N K Vm none (1 + (m : Int)) (.slice gx m cx) (.slice none 0 0) us Ls [] (.int .i64 ((z : Int) + 1)) w') from by
              have hq := HQS.out.below hbd
              refine (qs_die hq d).mono ?_
              rintro e w' ⟨rfl, hq', hc'⟩
              rw [HQN.out] at hc'
              have hag : Agr (fun k => w6.heap.size ≤ k) wd w' := Agr.of_rc hc' hq.rack HQN.out HFAR.out fun k hk => Or.inr hk
              have ho := HOZ.out.below hbd
              refine ⟨⟨_, rfl⟩, z + 1, PD Pz d, _, hlz, rfl, hq', (dying_rem qz d true).2.1.trans HQN.out, (dying_rem qz d true).1.trans HQR.out, raw_die HRW.out (by rw [HQN.out]; exact hd), ?_, ho.next hag (own_rc ho.top HFAR.out hc'), (HCZ.out.agr (Agr.of_below hbd)).agr ⟨hag.size, fun k hk hs => hag.block k hk hs.1⟩, Nat.le_trans HSZR.out (Nat.le_trans hbd.size hag.size)⟩
              have h1 := pd_count (P := Pz) hd
              have h2 := HCN.out
              omega)
            by_cases hg : z < lg.length
            · have hBz : Below w.heap.size w wr := HBW.out wr HQS.out.base
              obtain ⟨bg, og, cg', eg, hgc⟩ := HVG.out.num (Nat.le_refl _) hBz hg
              injection eg with eg1 _ eg3
              subst eg1 eg3
              have hgl : bg < wr.heap.size := World.block_lt_of_cell? wr ⟨bg, og + z, none⟩ hgc
              have lc' : ∀ w', Below wr.heap.size wr w' → w'.cell? ⟨bg, og + z, none⟩ = some (.int .i64 (lg.getD z 0)) := fun w' h => (h.cell (p := ⟨bg, og + z, none⟩) hgl).trans hgc
              have dn : ∀ w', Below wr.heap.size wr w' → w'.cell? ⟨bc, 2, none⟩ = some (.int .i64 (N : Int)) := fun w' h => (HCELL.out w' (bthen HQS.out.base h)).2.2.1
              have hb0 : Below wr.heap.size wr wr.drew := (Below.refl _ _).drew
              have hgI : (z : Int) < lg.length := by omega
              have hN1 : (1 : Int) ≤ N := by omega
              have hN6 : (N : Int) ≤ 6 := by omega
              generalize lg.getD z 0 = gz at *
              clear hBz hgc
              go_wp2_with fail
              have hwn : IntKind.i64.wrap ((N : Int) - 1) = (N : Int) - 1 := by rw [IntKind.wrap_i64]; omega
              clear e1 hkn hgI hgl hlz hz
              refine wp_region_noPanic ?_
              refine wp_region_held_drew (S := (fun w' => Below wr.heap.size wr w')) (by kernel_rfl) hb0 (fun hHeld => ?_)
              refine wpAnyH_take (i := 0) (oi := ⟨some 125, _, _, _, _, _⟩) (v := ?_) rfl (by kernel_rfl) (by kernel_rfl) (by kernel_rfl) (fun _ _ _ h => h) (Or.inl ⟨by rfl, ?_⟩) hHeld ?_
              rotate_left
              · intro w hSw; (go_simp; try with_reducible rfl)
              simp only [Act.put, List.setIfInBounds_toArray, List.set_cons_zero, List.set_cons_succ]
              refine wpAnyH_take (i := 1) (oi := ⟨some 126, _, _, _, _, _⟩) (v := ?_) rfl (by kernel_rfl) (by kernel_rfl) (by kernel_rfl) (fun _ _ _ h => h) (Or.inl ⟨by rfl, ?_⟩) hHeld ?_
              rotate_left
              · intro w hSw; (go_simp; try with_reducible rfl)
              simp only [Act.put, List.setIfInBounds_toArray, List.set_cons_zero, List.set_cons_succ]
              refine wpAnyH_take (i := 2) (oi := ⟨some 127, _, _, _, _, _⟩) (v := ?_) rfl (by kernel_rfl) (by kernel_rfl) (by kernel_rfl) (fun _ _ _ h => h) (Or.inl ⟨by rfl, ?_⟩) hHeld ?_
              rotate_left
              · intro w hSw; (go_simp; try with_reducible rfl)
              simp only [Act.put, List.setIfInBounds_toArray, List.set_cons_zero, List.set_cons_succ]
              refine wpAnyH_take (i := 3) (oi := ⟨some 128, _, _, _, _, _⟩) (v := ?_) rfl (by kernel_rfl) (by kernel_rfl) (by kernel_rfl) (fun _ _ _ h => h) (Or.inl ⟨by rfl, ?_⟩) hHeld ?_
              rotate_left
              · intro w hSw; (go_simp; try with_reducible rfl)
              simp only [Act.put, List.setIfInBounds_toArray, List.set_cons_zero, List.set_cons_succ]
              refine wpAnyH_take (i := 4) (oi := ⟨some 129, _, _, _, _, _⟩) (v := ?_) rfl (by kernel_rfl) (by kernel_rfl) (by kernel_rfl) (fun _ _ _ h => h) (Or.inl ⟨by rfl, ?_⟩) hHeld ?_
              rotate_left
              · intro w hSw; (go_simp; try with_reducible rfl)
              simp only [Act.put, List.setIfInBounds_toArray, List.set_cons_zero, List.set_cons_succ]
              refine wpAnyH_take (i := 5) (oi := ⟨some 130, _, _, _, _, _⟩) (v := ?_) rfl (by kernel_rfl) (by kernel_rfl) (by kernel_rfl) (fun _ _ _ h => h) (Or.inl ⟨by rfl, ?_⟩) hHeld ?_
              rotate_left
              · intro w hSw; (go_simp; try with_reducible rfl)
              simp only [Act.put, List.setIfInBounds_toArray, List.set_cons_zero, List.set_cons_succ]
              refine wpAnyH_take (i := 6) (oi := ⟨some 131, _, _, _, _, _⟩) (v := ?_) rfl (by kernel_rfl) (by kernel_rfl) (by kernel_rfl) (fun _ _ _ h => h) (Or.inl ⟨by rfl, ?_⟩) hHeld ?_
              rotate_left
              · intro w hSw; (go_simp; try with_reducible rfl)
              simp only [Act.put, List.setIfInBounds_toArray, List.set_cons_zero, List.set_cons_succ]
              refine wpAnyH_ready (rs := [7]) (by kernel_rfl) (by simp) (AllReadyH.cons rfl (fun K hK => ?_) AllReadyH.nil)
              go_simp
              try rw [hwn]
              refine (within_int gz 0 ((N : Int) - 1) _ (by omega) (by omega) (by omega)).mono ?_
              rintro e wI ⟨dd, hdd, rfl, rfl⟩
              have hI := hHeld
              refine hK.out _ _ hI (fun _ => ?_)
              clear hK K
              refine wpAnyH_take (i := 8) (oi := ⟨some 26, _, _, _, _, _⟩) (v := ?_) rfl (by kernel_rfl) (by kernel_rfl) (by kernel_rfl) (fun _ _ _ h => h) (Or.inl ⟨by rfl, ?_⟩) hI ?_
              rotate_left
              · intro w hSw; (go_simp; try with_reducible rfl)
              simp only [Act.put, List.setIfInBounds_toArray, List.set_cons_zero, List.set_cons_succ]
              refine wpAnyH_done (by kernel_rfl) ?_ _
              refine NoPanic.normal ?_
              obtain ⟨dd, rfl⟩ := Int.eq_ofNat_of_zero_le hdd.1
              have HDD := Lib.hid (HDIE.out _ hI dd (by omega))
              clear lc' dn hb0 hI hHeld hdd hwn
              have hz2 : (z : Int) < 6 := by have h1 := HLZ.out; have h2 := HKN.out; omega
              go_wp2_with fail
              refine HDD.out.mono ?_
              rintro e wD ⟨⟨vD, rfl⟩, hrD⟩
              have HRD := Lib.hid hrD
              clear hrD
              go_wp2_with fail
              go_roundw
              case rel => exact HRD.out
              case measure => have h1 := HLZ.out; simp [intOf]; omega
            · have e2 : decide ((z : Int) < (lg.length : Int)) = false := decide_eq_false (by omega)
              have HDD := Lib.hid (HDIE.out wr (Below.refl _ _) z (by omega))
              go_wp2_with fail
              refine HDD.out.mono ?_
              rintro e wD ⟨⟨vD, rfl⟩, hrD⟩
              have HRD := Lib.hid hrD
              clear hrD
              go_wp2_with fail
              go_roundw
              case rel => exact HRD.out
              case measure => simp [intOf]; omega
          · obtain rfl : z = N - K := by omega
            have e1 : decide (((N - K : Nat) : Int) < (N : Int) - (K : Int)) = false := decide_eq_false (by omega)
            have CO2 := Lib.hid (topen_ok HQS.out HQN.out HRW.out ⟨by rw [HQN.out, show cf.k.toNat = K by have := HK.out; omega]; have := HCN.out; omega⟩ HQR.out RT.out (fun y e => (RY.out y e).1))
            go_wp2_with fail
            refine CO2.out.mono ?_
            rintro e wf ⟨qf, bf, tf, gf, Vf, lvf, usf, Lf, rfl, hrcf, hnf, hkf, hremf, hlf, hgf, htpf, hLf, htwf, hwbf, hwtf, hotf⟩
            have hagf : Agr (fun k => w6.heap.size ≤ k) wr wf := Agr.of_rc hrcf HQS.out.rack HQN.out HFAR.out fun k hk => Or.inr hk
            have HTF := Lib.hid htwf
            have HOF := Lib.hid hotf
            have HOW := Lib.hid (HOZ.out.next hagf (own_rc HOZ.out.top HFAR.out hrcf))
            have HCW := Lib.hid (HCZ.out.agr ⟨hagf.size, fun k hk hs => hagf.block k hk hs.1⟩)
            have HBF := Lib.hid (HBW.out wf htwf.vw.qs.base)
            have HSZW := Lib.hid (show w6.heap.size ≤ wf.heap.size from Nat.le_trans HSZR.out hrcf.size)
            have HLF := Lib.hid hLf
            obtain ⟨gq, cq, rfl, -⟩ := own_slice hotf.top
            have CU := Lib.hid (tused_any wf htwf.tp)
            have HLS5 := Lib.hid (show Ls.length ≤ 5 by have := HM.out; omega)
            clear hagf hrcf hnf hkf hremf hlf hgf htpf hLf htwf hwbf hwtf hotf CO2 c0 c1 c2' c3' c4' e1 hkn
            go_wp2_with fail
            refine CU.out.mono ?_
            rintro e wU ⟨rfl, rfl⟩
            clear CU
            rcases HLF.out with rfl | ⟨y, hy, rfl⟩
            · have CL := Lib.hid (show Calls Tryz.prog 16 #[.slice gq Lf.length cq, .slice gx m cx] wf (Bit (decide (Lf = Lf)) wf) from all_any _ _ Lf Lf wf HOF.out.slAt HOW.out.slAt (by have := HLS5.out; omega) RS.out.fit)
              go_wp2_with fail
              refine CL.out.mono ?_
              rintro e wL ⟨rfl, hbL⟩
              have HBL := Lib.hid hbL
              clear hbL CL
              simp only [decide_true]
              go_wp2_with fail
              refine (truns_any _).mono ?_
              rintro e wT ⟨rfl, hbT⟩
              have HBT2 := Lib.hid hbT
              clear hbT
              go_wp2_with fail
              go_ret
              exact bit rfl (bthen (bthen HBF.out HBL.out) HBT2.out)
            · cases hy
    · have hm6 : (ls.length : Int) ≤ m := by omega
      have RQ := Lib.hid HTM.out.vw.qs
      have RN := Lib.hid HTM.out.vw.nn
      have RD := Lib.hid HLM.out.down
      have RT := HTPM
      have RY := Lib.hid (show ∀ y, (none : Option Rc) = some y → (y.t.toNat = Ls.length ∧ 1 < y.q ∧ Ls.length < cf.t.toNat) ∧ emptyL y.b = ([] : List (List UInt8)) from fun y e => by cases e)
      have RS := HSH
      have RZ := HSZ
      have RO := HOT
      have RC := Lib.hid (show SlAs (fun k => w6.heap.size ≤ k ∧ (Value.slice gx m cx).ownBlock ≠ some k) wr (.slice none 0 0) [] from Or.inl ⟨rfl, _, _, rfl⟩)
      have CB := Lib.hid (RQ.out.boot (.slice ab lb.length cb) lb ((HVB.out.below (HBW.out _ RQ.out.base)).wider (HBW.out _ RQ.out.base).size) HLB.out)
      have RR := Lib.hid (RD.out.boot fun i => lb.getD i 0)
      go_wp2_with fail
      refine CB.out.mono ?_
      rintro e wB ⟨rfl, hqB, hcB⟩
      rw [RN.out] at hcB
      have RQB := Lib.hid hqB
      have RNB := Lib.hid (show (qm.boot fun i => lb.getD i 0).n = N from RR.out.2.2.1.trans RN.out)
      have hagB : Agr (fun k => w6.heap.size ≤ k) wr wB := Agr.of_rc hcB RQ.out.rack RN.out HFAR.out fun k hk => Or.inr hk
      have ROB := Lib.hid (RO.out.next hagB (own_rc RO.out.top HFAR.out hcB))
      have RCB := Lib.hid (RC.out.agr ⟨hagB.size, fun k hk hs => hagB.block k hk hs.1⟩)
      generalize (qm.boot fun i => lb.getD i 0) = qB at *
      have RZB := Lib.hid (show w6.heap.size ≤ wB.heap.size from Nat.le_trans RZ.out hcB.size)
      clear hqB hcB hagB CB
      go_wp2_with fail
      go_loopw [25] (fun i wr => RelTc2 w3 w6 c cf N K Vm none (1 + (m : Int)) (.slice gx m cx) (.slice none 0 0) us Ls [] i wr) (fun i _ => N - K - (intOf i).toNat)
      case atStart =>
        exact ⟨0, P, qB, Nat.zero_le _, rfl, RQB.out, RNB.out, RR.out.2.1, RR.out.1, by have := HALL.out; have := HKN.out; omega, ROB.out, RCB.out, RZB.out⟩
      case round =>
        obtain ⟨z, Pz, qz, hz, rfl, hqs, hqn, hqr, hraw, hcnt, hoz, hcz, hwz⟩ := hrel
        have HQS := Lib.hid hqs
        have HQN := Lib.hid hqn
        have HQR := Lib.hid hqr
        have HRW := Lib.hid hraw
        have HCN := Lib.hid hcnt
        have HOZ := Lib.hid hoz
        have HCZ := Lib.hid hcz
        have HSZR := Lib.hid hwz
        obtain ⟨c0, c1, c2', c3', c4'⟩ := HCELL.out wr hqs.base
        have hkn := HKN.out
        clear hqs hqn hqr hraw hcnt hoz hcz hwz
        by_cases hlz : z < N - K
        · have e1 : decide ((z : Int) < (N : Int) - (K : Int)) = true := decide_eq_true (by omega)
          have HLZ := Lib.hid hlz
          have HDIE := Lib.hid (fun (wd : World) (hbd : Below wr.heap.size wr wd) (d : Nat) (hd : d < N) => show Calls Tryz.prog 28 #[.pointer (some ⟨c.r, 0, none⟩), .int .i64 (d : Int)] wd (fun e w' => (∃ v, e = .returned v) ∧ RelTc2 w3 w6 c cf N K Vm none (1 + (m : Int)) (.slice gx m cx) (.slice none 0 0) us Ls [] (.int .i64 ((z : Int) + 1)) w') from by
            have hq := HQS.out.below hbd
            refine (qs_die hq d).mono ?_
            rintro e w' ⟨rfl, hq', hc'⟩
            rw [HQN.out] at hc'
            have hag : Agr (fun k => w6.heap.size ≤ k) wd w' := Agr.of_rc hc' hq.rack HQN.out HFAR.out fun k hk => Or.inr hk
            have ho := HOZ.out.below hbd
            refine ⟨⟨_, rfl⟩, z + 1, PD Pz d, _, hlz, rfl, hq', (dying_rem qz d true).2.1.trans HQN.out, (dying_rem qz d true).1.trans HQR.out, raw_die HRW.out (by rw [HQN.out]; exact hd), ?_, ho.next hag (own_rc ho.top HFAR.out hc'), (HCZ.out.agr (Agr.of_below hbd)).agr ⟨hag.size, fun k hk hs => hag.block k hk hs.1⟩, Nat.le_trans HSZR.out (Nat.le_trans hbd.size hag.size)⟩
            have h1 := pd_count (P := Pz) hd
            have h2 := HCN.out
            omega)
          by_cases hg : z < lg.length
          · have hBz : Below w.heap.size w wr := HBW.out wr HQS.out.base
            obtain ⟨bg, og, cg', eg, hgc⟩ := HVG.out.num (Nat.le_refl _) hBz hg
            injection eg with eg1 _ eg3
            subst eg1 eg3
            have hgl : bg < wr.heap.size := World.block_lt_of_cell? wr ⟨bg, og + z, none⟩ hgc
            have lc' : ∀ w', Below wr.heap.size wr w' → w'.cell? ⟨bg, og + z, none⟩ = some (.int .i64 (lg.getD z 0)) := fun w' h => (h.cell (p := ⟨bg, og + z, none⟩) hgl).trans hgc
            have dn : ∀ w', Below wr.heap.size wr w' → w'.cell? ⟨bc, 2, none⟩ = some (.int .i64 (N : Int)) := fun w' h => (HCELL.out w' (bthen HQS.out.base h)).2.2.1
            have hb0 : Below wr.heap.size wr wr.drew := (Below.refl _ _).drew
            have hgI : (z : Int) < lg.length := by omega
            have hN1 : (1 : Int) ≤ N := by omega
            have hN6 : (N : Int) ≤ 6 := by omega
            generalize lg.getD z 0 = gz at *
            clear hBz hgc
            go_wp2_with fail
            have hwn : IntKind.i64.wrap ((N : Int) - 1) = (N : Int) - 1 := by rw [IntKind.wrap_i64]; omega
            clear e1 hkn hgI hgl hlz hz
            refine wp_region_noPanic ?_
            refine wp_region_held_drew (S := (fun w' => Below wr.heap.size wr w')) (by kernel_rfl) hb0 (fun hHeld => ?_)
            refine wpAnyH_take (i := 0) (oi := ⟨some 125, _, _, _, _, _⟩) (v := ?_) rfl (by kernel_rfl) (by kernel_rfl) (by kernel_rfl) (fun _ _ _ h => h) (Or.inl ⟨by rfl, ?_⟩) hHeld ?_
            rotate_left
            · intro w hSw; (go_simp; try with_reducible rfl)
            simp only [Act.put, List.setIfInBounds_toArray, List.set_cons_zero, List.set_cons_succ]
            refine wpAnyH_take (i := 1) (oi := ⟨some 126, _, _, _, _, _⟩) (v := ?_) rfl (by kernel_rfl) (by kernel_rfl) (by kernel_rfl) (fun _ _ _ h => h) (Or.inl ⟨by rfl, ?_⟩) hHeld ?_
            rotate_left
            · intro w hSw; (go_simp; try with_reducible rfl)
            simp only [Act.put, List.setIfInBounds_toArray, List.set_cons_zero, List.set_cons_succ]
            refine wpAnyH_take (i := 2) (oi := ⟨some 127, _, _, _, _, _⟩) (v := ?_) rfl (by kernel_rfl) (by kernel_rfl) (by kernel_rfl) (fun _ _ _ h => h) (Or.inl ⟨by rfl, ?_⟩) hHeld ?_
            rotate_left
            · intro w hSw; (go_simp; try with_reducible rfl)
            simp only [Act.put, List.setIfInBounds_toArray, List.set_cons_zero, List.set_cons_succ]
            refine wpAnyH_take (i := 3) (oi := ⟨some 128, _, _, _, _, _⟩) (v := ?_) rfl (by kernel_rfl) (by kernel_rfl) (by kernel_rfl) (fun _ _ _ h => h) (Or.inl ⟨by rfl, ?_⟩) hHeld ?_
            rotate_left
            · intro w hSw; (go_simp; try with_reducible rfl)
            simp only [Act.put, List.setIfInBounds_toArray, List.set_cons_zero, List.set_cons_succ]
            refine wpAnyH_take (i := 4) (oi := ⟨some 129, _, _, _, _, _⟩) (v := ?_) rfl (by kernel_rfl) (by kernel_rfl) (by kernel_rfl) (fun _ _ _ h => h) (Or.inl ⟨by rfl, ?_⟩) hHeld ?_
            rotate_left
            · intro w hSw; (go_simp; try with_reducible rfl)
            simp only [Act.put, List.setIfInBounds_toArray, List.set_cons_zero, List.set_cons_succ]
            refine wpAnyH_take (i := 5) (oi := ⟨some 130, _, _, _, _, _⟩) (v := ?_) rfl (by kernel_rfl) (by kernel_rfl) (by kernel_rfl) (fun _ _ _ h => h) (Or.inl ⟨by rfl, ?_⟩) hHeld ?_
            rotate_left
            · intro w hSw; (go_simp; try with_reducible rfl)
            simp only [Act.put, List.setIfInBounds_toArray, List.set_cons_zero, List.set_cons_succ]
            refine wpAnyH_take (i := 6) (oi := ⟨some 131, _, _, _, _, _⟩) (v := ?_) rfl (by kernel_rfl) (by kernel_rfl) (by kernel_rfl) (fun _ _ _ h => h) (Or.inl ⟨by rfl, ?_⟩) hHeld ?_
            rotate_left
            · intro w hSw; (go_simp; try with_reducible rfl)
            simp only [Act.put, List.setIfInBounds_toArray, List.set_cons_zero, List.set_cons_succ]
            refine wpAnyH_ready (rs := [7]) (by kernel_rfl) (by simp) (AllReadyH.cons rfl (fun K hK => ?_) AllReadyH.nil)
            go_simp
            try rw [hwn]
            refine (within_int gz 0 ((N : Int) - 1) _ (by omega) (by omega) (by omega)).mono ?_
            rintro e wI ⟨dd, hdd, rfl, rfl⟩
            have hI := hHeld
            refine hK.out _ _ hI (fun _ => ?_)
            clear hK K
            refine wpAnyH_take (i := 8) (oi := ⟨some 26, _, _, _, _, _⟩) (v := ?_) rfl (by kernel_rfl) (by kernel_rfl) (by kernel_rfl) (fun _ _ _ h => h) (Or.inl ⟨by rfl, ?_⟩) hI ?_
            rotate_left
            · intro w hSw; (go_simp; try with_reducible rfl)
            simp only [Act.put, List.setIfInBounds_toArray, List.set_cons_zero, List.set_cons_succ]
            refine wpAnyH_done (by kernel_rfl) ?_ _
            refine NoPanic.normal ?_
            obtain ⟨dd, rfl⟩ := Int.eq_ofNat_of_zero_le hdd.1
            have HDD := Lib.hid (HDIE.out _ hI dd (by omega))
            clear lc' dn hb0 hI hHeld hdd hwn
            have hz2 : (z : Int) < 6 := by have h1 := HLZ.out; have h2 := HKN.out; omega
            go_wp2_with fail
            refine HDD.out.mono ?_
            rintro e wD ⟨⟨vD, rfl⟩, hrD⟩
            have HRD := Lib.hid hrD
            clear hrD
            go_wp2_with fail
            go_roundw
            case rel => exact HRD.out
            case measure => have h1 := HLZ.out; simp [intOf]; omega
          · have e2 : decide ((z : Int) < (lg.length : Int)) = false := decide_eq_false (by omega)
            have HDD := Lib.hid (HDIE.out wr (Below.refl _ _) z (by omega))
            go_wp2_with fail
            refine HDD.out.mono ?_
            rintro e wD ⟨⟨vD, rfl⟩, hrD⟩
            have HRD := Lib.hid hrD
            clear hrD
            go_wp2_with fail
            go_roundw
            case rel => exact HRD.out
            case measure => simp [intOf]; omega
        · obtain rfl : z = N - K := by omega
          have e1 : decide (((N - K : Nat) : Int) < (N : Int) - (K : Int)) = false := decide_eq_false (by omega)
          have CO2 := Lib.hid (topen_ok HQS.out HQN.out HRW.out ⟨by rw [HQN.out, show cf.k.toNat = K by have := HK.out; omega]; have := HCN.out; omega⟩ HQR.out RT.out (fun y e => (RY.out y e).1))
          go_wp2_with fail
          refine CO2.out.mono ?_
          rintro e wf ⟨qf, bf, tf, gf, Vf, lvf, usf, Lf, rfl, hrcf, hnf, hkf, hremf, hlf, hgf, htpf, hLf, htwf, hwbf, hwtf, hotf⟩
          have hagf : Agr (fun k => w6.heap.size ≤ k) wr wf := Agr.of_rc hrcf HQS.out.rack HQN.out HFAR.out fun k hk => Or.inr hk
          have HTF := Lib.hid htwf
          have HOF := Lib.hid hotf
          have HOW := Lib.hid (HOZ.out.next hagf (own_rc HOZ.out.top HFAR.out hrcf))
          have HCW := Lib.hid (HCZ.out.agr ⟨hagf.size, fun k hk hs => hagf.block k hk hs.1⟩)
          have HBF := Lib.hid (HBW.out wf htwf.vw.qs.base)
          have HSZW := Lib.hid (show w6.heap.size ≤ wf.heap.size from Nat.le_trans HSZR.out hrcf.size)
          have HLF := Lib.hid hLf
          obtain ⟨gq, cq, rfl, -⟩ := own_slice hotf.top
          have CU := Lib.hid (tused_any wf htwf.tp)
          have HLS5 := Lib.hid (show Ls.length ≤ 5 by have := HM.out; omega)
          clear hagf hrcf hnf hkf hremf hlf hgf htpf hLf htwf hwbf hwtf hotf CO2 c0 c1 c2' c3' c4' e1 hkn
          go_wp2_with fail
          refine CU.out.mono ?_
          rintro e wU ⟨rfl, rfl⟩
          clear CU
          rcases HLF.out with rfl | ⟨y, hy, rfl⟩
          · have CL := Lib.hid (show Calls Tryz.prog 16 #[.slice gq Lf.length cq, .slice gx m cx] wf (Bit (decide (Lf = Lf)) wf) from all_any _ _ Lf Lf wf HOF.out.slAt HOW.out.slAt (by have := HLS5.out; omega) RS.out.fit)
            go_wp2_with fail
            refine CL.out.mono ?_
            rintro e wL ⟨rfl, hbL⟩
            have HBL := Lib.hid hbL
            clear hbL CL
            simp only [decide_true]
            go_wp2_with fail
            refine (truns_any _).mono ?_
            rintro e wT ⟨rfl, hbT⟩
            have HBT2 := Lib.hid hbT
            clear hbT
            go_wp2_with fail
            go_ret
            exact bit rfl (bthen (bthen HBF.out HBL.out) HBT2.out)
          · cases hy
end Go.Proofs.YtilljaneegbhlaaGreat
namespace Go.Proofs.YtilljaneegbhlaaGreat.tapeCrash
open Go.ChangeShapes Go.WideShapes Go.ChangeAt Go.RowKit

set_option maxRecDepth 100000 in
theorem lifted (os : Os) (started : os.Started) (H : Type) (enc : TypeId × Value → H) :
    ReturnsInHanded {} Tryz.checked os 6 .any (Rows.tapeCrashSpec.pre6 enc Tryz.prog Tryz.f6 Rows.tapeCrashRow.domain false) (Rows.tapeCrashSpec.post enc Tryz.prog Tryz.f6 false true false false) := by
  refine returnsInHanded_of_change (C := Tryz.checked) Tryz.own started (by kernel_rfl) Tryz.func6
    (ChangeSpec.witness6 (enc := enc) (C := Tryz.checked) false ⟨#[], #[.int .i64 0, .int .i64 0, .slice none 0 0, .int .i64 0, .slice none 0 0, .slice none 0 0], []⟩ 8 (by kernel_rfl) (by kernel_rfl) (by kernel_rfl) (by kernel_rfl)) ?_
  intro W base args ds gs before hval0 hW _ _
  have hval : ∀ (j : Nat) t v, Tryz.f6.params[j]? = some t → args[j]? = some v → Value.okWide Tryz.prog W .any base t v := hval0
  have hW' := hW
  obtain ⟨p, q, hA0, hV, rfl, hfz, hnd⟩ := hW
  have hA : DataW.TrodAll enc Tryz.prog W 0 (fun _ => true) true Tryz.f6.params.toList args.toList ds p := hA0
  rw [Tryz.params6] at hA hval
  obtain ⟨v0, vs0, d0, ds0, p0, q0, hargs, rfl, rfl, h0, r0⟩ := trodAll_cons hA
  obtain ⟨v1, vs1, d1, ds1, p1, q1, rfl, rfl, rfl, h1, r1⟩ := trodAll_cons r0
  obtain ⟨v2, vs2, d2, ds2, p2, q2, rfl, rfl, rfl, h2, r2⟩ := trodAll_cons r1
  obtain ⟨v3, vs3, d3, ds3, p3, q3, rfl, rfl, rfl, h3, r3⟩ := trodAll_cons r2
  obtain ⟨v4, vs4, d4, ds4, p4, q4, rfl, rfl, rfl, h4, r4⟩ := trodAll_cons r3
  obtain ⟨v5, vs5, d5, ds5, p5, q5, rfl, rfl, rfl, h5, r5⟩ := trodAll_cons r4
  obtain ⟨rfl, rfl, rfl⟩ := trodAll_nil r5
  obtain rfl : args = #[v0, v1, v2, v3, v4, v5] := Array.ext' hargs
  obtain ⟨k_, rfl, rfl, rfl, _⟩ := open_int Tryz.underlying3 (hval 0 3 v0 (by simp) (by simp)) h0
  obtain ⟨n_, rfl, rfl, rfl, _⟩ := open_int Tryz.underlying3 (hval 1 3 v1 (by simp) (by simp)) h1
  have hv2 := (hval 2 25 v2 (by simp) (by simp))
  obtain ⟨f_, rfl, rfl, rfl, _⟩ := open_int Tryz.underlying3 (hval 3 3 v3 (by simp) (by simp)) h3
  have hv4 := (hval 4 55 v4 (by simp) (by simp))
  have hv5 := (hval 5 56 v5 (by simp) (by simp))
  obtain ⟨l, hsl, hll, hml⟩ := open_lists hv2 h2
  obtain ⟨bits, hsbits, hlbits⟩ := open_u64s hv4 h4
  obtain ⟨gone, hsgone, hlgone⟩ := open_nums hv5 h5
  obtain ⟨rfl, rfl⟩ := trodVars_none hV
  clear hA0 hval0
  have hw : Calls Tryz.prog 6 #[.int .i64 k_, .int .i64 n_, v2, .int .i64 f_, v4, v5] W (Bit true W) := tcrash_any W k_ n_ v2 l hsl hll hml f_ v4 bits hsbits hlbits v5 gone hsgone hlgone
  refine hw.mono fun e W' ⟨he, hg⟩ => ?_
  subst he
  exact ⟨_, rfl, law_post Tryz.laidOut (by kernel_rfl) (by kernel_rfl) (by kernel_rfl) Tryz.underlying4 hW' hg rfl rfl rfl⟩

end Go.Proofs.YtilljaneegbhlaaGreat.tapeCrash
namespace Go.Proofs.YtilljaneegbhlaaGreat
theorem TapeCrash_said : Rows.TapeCrashSaid :=
  OpenClaim.holds_of_wide 6 Tryz.f6 rfl rfl rfl rfl rfl rfl rfl ⟨rfl, rfl, rfl, rfl, rfl⟩ rfl rfl rfl rfl rfl (by kernel_rfl) Tryz.func6 (by kernel_rfl)
    (of_decide_eq_true (by kernel_rfl)) (by unfold Func.isWrapper; first | (rw [if_pos (by decide +kernel)]; kernel_rfl) | (rw [if_neg (by decide +kernel)]; exact ⟨rfl, rfl⟩))
    (fun os started H enc _ => tapeCrash.lifted os started H enc)
#print axioms TapeCrash_said
end Go.Proofs.YtilljaneegbhlaaGreat
