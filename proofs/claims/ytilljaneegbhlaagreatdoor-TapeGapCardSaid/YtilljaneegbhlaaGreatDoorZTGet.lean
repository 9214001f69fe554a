import Derived.Test.YtilljaneegbhlaaGreatDoorZTBase
import Derived.Test.YtilljaneegbhlaaGreatDoorZJMem
import Derived.Deep.RegionHeld3
import Derived.IntWalk
namespace Go.Proofs.YtilljaneegbhlaaGreatDoor
open Go.RowKit Go.Deep Dk Qk Go.Maps Hf
set_option maxHeartbeats 16000000
set_option maxRecDepth 100000
def TcS (cf : Cf) (b : Nat) (w w' : World) : Prop := CfB cf b w' ∧ b < w'.heap.size ∧ Below w.heap.size w w'
variable {b : Nat} {w w1 w2 : World}
theorem TcS.then {cf : Cf} (h : TcS cf b w w1) (hb : Below w1.heap.size w1 w2) : TcS cf b w w2 := ⟨CfB.below h.1 h.2.1 hb, Nat.lt_of_lt_of_le h.2.1 hb.size, bthen h.2.2 hb⟩
theorem TcS.drew {cf : Cf} (h : TcS cf b w w1) : TcS cf b w w1.drew := ⟨h.1, h.2.1, h.2.2.drew⟩
theorem tcS_new (w : World) (cf : Cf) : TcS cf w.heap.size w (w.alloc (.cells (cfA cf) 24)) := ⟨cfB_new w cf, by simp, one_below _ _⟩
theorem tsector_any (c : Cf) (s : Int) (w : World) (h : CfRight c) (h0 : 0 ≤ s) (h1 : s < c.t) : Calls Tryz.prog 111 #[.agg (cfA c), .int .i64 s] w (Num (tbase c s) w) := by
 obtain ⟨a1, a2, a3, a4⟩ := h.secs
 have CS := hI (fun w => ssectors_any c w h)
 have HT := hI (show c.secs - c.t + s = tbase c s from rfl)
 have HB := hI (show 1 ≤ c.t ∧ c.t ≤ 64 from ⟨h.2.2.2.2.2.1, h.2.2.2.2.2.2.1⟩)
 have hb1 := HB.out.1
 have hb2 := HB.out.2
 have H1 := hI (tcS_new w c)
 clear h
 generalize hsc : c.secs = sc at *
 clear hsc
 have hw1 : IntKind.i64.wrap (sc - c.t) = sc - c.t := IntWalk.i64_in _ (by omega)
 have hw2 : IntKind.i64.wrap (sc - c.t + s) = sc - c.t + s := IntWalk.i64_in _ (by omega)
 go_enter Tryz.func111, Tryz.ntmps111
 go_upto_region 1 with (fail)
 have h1 := H1.out
 generalize w.alloc (.cells (cfA c) 24) = w1 at *
 generalize w.heap.size = b at *
 have d0 : ∀ w', TcS c b w w' → w'.cell? ⟨b, 0, none⟩ = some (.int .i64 c.id) := fun w' h => h.1.cell 0
 have d1 : ∀ w', TcS c b w w' → w'.cell? ⟨b, 1, none⟩ = some (.int .i64 c.k) := fun w' h => h.1.cell 1
 have d2 : ∀ w', TcS c b w w' → w'.cell? ⟨b, 2, none⟩ = some (.int .i64 c.n) := fun w' h => h.1.cell 2
 have d3 : ∀ w', TcS c b w w' → w'.cell? ⟨b, 3, none⟩ = some (.int .i64 c.t) := fun w' h => h.1.cell 3
 have d4 : ∀ w', TcS c b w w' → w'.cell? ⟨b, 4, none⟩ = some (.int .i64 c.s) := fun w' h => h.1.cell 4
 refine wp_region_noPanic ?_
 refine wp_region_held_drew (S := (fun w' => TcS c b w w')) (by kernel_rfl) h1.drew (fun hHeld => ?_)
 refine hT 0 ⟨some 5, _, _, _, _, _⟩ rfl hHeld ?_
 simp only [hP]
 refine hT 2 ⟨some 7, _, _, _, _, _⟩ rfl hHeld ?_
 simp only [hP]
 refine hT 3 ⟨some 8, _, _, _, _, _⟩ rfl hHeld ?_
 simp only [hP]
 refine hT 5 ⟨some 10, _, _, _, _, _⟩ rfl hHeld ?_
 simp only [hP]
 refine hC 1 rfl fun K hK => ?_
 go_simp
 refine (CS.out _).mono ?_
 rintro e w2 ⟨rfl, hb2⟩
 have h2 := TcS.then hHeld hb2
 clear hb2
 refine hK.out _ _ h2 (fun _ => ?_)
 clear hK K
 refine hT 4 ⟨some 9, _, _, _, _, _⟩ rfl h2 ?_
 simp only [hP]
 refine hT 6 ⟨some 11, _, _, _, _, _⟩ rfl h2 ?_
 simp only [hP]
 refine hT 7 ⟨some 4, _, _, _, _, _⟩ rfl h2 ?_
 simp only [hP]
 refine wpAnyH_done (by kernel_rfl) ?_ _
 refine NoPanic.normal ?_
 have H2 := hI h2
 clear d0 d1 d2 d3 d4 h1 hHeld h2
 go_wp2_with fail
 go_ret
 exact num HT.out H2.out.2.2
variable {lo : Nat} {c : Lc} {q : Rk}
theorem thas_any (w : World) (h : RackIn lo w c q) (cf : Cf) (s : Int) : Calls Tryz.prog 88 #[.pointer (some ⟨c.r, 0, none⟩), .agg (cfA cf), .int .i64 s] w (Bit (thas cf q s) w) := by
 have h1 := ftS_new h cf
 have HF := hI (sfits_any _ h1.1 cf)
 have H1 := hI h1
 obtain ⟨d0, d1, d2, d3, d4⟩ := h1.2.1.cells
 have HR := hI (show thas cf q s = (cf.fits q && (decide (0 ≤ s) && decide (s < cf.t))) from rfl)
 rw [HR.out]
 clear h h1 HR
 cases hf : cf.fits q with
 | false =>
  rw [hf] at HF; clear hf; rw [Bool.false_and]
  go_enter Tryz.func88, Tryz.ntmps88
  go_wp2_with (go_at_call 34; refine HF.out.mono ?_; rintro e w2 ⟨rfl, hb2⟩; have H2 := hI (FtS.then H1.out hb2); clear hb2); go_ret; exact bit rfl H2.out.2.2.2
 | true =>
  rw [hf] at HF; clear hf; rw [Bool.true_and]
  by_cases h0 : 0 ≤ s
  ·have HD := hI (decide_eq_true h0)
   rw [HD.out, Bool.true_and]
   by_cases hs : s < cf.t
   ·have HE := hI (decide_eq_true hs)
    rw [HE.out]
    go_enter Tryz.func88, Tryz.ntmps88
    go_wp2_with (go_at_call 34; refine HF.out.mono ?_; rintro e w2 ⟨rfl, hb2⟩; have H2 := hI (FtS.then H1.out hb2); have e4 := H2.out.2.1.cells.2.2.2.1; clear hb2); go_ret; exact bit (by first | rfl | exact decide_eq_true (by omega)) H2.out.2.2.2
   ·have HE := hI (decide_eq_false hs)
    rw [HE.out]
    go_enter Tryz.func88, Tryz.ntmps88
    go_wp2_with (go_at_call 34; refine HF.out.mono ?_; rintro e w2 ⟨rfl, hb2⟩; have H2 := hI (FtS.then H1.out hb2); have e4 := H2.out.2.1.cells.2.2.2.1; clear hb2); go_ret; exact bit (by first | rfl | exact decide_eq_false (by omega)) H2.out.2.2.2
  ·have HD := hI (decide_eq_false h0)
   rw [HD.out, Bool.false_and]
   go_enter Tryz.func88, Tryz.ntmps88
   go_wp2_with (go_at_call 34; refine HF.out.mono ?_; rintro e w2 ⟨rfl, hb2⟩; have H2 := hI (FtS.then H1.out hb2); have e4 := H2.out.2.1.cells.2.2.2.1; clear hb2); go_ret; exact bit (by first | rfl | exact decide_eq_false (by omega)) H2.out.2.2.2
variable {B e n : Nat} {v : Value} {xs : List Value}
theorem own_kind_ne {s : Nat} {cs : Array Value} {T : TypeId} {fz : Nat × Nat} (h : w.ownsRow B e s v n xs) (hb : w.heap[b]? = some (.cells cs T fz)) (ht : T ≠ e) : v.ownBlock ≠ some b := fun hk => by
 rcases h.2 with ⟨rfl, _⟩ | ⟨g, cap, cur, rfl, _, hg, _⟩
 ·cases hk
 ·injection hk with hk
  have hk : g = b := hk; subst hk; rw [hg] at hb; injection hb with hb; injection hb with _ h2 _; exact ht h2.symm
variable {d : List UInt8} {g : Nat} {w' : World} {r' : Option Nat}
theorem BIn.grew {r : Option Nat} (h : BIn d g w) (hg : Grew w r w' r') (hr : r ≠ some g) : BIn d g w' :=
 ⟨h.1, (hg.by_.block g (Array.getElem?_eq_some_iff.1 h.2).1 (fun e => hr e.symm)).trans h.2⟩
theorem BIn.slb (h : BIn d g w) : SlB w.heap.size w (.slice (some ⟨g, 0, none⟩) 108 108) d := by
 have hl := (Array.getElem?_eq_some_iff.1 h.2).1
 refine Or.inr ⟨g, 0, 108, by rw [h.1], hl, fun x hx => ?_, by rw [h.1]; decide, by rw [h.1]; exact Nat.le_refl _⟩
 rw [Nat.zero_add]
 exact h.cell (by rw [← h.1]; exact hx)
theorem slb_load {l : List UInt8} (h : SlB B w v l) (hl : l.length = 108) : ∃ b o cap, v = .slice (some ⟨b, o, none⟩) 108 cap ∧ (loadCellsFrom ⟨b, o, none⟩ 0 szBk #[]).run Tryz.prog w = .ok (bytesV l).toArray w := by
 rcases h with ⟨rfl, _⟩ | ⟨b, o, cap, h1, _, h3, _, _⟩
 ·simp at hl
 ·refine ⟨b, o, cap, by rw [h1, hl], ?_⟩
  have := run_loadCells_list (P := Tryz.prog) w ⟨b, o, none⟩ (bytesV l) (fun j v hv => by
   have hj : j < l.length := by have := (List.getElem?_eq_some_iff.1 hv).1; rwa [bytesV_length] at this
   rw [Addr.add_mid, h3 j hj, ← hv, bytesV_at hj])
  rw [bytesV_length, hl] at this; exact this
theorem szData_run (w : World) : (sizeOf 86).run Tryz.prog w = .ok szBk w := by go_simp; rfl
def RelTE (bs : List (List UInt8)) (w1 : World) (v i : Value) (wr : World) : Prop :=
 ∃ (m : Nat) (us : List Value), m ≤ bs.length ∧ i = .int .i64 m ∧ wr.ownsRow w1.heap.size 37 1 v m us ∧ us.length = m ∧
  (∀ j, j < m → ∃ g, us.getD j nilB = .slice (some ⟨g, 0, none⟩) 108 108 ∧ BIn (bs.getD j z108) g wr) ∧ Below w1.heap.size w1 wr
variable {bs : List (List UInt8)} {v' : Value} {us : List Value} {m : Nat} {o : Obj}
theorem relTE_next {wr w3 : World} (hm : m < bs.length) (hO : wr.ownsRow w1.heap.size 37 1 v m us) (hl : us.length = m)
  (hj : ∀ j, j < m → ∃ g, us.getD j nilB = .slice (some ⟨g, 0, none⟩) 108 108 ∧ BIn (bs.getD j z108) g wr) (hB : Below w1.heap.size w1 wr) (hd : (bs.getD m z108).length = 108)
  (hO3 : w3.ownsRow w1.heap.size 37 1 v' (m + 1) (us ++ [.slice (some ⟨wr.heap.size, 0, none⟩) 108 108])) (hg : Grew ((wr.alloc (.cells (bytesV (bs.getD m z108)).toArray 87)).alloc o) v.ownBlock w3 v'.ownBlock) :
  RelTE bs w1 v' (.int .i64 ((m : Int) + 1)) w3 := by
 have s1 := hB.size
 have hb2 : Below wr.heap.size wr ((wr.alloc (.cells (bytesV (bs.getD m z108)).toArray 87)).alloc o) := balloc (one_below _ _) _
 have hO2 := own_below (own_below hO (one_below wr (.cells (bytesV (bs.getD m z108)).toArray 87))) (one_below _ o)
 have hnew : BIn (bs.getD m z108) wr.heap.size ((wr.alloc (.cells (bytesV (bs.getD m z108)).toArray 87)).alloc o) := by
  have h0 : BIn (bs.getD m z108) wr.heap.size (wr.alloc (.cells (bytesV (bs.getD m z108)).toArray 87)) := ⟨hd, heap_alloc_new wr _⟩
  exact h0.below (by simp) (one_below _ o)
 refine ⟨m + 1, us ++ [.slice (some ⟨wr.heap.size, 0, none⟩) 108 108], hm, by go_num, hO3, by simp [hl], fun j hjm => ?_, ?_⟩
 ·by_cases e : j = m
  ·subst e
   refine ⟨wr.heap.size, by simp [List.getD, hl], hnew.grew hg (own_kind_ne hO2 hnew.2 (by decide))⟩
  ·obtain ⟨g, h1, h2⟩ := hj j (by omega)
   have h3 : BIn (bs.getD j z108) g ((wr.alloc (.cells (bytesV (bs.getD m z108)).toArray 87)).alloc o) := h2.below (Array.getElem?_eq_some_iff.1 h2.2).1 hb2; refine ⟨g, ?_, h3.grew hg (own_kind_ne hO2 h3.2 (by decide))⟩; rw [← h1]; simp only [List.getD]; rw [List.getElem?_append_left (by omega)]
 ·exact (bthen hB hb2).trans (hg.below (by simp; omega) fun k hk => (own_block hO hk).1)
theorem relTE_slbs {wr : World} (hO : wr.ownsRow w1.heap.size 37 1 v bs.length us)
  (hj : ∀ j, j < bs.length → ∃ g, us.getD j nilB = .slice (some ⟨g, 0, none⟩) 108 108 ∧ BIn (bs.getD j z108) g wr) : SlBs wr.heap.size wr v bs := by
 rcases Nat.eq_zero_or_pos bs.length with h0 | h0
 ·obtain ⟨a, c, rfl, _⟩ := own_slice hO
  exact Or.inl ⟨List.eq_nil_of_length_eq_zero h0, a, c, by rw [h0]⟩
 ·obtain ⟨a, c, rfl, hc⟩ := own_slice hO
  obtain ⟨g, rfl⟩ := own_addr hO h0; have hlt := own_lt hO
  have hlen : us.length = bs.length := by have := hO.1; omega
  refine Or.inr ⟨g, 0, c, rfl, hlt.2.1, fun i hi => ?_, h0, hc⟩; obtain ⟨gb, h1, h2⟩ := hj i hi; refine ⟨us.getD i nilB, ?_, ?_⟩
  ·rw [Nat.zero_add]
   exact own_cell hO (by simp [List.getD, show i < us.length by omega])
  ·rw [h1]
   have e : bs.getD i z108 = bs.getD i [] := by simp [List.getD, hi]
   rw [← e]; exact h2.slb
theorem tencode_any (cf : Cf) (K N : Nat) (bs : List (List UInt8)) (v0 : Value) (w : World) (hk : cf.k = K) (hn : cf.n = N) (h1 : 1 ≤ K) (h2 : K ≤ N) (h3 : N ≤ 8) (hl : bs.length = K) (hv : SlK w.heap.size w v0 bs) :
  Calls Tryz.prog 110 #[.agg (cfA cf), v0] w (Rows2 (encL K N bs 108) w) := by
 have HC := hI (tcS_new w cf)
 have CN := hI (fun W => show Calls Tryz.prog 121 #[.int .i64 cf.k, .int .i64 cf.n] W (NewCode K N W) from by rw [hk, hn]; exact cnew_yes K N W h1 h2 h3)
 have HV := hI hv
 have HL := hI hl
 have hl8 : bs.length ≤ 8 := by omega
 obtain ⟨a, cap, rfl⟩ := hv.len
 obtain ⟨d0, d1, d2, d3, d4⟩ := HC.out.1.cells
 clear hv hk hn h1 h2 h3 hl
 go_enter Tryz.func110, Tryz.ntmps110
 go_wp2_with fail
 refine (CN.out _).mono ?_
 rintro e w1 ⟨cb, rfl, hC, hb1⟩
 have HCI := hI hC
 have HB1 := hI (bthen HC.out.2.2 hb1)
 clear hC hb1 d0 d1 d2 d3 d4
 go_wp2_with fail
 go_loopw [8, 24] (fun v i wr => RelTE bs w1 v i wr) (fun _ i _ => bs.length - (intOf i).toNat)
 case atStart => exact ⟨0, [], Nat.zero_le _, rfl, World.ownsRow_nil _ _ _ _, rfl, fun j hj => absurd hj (by omega), Below.refl _ _⟩
 case round =>
  obtain ⟨m, us, hm, rfl, hO, hul, hj, hB⟩ := hrel; have HO := hI hO; have HJ := hI hj; have HB := hI hB
  by_cases hlt : m < bs.length
  ·obtain ⟨b, cap', hs, hbB, hload, hlen⟩ := (HV.out.below (bthen HB1.out hB)).at_ hlt
   injection hs with hs1 hs2 hs3; subst hs1 hs3; clear hs2
   have hst : ∀ W : World, (storeCells ⟨W.heap.size, 0, none⟩ (bytesV (bs.getD m z108)) 0).run Tryz.prog (W.alloc (.cells (bytesV z108).toArray 87)) = .ok () (W.alloc (.cells (bytesV (bs.getD m z108)).toArray 87)) := fun W => storeCells_block hlen W
   have hz := szBk_run; have hz0 := zero_blockZ; have hcc : (Value.agg (bytesV (bs.getD m z108)).toArray).cells = (bytesV (bs.getD m z108)).toArray := rfl
   have hsz : (bytesV (bs.getD m z108)).length = szBk := by rw [bytesV_length]; exact hlen
   have HLN := hI hlen; obtain ⟨ga, ca, rfl, -⟩ := own_slice hO; clear hO hj hB hlen
   obtain ⟨D, hD⟩ : ∃ D, D = bytesV (bs.getD m z108) := ⟨_, rfl⟩
   have HD := hI hD; rw [← hD] at hst hcc hsz hload; clear hD; go_wp2_with (at_builtin; refine wpList_append_row _ rfl (.tmp 28) (.tmp 30) rfl w1.heap.size _ _ _ rfl (own_below (own_below HO.out (one_below _ _)) (one_below _ _)) (wr.heap.size + 1) (.slice (some ⟨wr.heap.size, 0, none⟩) 108 108) rfl ?_ rfl ?_ ?_ ?_; exact new_cells1 _ _ _ _ _ _ rfl; omega; (have := HB.out.size; simp; omega); intro v3 w3 hown3 hg3; have HO3 := hI hown3; have HG3 := hI hg3; obtain ⟨g3, cap3, rfl, -⟩ := own_slice hown3; clear hown3 hg3)
   go_roundw
   case rel =>
    have hg := HG3.out; rw [HD.out] at hg; exact relTE_next hlt HO.out hul HJ.out HB.out HLN.out HO3.out hg
   case measure => simp [intOf]; omega
  ·obtain rfl : m = bs.length := by omega
   have HS := hI (relTE_slbs hO hj); obtain ⟨ga, ca, rfl, -⟩ := own_slice hO
   have CE := hI (encode_yes w1.heap.size wr.heap.size cb K N 108 (.slice ga bs.length ca) bs wr (HCI.out.below (hB.mono (Nat.le_refl _))) hB.size HS.out (Nat.le_refl _) HL.out (fun i hi => by
    have hi' : i < bs.length := by rw [HL.out]; exact hi
    have : bs.getD i [] ∈ bs := by simp only [List.getD, List.getElem?_eq_getElem hi', Option.getD_some]; exact List.getElem_mem _
    exact HV.out.1 _ this) (by decide))
   clear hO hj hB; go_wp2_with fail; refine CE.out.mono ?_; rintro e w4 ⟨v4, us4, rfl, hO4, hb4⟩; have H4 := hI (show OwnLs w.heap.size w4 v4 us4 (encL K N bs 108) ∧ Below w.heap.size w w4 from ⟨hO4.base (Nat.le_trans HB1.out.size HB.out.size), bthen (bthen HB1.out HB.out) hb4⟩); obtain ⟨g4, c4, rfl, -⟩ := own_slice hO4.top; clear hO4 hb4; go_wp2_with fail; exact bodyPost_ret (v := .tuple #[.slice g4 (encL K N bs 108).length c4, .nilIface]) (by simp [results, Tryz.results110, go_sem]) rfl ⟨_, us4, rfl, H4.out.1, H4.out.2⟩
variable {cap : Nat}
theorem own_addr' {s : Nat} {a : Option Addr} (h : w.ownsRow B e s (.slice a m cap) n xs) (hn : 0 < n) : ∃ g, a = some ⟨g, 0, none⟩ := by
 rcases h.2 with ⟨h1, h2⟩ | ⟨g, c2, cur, h1, _⟩
 ·omega
 ·injection h1 with h1 _ _
  exact ⟨g, h1⟩
variable {fs : List Fr}
theorem frs_mem {x : Nat} (h : x < fs.length) : fs.getD x zeroF ∈ fs := by simp only [List.getD, List.getElem?_eq_getElem h, Option.getD_some]; exact List.getElem_mem h
def tFl (k n : Nat) (s g : Int) (bs : List (List UInt8)) : List Fr := (List.range n).map (tF k s g bs)
theorem tFl_length (k n : Nat) (s g : Int) (bs : List (List UInt8)) : (tFl k n s g bs).length = n := by simp [tFl]
variable {k : Nat} {s : Int}
theorem tFl_getD {d : Nat} {g : Int} (h : d < n) : (tFl k n s g bs).getD d zeroF = tF k s g bs d := by simp [tFl, List.getD, h]
theorem tFl_is (k n : Nat) (s g : Int) (bs : List (List UInt8)) : ∀ f ∈ tFl k n s g bs, f.is := fun f hf => by
 obtain ⟨d, _, rfl⟩ := List.mem_map.1 hf
 exact tF_is k s g bs d
theorem tFl_take {g : Int} (h : m < n) : (tFl k n s g bs).take (m + 1) = (tFl k n s g bs).take m ++ [tF k s g bs m] := by
 rw [List.take_succ_eq_append_getElem (by rw [tFl_length]; exact h)]; simp [tFl]
theorem encL_getD {K N d : Nat} (h : d < N) : (encL K N bs 108).getD d [] = frg K d bs := tabL_getD _ h
def FrsNew2 (fs : List Fr) (w : World) (e : Ending) (w' : World) : Prop := ∃ v, e = .returned (.tuple #[v, .nilIface]) ∧ w'.ownsRow w.heap.size 151 112 v fs.length (fs.map frC).flatten ∧ Below w.heap.size w w'
def RelTF (fs : List Fr) (N : Nat) (w1 : World) (v i : Value) (wr : World) : Prop :=
 ∃ m : Nat, m ≤ N ∧ i = .int .i64 m ∧ wr.ownsRow w1.heap.size 151 112 v m ((fs.take m).map frC).flatten ∧ Below w1.heap.size w1 wr
theorem tframes_any (cf : Cf) (K N : Nat) (s g : Int) (bs : List (List UInt8)) (v0 : Value) (w : World) (hk : cf.k = K) (hn : cf.n = N) (h1 : 1 ≤ K) (h2 : K ≤ N) (h3 : N ≤ 8) (hl : bs.length = K) (hv : SlK w.heap.size w v0 bs) :
  Calls Tryz.prog 89 #[.agg (cfA cf), .int .i64 s, .int .i64 g, v0] w (FrsNew2 (tFl K N s g bs) w) := by
 have HC := hI (tcS_new w cf)
 have CE := hI (tencode_any cf K N bs v0 (w.alloc (.cells (cfA cf) 24)) hk hn h1 h2 h3 hl ((hv.below HC.out.2.2).wider HC.out.2.2.size))
 obtain ⟨a, cap, rfl⟩ := hv.len
 obtain ⟨d0, d1, d2, d3, d4⟩ := HC.out.1.cells
 have HLN := hI (show (encL K N bs 108).length = N from tabL_length _ _)
 have HGE := hI (fun (d : Nat) (hd : d < N) => show (encL K N bs 108).getD d [] = frg K d bs from encL_getD hd)
 clear hv hk hn h1 h2 hl
 go_enter Tryz.func89, Tryz.ntmps89
 go_wp2_with fail
 refine CE.out.mono ?_
 rintro e w1 ⟨vE, us, rfl, hO1, hb1⟩
 have HO1 := hI hO1
 have HB1 := hI (bthen HC.out.2.2 hb1)
 have hle : (encL K N bs 108).length = N := HLN.out
 generalize encL K N bs 108 = ls at *
 obtain ⟨gE, cE, rfl, -⟩ := own_slice hO1.top
 clear hO1 hb1 d0 d1 d2 d3 d4
 go_wp2_with fail
 go_loopw [12, 26] (fun v i wr => RelTF (tFl K N s g bs) N w1 v i wr) (fun _ i _ => N - (intOf i).toNat)
 case atStart => exact ⟨0, Nat.zero_le _, rfl, World.ownsRow_nil _ _ _ _, Below.refl _ _⟩
 case round =>
  obtain ⟨m, hm, rfl, hO, hB⟩ := hrel; have HO := hI hO; have HB := hI hB
  by_cases hlt : m < N
  ·have hml : m < ls.length := by omega
   have HF1 := hI (HO1.out.below hB); obtain ⟨gF, hgF⟩ := own_addr' HF1.out.top (by omega); subst hgF; have hcF := HF1.out.cell hml
   have h1d : (ls.getD m []).length = 108 := by rw [HGE.out m hlt]; exact frg_length _ _ _
   obtain ⟨bq, oq, cq, hus, hld0⟩ := slb_load (HF1.out.slb hml) h1d; rw [hus] at hcF; have HBU := hI (run_build_frame 3 m s g (ls.getD m []) h1d); have HFE := hI (show (⟨3, m, s, g, ls.getD m []⟩ : Fr) = tF K s g bs m by rw [HGE.out m hlt]; rfl); have HFI := hI (tF_is K s g bs m); have HT := hI (tFl_take (k := K) (s := s) (g := g) (bs := bs) hlt); rw [HFE.out] at HBU; obtain ⟨ga, ca, rfl, -⟩ := own_slice' hO; clear hO hB hus h1d HFE; revert hld0 HBU; generalize (bytesV (ls.getD m [])).toArray = D; intro hld0 HBU; generalize tF K s g bs m = fr at *; have hzd := szData_run
   have hsl := fun W => slice_data ⟨bq, oq, none⟩ cq W
   have i1 : (m : Int) < ls.length := by omega
   go_wp2_with (first
    | (refine wpList_val (o := ⟨some 38, _, _, _, _, _⟩) rfl (.agg (frA fr)) (run_build_op rfl ?_ (HBU.out _)) ?_; · go_simp)
    | (refine wpList_one_frame (o := ⟨some 39, _, _, _, _, _⟩) rfl (.tmp 38) rfl fr rfl HFI.out ?_)
    | (at_builtin; refine wpList_append_frame _ rfl (.tmp 31) (.tmp 39) rfl w1.heap.size _ _ _ rfl (own_below HO.out (one_below _ _)) wr.heap.size fr rfl (fun j u hu => new_cells _ _ _ _ _ (by simpa using hu)) HFI.out ?_ ?_ ?_; omega; (have := HB.out.size; simp; omega); intro v7 w7 hown7 hg7; have HO7 := hI hown7; have HG7 := hI hg7; obtain ⟨g7, cap7, rfl, -⟩ := own_slice' hown7; clear hown7 hg7))
   go_roundw
   case rel =>
    have h7 := HO7.out; rw [← frs_flat, ← HT.out] at h7; have hs := HB.out.size; exact ⟨m + 1, hlt, by go_num, h7, (balloc HB.out _).trans (HG7.out.below (by simp; omega) fun j hj => (own_block' HO.out hj).1)⟩
   case measure => simp [intOf]; omega
  ·obtain rfl : m = N := by omega
   have HE := hI (show (tFl K m s g bs).take m = tFl K m s g bs by have := List.take_length (l := tFl K m s g bs); rwa [tFl_length] at this); rw [HE.out] at HO; obtain ⟨ga, ca, rfl, -⟩ := own_slice' HO.out; clear hO; go_wp2_with fail; exact bodyPost_ret (v := .tuple #[.slice ga m ca, .nilIface]) (by simp [results, Tryz.results89, go_sem]) rfl ⟨_, rfl, by rw [tFl_length]; exact own_base HO.out HB1.out.size, bthen HB1.out hB⟩
structure TwS (lo : Nat) (c : Lc) (cf : Cf) (B0 : Nat) (fs : List Fr) (U : List Nat) (vF : Value) (vU : Value) (w : World) (n : Nat) (q : Rk) (w' : World) : Prop where
 rack : RackIn lo w' c q
 nn : q.n = n
 cfg : CfB cf w.heap.size w'
 fr : w'.ownsRow B0 151 112 vF fs.length (fs.map frC).flatten
 up : w'.ownsRow (w.heap.size + 1) 3 1 vU U.length (numsV U)
 rc : RC c n w w'
 lt : w.heap.size < w'.heap.size
variable {B0 : Nat} {U : List Nat} {vF vU : Value}
theorem TwS.then {cf : Cf} (h : TwS lo c cf B0 fs U vF vU w n q w1) (hb : Below w1.heap.size w1 w2) : TwS lo c cf B0 fs U vF vU w n q w2 :=
 ⟨h.rack.below hb, h.nn, CfB.below h.cfg h.lt hb, own_below h.fr hb, own_below h.up hb, h.rc.trans (RC.of_below hb), Nat.lt_of_lt_of_le h.lt hb.size⟩
theorem TwS.next {cf : Cf} {q2 : Rk} (h : TwS lo c cf B0 fs U vF vU w n q w1) (hf : Far w.heap.size c n) (hf0 : Far B0 c n) (hr : RackIn lo w2 c q2) (hn : q2.n = q.n) (hc : RC c q.n w1 w2) : TwS lo c cf B0 fs U vF vU w n q2 w2 := by
 have hn' := h.nn
 rw [hn'] at hc
 exact ⟨hr, hn.trans h.nn, CfB.rc h.cfg hf h.lt hc, own_rc h.fr hf0 hc, own_rc h.up (hf.mono (by omega)) hc, h.rc.trans hc, Nat.lt_of_lt_of_le h.lt hc.size⟩
def PvS (cf : Cf) (b B0 : Nat) (vF : Value) (fs : List Fr) (w : World) : Prop := (CfB cf b w ∧ b < w.heap.size) ∧ w.ownsRow B0 151 112 vF fs.length (fs.map frC).flatten
theorem PvS.then {cf : Cf} (h : PvS cf b B0 vF fs w) (hb : Below w.heap.size w w') : PvS cf b B0 vF fs w' :=
 ⟨⟨CfB.below h.1.1 h.1.2 hb, Nat.lt_of_lt_of_le h.1.2 hb.size⟩, own_below h.2 hb⟩
theorem PvS.drew {cf : Cf} (h : PvS cf b B0 vF fs w) : PvS cf b B0 vF fs w.drew := h.then (Below.drew (Below.refl _ _))
theorem PvS.rc {cf : Cf} (h : PvS cf b B0 vF fs w) (hf : Far b c n) (hg : Far B0 c n) (hc : RC c n w w') : PvS cf b B0 vF fs w' :=
 ⟨⟨CfB.rc h.1.1 hf h.1.2 hc, Nat.lt_of_lt_of_le h.1.2 hc.size⟩, own_rc h.2 hg hc⟩
theorem PvS.load {cf : Cf} (h : PvS cf b B0 (.slice (some ⟨g, 0, none⟩) fs.length cap) fs w) (hi : ∀ f ∈ fs, f.is) {d : Nat} (hd : d < fs.length) :
  (loadCellsFrom ⟨g, d * szFr, none⟩ 0 szFr #[]).run Tryz.prog w = .ok (frA (fs.getD d zeroF)) w := by
 obtain ⟨g2, cap2, hs, _, hld, _⟩ := (slF_own h.2 hi rfl).at_ hd
 injection hs with hs1 _ _
 injection hs1 with hs1
 injection hs1 with hs1 _ _
 subst hs1
 exact hld
def RelTW1 (lo : Nat) (c : Lc) (cf : Cf) (B0 : Nat) (fs : List Fr) (F : Nat → List UInt8) (U : List Nat) (vF : Value) (vU : Value) (w : World) (q : Rk) (base : Int) (i : Value) (wr : World) : Prop :=
 ∃ (m : Nat) (r : Rk), m ≤ U.length ∧ i = .int .i64 m ∧ RunTo q (tops base F U) r (stops base F U m ++ fops U 0) ∧ TwS lo c cf B0 fs U vF vU w q.n r wr
def RelTW3 (lo : Nat) (c : Lc) (cf : Cf) (B0 : Nat) (fs : List Fr) (F : Nat → List UInt8) (U : List Nat) (vF : Value) (vU : Value) (w : World) (q : Rk) (base : Int) (i : Value) (wr : World) : Prop :=
 ∃ (m : Nat) (r : Rk), m ≤ U.length ∧ i = .int .i64 m ∧ RunTo q (tops base F U) r (fops U m) ∧ TwS lo c cf B0 fs U vF vU w q.n r wr
theorem twrite_any (w : World) (h : RackIn lo w c q) (cf : Cf) (s : Int) (B0 : Nat) (vF : Value) (fs : List Fr) (hf : cf.fits q = true) (h0 : 0 ≤ s) (h1 : s < cf.t) (hO : w.ownsRow B0 151 112 vF fs.length (fs.map frC).flatten) (hF0 : Far B0 c q.n) (hl : fs.length = q.n) (hfi : ∀ f ∈ fs, f.is) :
  Calls Tryz.prog 90 #[.pointer (some ⟨c.r, 0, none⟩), .agg (cfA cf), .int .i64 s, vF] w (NextR lo c q.n (runS q (tops (tbase cf s) (fun d => put (fs.getD d zeroF)) (ups q))) (runE q (tops (tbase cf s) (fun d => put (fs.getD d zeroF)) (ups q))) w) := by
 obtain ⟨aF, cF, rfl, -⟩ := own_slice' hO
 have hr := (fits_right hf).1
 have HFAR := hI (show Far w.heap.size c q.n from h.far)
 have HFAR0 := hI hF0
 have HCS := hI (fun (w : World) => tsector_any cf s w hr h0 h1)
 have HC0 := hI (cfB_new w cf)
 have HB0 := hI (one_below w (.cells (cfA cf) 24))
 have HR0 := hI (h.below HB0.out)
 have HO0 := hI (own_below hO HB0.out)
 have HFIS := hI hfi
 have CU := hI (qonline_any _ HR0.out)
 obtain ⟨F, hFF⟩ : ∃ F : Nat → List UInt8, F = fun (d : Nat) => put (fs.getD d zeroF) := ⟨_, rfl⟩
 have HFd := hI (fun (d : Nat) => show F d = put (fs.getD d zeroF) by rw [hFF])
 have HUM := hI (fun (m : Nat) (hm : m < (ups q).length) => show (ups q).getD m 0 < fs.length by
  have : (ups q).getD m 0 ∈ ups q := by simp only [List.getD, List.getElem?_eq_getElem hm, Option.getD_some]; exact List.getElem_mem hm
  rw [hl]; exact (mem_ups.1 this).1)
 rw [← hFF]
 have hn8 : q.n ≤ 8 := h.ok.n8
 have HUL := hI (upsN_length q q.n)
 clear h hO hF0 hfi hf h0 h1 hr hFF hl
 generalize tbase cf s = base at *
 go_enter Tryz.func90, Tryz.ntmps90
 go_wp2_with fail
 refine CU.out.mono ?_
 rintro e w2 ⟨vU, rfl, hU, hb2⟩
 have H2 := hI (show TwS lo c cf B0 fs (ups q) (.slice aF fs.length cF) vU w q.n q w2 from ⟨HR0.out.below hb2, rfl, CfB.below HC0.out (by simp) hb2, own_below HO0.out hb2, own_base hU (by simp), RC.of_below (bthen HB0.out hb2), by have := hb2.size; simp at this; omega⟩)
 obtain ⟨aU, cU, rfl, -⟩ := own_slice hU
 clear hU hb2
 generalize hUd : ups q = U at *
 have HUD := hI hUd
 have hul : U.length ≤ 8 := by have := HUL.out; rw [← hUd]; unfold ups; omega
 clear hUd
 go_wp2_with fail
 go_loopw [18] (fun i wr => RelTW1 lo c cf B0 fs F U (.slice aF fs.length cF) (.slice aU U.length cU) w q base i wr) (fun i _ => U.length - (intOf i).toNat)
 case atStart => exact ⟨0, q, Nat.zero_le _, rfl, RunTo.refl _ _, H2.out⟩
 case round =>
  obtain ⟨m, r, hm, rfl, hrun, hS⟩ := hrel
  by_cases hlt : m < U.length
  ·obtain ⟨gU, cU', hs, hcell⟩ := nums_cell hS.up rfl hlt
   injection hs with hs1 hs2 hs3; subst hs1 hs3; clear hs2; have HRN := hI (hrun.congr (show stops base F U m ++ fops U 0 = .w ((U.getD m 0 : Nat) : Int) base (F (U.getD m 0)) :: (stops base F U (m + 1) ++ fops U 0) by rw [stops_next hlt]; rfl)); have HS := hI hS; have hd := HUM.out m hlt; obtain ⟨gF, hgF⟩ := own_addr' hS.fr (Nat.lt_of_le_of_lt (Nat.zero_le _) hd); subst hgF; have HPV := hI (show PvS cf w.heap.size B0 (.slice (some ⟨gF, 0, none⟩) fs.length cF) fs wr from ⟨⟨HS.out.cfg, HS.out.lt⟩, HS.out.fr⟩); have hFd := HFd.out (U.getD m 0)
   have hlf0 := fun (w' : World) (h : PvS cf w.heap.size B0 (.slice (some ⟨gF, 0, none⟩) fs.length cF) fs w') => h.load HFIS.out hd
   have HFI := hI (HFIS.out (fs.getD (U.getD m 0) zeroF) (frs_mem hd)); clear hrun hS; generalize U.getD m 0 = d at *; have CP := hI (fun W => put_any (fs.getD d zeroF) W HFI.out); rw [← hFd] at CP; clear hFd; generalize fs.getD d zeroF = fr at *; generalize F d = l at *; have hz := szFr_run
   have i0 : (0 : Int) ≤ d := by omega
   have i1 : (d : Int) < fs.length := by omega
   go_wp2_with fail; generalize hbw : w.heap.size = b at *; have h2 := HPV.out
   have d0 : ∀ w', PvS cf b B0 (.slice (some ⟨gF, 0, none⟩) fs.length cF) fs w' → w'.cell? ⟨b, 0, none⟩ = some (.int .i64 cf.id) := fun w' h => h.1.1.cell 0
   have d1 : ∀ w', PvS cf b B0 (.slice (some ⟨gF, 0, none⟩) fs.length cF) fs w' → w'.cell? ⟨b, 1, none⟩ = some (.int .i64 cf.k) := fun w' h => h.1.1.cell 1
   have d2 : ∀ w', PvS cf b B0 (.slice (some ⟨gF, 0, none⟩) fs.length cF) fs w' → w'.cell? ⟨b, 2, none⟩ = some (.int .i64 cf.n) := fun w' h => h.1.1.cell 2
   have d3 : ∀ w', PvS cf b B0 (.slice (some ⟨gF, 0, none⟩) fs.length cF) fs w' → w'.cell? ⟨b, 3, none⟩ = some (.int .i64 cf.t) := fun w' h => h.1.1.cell 3
   have d4 : ∀ w', PvS cf b B0 (.slice (some ⟨gF, 0, none⟩) fs.length cF) fs w' → w'.cell? ⟨b, 4, none⟩ = some (.int .i64 cf.s) := fun w' h => h.1.1.cell 4
   by_cases hw : r.wcode (d : Int) base l.length = 0
   ·have HN := hI (HRN.out.next hw)
    have HW := hI (fun (w3 : World) (v : Value) (hR : RackIn lo w3 c r) (hv : SlB w3.heap.size w3 v l) => qwrite_any w3 hR (d : Int) base v l hv); simp only [hw, evs_zero] at HW; clear hw; refine wp_region_noPanic ?_; refine wp_region_held_drew (S := (fun w' => PvS cf b B0 (.slice (some ⟨gF, 0, none⟩) fs.length cF) fs w')) (by kernel_rfl) h2.drew (fun hHeld => ?_); refine hT 0 ⟨some 22, _, _, _, _, _⟩ rfl hHeld ?_; simp only [hP]; refine hT 1 ⟨some 23, _, _, _, _, _⟩ rfl hHeld ?_; simp only [hP]; refine hT 2 ⟨some 24, _, _, _, _, _⟩ rfl hHeld ?_; simp only [hP]; refine hT 3 ⟨some 25, _, _, _, _, _⟩ rfl hHeld ?_; simp only [hP]; refine hT 5 ⟨some 27, _, _, _, _, _⟩ rfl hHeld ?_; simp only [hP]; refine hT 6 ⟨some 28, _, _, _, _, _⟩ rfl hHeld ?_; simp only [hP]; refine hT 7 ⟨some 29, _, _, _, _, _⟩ rfl hHeld ?_; simp only [hP]; refine hT 8 ⟨some 30, _, _, _, _, _⟩ rfl hHeld ?_; simp only [hP]
    refine hC 4 rfl fun K hK => ?_
    go_simp; refine (HCS.out _).mono ?_; rintro e w3 ⟨rfl, hb3⟩
    have h3 := PvS.then hHeld hb3
    have HS3 := hI (HS.out.then (bthen (Below.drew (Below.refl _ _)) hb3)); clear hb3; refine hK.out _ _ h3 (fun _ => ?_); clear hK K
    refine hC 9 rfl fun K hK => ?_
    go_simp; refine (CP.out _).mono ?_; rintro e w4 ⟨v4, rfl, hown4, hb4⟩
    have h4 := PvS.then h3 hb4
    have HS4 := hI (HS3.out.then hb4); have HV4 := hI (slb_own hown4); obtain ⟨g4, c4, rfl, -⟩ := own_slice hown4; clear hown4 hb4; refine hK.out _ _ h4 (fun _ => ?_); clear hK K
    refine hC 10 rfl fun K hK => ?_
    go_simp; refine (HW.out _ _ HS4.out.rack HV4.out).mono ?_; rintro e w5 ⟨rfl, hR5, hC5⟩; have h5 := PvS.rc h4 HFAR.out HFAR0.out (by have := hC5; rw [HS4.out.nn] at this; exact this); have HS5 := hI (HS4.out.next (by rw [hbw]; exact HFAR.out) HFAR0.out hR5 (write_n _ _ _ _) hC5); clear hR5 hC5; refine hK.out _ _ h5 (fun _ => ?_); clear hK K; refine hT 11 ⟨some 11, _, _, _, _, _⟩ rfl h5 ?_; simp only [hP]; refine wpAnyH_done (by kernel_rfl) ?_ _; refine NoPanic.normal ?_; clear d0 d1 d2 d3 d4 hlf0 h2 hHeld h3 h4 h5; subst hbw; go_wp2_with fail
    go_roundw
    case rel => exact ⟨m + 1, _, hlt, by go_num, HN.out, HS5.out⟩
    case measure => simp [intOf]; omega
   ·obtain ⟨e1, e2, e3⟩ := HRN.out.fail hw
    have hev : Rop.ev r (.w (d : Int) base l) = wrapV opQWrite (d : Int) (errV (r.wcode (d : Int) base l.length)) := evs_some _ _ hw; rw [hev] at e3; have E1 := hI e1; have E3 := hI e3; have HW := hI (fun (w3 : World) (v : Value) (hR : RackIn lo w3 c r) (hv : SlB w3.heap.size w3 v l) => qwrite_any w3 hR (d : Int) base v l hv); simp only [evs_some _ _ hw] at HW; unfold wrapV errV at HW; clear e1 e2 e3 hev hw; refine wp_region_noPanic ?_; refine wp_region_held_drew (S := (fun w' => PvS cf b B0 (.slice (some ⟨gF, 0, none⟩) fs.length cF) fs w')) (by kernel_rfl) h2.drew (fun hHeld => ?_); refine hT 0 ⟨some 22, _, _, _, _, _⟩ rfl hHeld ?_; simp only [hP]; refine hT 1 ⟨some 23, _, _, _, _, _⟩ rfl hHeld ?_; simp only [hP]; refine hT 2 ⟨some 24, _, _, _, _, _⟩ rfl hHeld ?_; simp only [hP]; refine hT 3 ⟨some 25, _, _, _, _, _⟩ rfl hHeld ?_; simp only [hP]; refine hT 5 ⟨some 27, _, _, _, _, _⟩ rfl hHeld ?_; simp only [hP]; refine hT 6 ⟨some 28, _, _, _, _, _⟩ rfl hHeld ?_; simp only [hP]; refine hT 7 ⟨some 29, _, _, _, _, _⟩ rfl hHeld ?_; simp only [hP]; refine hT 8 ⟨some 30, _, _, _, _, _⟩ rfl hHeld ?_; simp only [hP]
    refine hC 4 rfl fun K hK => ?_
    go_simp; refine (HCS.out _).mono ?_; rintro e w3 ⟨rfl, hb3⟩
    have h3 := PvS.then hHeld hb3
    have HS3 := hI (HS.out.then (bthen (Below.drew (Below.refl _ _)) hb3)); clear hb3; refine hK.out _ _ h3 (fun _ => ?_); clear hK K
    refine hC 9 rfl fun K hK => ?_
    go_simp; refine (CP.out _).mono ?_; rintro e w4 ⟨v4, rfl, hown4, hb4⟩
    have h4 := PvS.then h3 hb4
    have HS4 := hI (HS3.out.then hb4); have HV4 := hI (slb_own hown4); obtain ⟨g4, c4, rfl, -⟩ := own_slice hown4; clear hown4 hb4; refine hK.out _ _ h4 (fun _ => ?_); clear hK K
    refine hC 10 rfl fun K hK => ?_
    go_simp; refine (HW.out _ _ HS4.out.rack HV4.out).mono ?_; rintro e w5 ⟨rfl, hR5, hC5⟩; have h5 := PvS.rc h4 HFAR.out HFAR0.out (by have := hC5; rw [HS4.out.nn] at this; exact this); have HS5 := hI (HS4.out.next (by rw [hbw]; exact HFAR.out) HFAR0.out hR5 (write_n _ _ _ _) hC5); clear hR5 hC5; refine hK.out _ _ h5 (fun _ => ?_); clear hK K; refine hT 11 ⟨some 11, _, _, _, _, _⟩ rfl h5 ?_; simp only [hP]; refine wpAnyH_done (by kernel_rfl) ?_ _; refine NoPanic.normal ?_; clear d0 d1 d2 d3 d4 hlf0 h2 hHeld h3 h4 h5; go_wp2_with fail; rw [E1.out, E3.out]; exact bodyPost_ret (v := wrapV opQWrite (d : Int) (errV (r.wcode (d : Int) base l.length))) (by simp [results, Tryz.results90, go_sem, wrapV, errV, opQWrite]) rfl ⟨rfl, HS5.out.rack, HS5.out.rc⟩
  ·obtain rfl : m = U.length := by omega
   have HRUN := hI (hrun.congr (show stops base F U U.length ++ fops U 0 = fops U 0 by rw [stops_end]; rfl)); have HS := hI hS; have CU2 := hI (qonline_any wr hS.rack); rw [hrun.u, HUD.out] at CU2; clear hrun hS; go_wp2_with fail; refine CU2.out.mono ?_; rintro e w3 ⟨vV, rfl, hV, hb3⟩; have H3 := hI (show TwS lo c cf B0 fs U (.slice aF fs.length cF) vV w q.n r w3 from ⟨HS.out.rack.below hb3, HS.out.nn, CfB.below HS.out.cfg HS.out.lt hb3, own_below HS.out.fr hb3, own_base hV (by have := HS.out.lt; omega), HS.out.rc.trans (RC.of_below hb3), Nat.lt_of_lt_of_le HS.out.lt hb3.size⟩); obtain ⟨aV, cV, rfl, -⟩ := own_slice hV; clear hV hb3; go_wp2_with fail
   go_loopw [40] (fun i wr => RelTW3 lo c cf B0 fs F U (.slice aF fs.length cF) (.slice aV U.length cV) w q base i wr) (fun i _ => U.length - (intOf i).toNat)
   case atStart => exact ⟨0, r, Nat.zero_le _, rfl, HRUN.out, H3.out⟩
   case round =>
    obtain ⟨m, r2, hm2, rfl, hrun2, hS2⟩ := hrel
    by_cases hlt2 : m < U.length
    ·obtain ⟨gV, cV', hs, hcell⟩ := nums_cell hS2.up rfl hlt2
     injection hs with hs1 hs2 hs3; subst hs1 hs3; clear hs2; have HRN := hI (hrun2.congr (fops_next hlt2)); have HS2 := hI hS2; clear hrun2 hS2; generalize U.getD m 0 = d at *; have HW := hI (qflush_any wr HS2.out.rack (d : Int))
     by_cases hw : r2.fcode (d : Int) = 0
     ·rw [hw, evs_zero] at HW
      have HN := hI (HRN.out.next hw); clear hw; go_wp2_with fail; refine HW.out.mono ?_; rintro e w4 ⟨rfl, hR4, hC4⟩; have HS4 := hI (HS2.out.next HFAR.out HFAR0.out hR4 (flush_n _ _) hC4); clear hR4 hC4; go_wp2_with fail
      go_roundw
      case rel => exact ⟨m + 1, _, hlt2, by go_num, HN.out, HS4.out⟩
      case measure => simp [intOf]; omega
     ·rw [evs_some _ _ hw] at HW
      obtain ⟨e1, e2, e3⟩ := HRN.out.fail hw; have hev : Rop.ev r2 (.f (d : Int)) = wrapV opQFlush (d : Int) (errV (r2.fcode (d : Int))) := evs_some _ _ hw; rw [hev] at e3; have E1 := hI e1; have E3 := hI e3; clear e1 e2 e3 hev hw; unfold wrapV errV at HW; go_wp2_with fail; refine HW.out.mono ?_; rintro e w4 ⟨rfl, hR4, hC4⟩; have HS4 := hI (HS2.out.next HFAR.out HFAR0.out hR4 (flush_n _ _) hC4); clear hR4 hC4; go_wp2_with fail; rw [E1.out, E3.out]; exact bodyPost_ret (v := wrapV opQFlush (d : Int) (errV (r2.fcode (d : Int)))) (by simp [results, Tryz.results90, go_sem, wrapV, errV, opQFlush]) rfl ⟨rfl, HS4.out.rack, HS4.out.rc⟩
    ·obtain rfl : m = U.length := by omega
     have HRN := hI (hrun2.congr (fops_end U)); have HS2 := hI hS2; clear hrun2 hS2; obtain ⟨e1, e2, e3⟩ := HRN.out.done; have E1 := hI e1; have E3 := hI e3; clear e1 e2 e3; go_wp2_with fail; rw [E1.out, E3.out]; go_ret; exact ⟨rfl, HS2.out.rack, HS2.out.rc⟩
def opTPut : ByteArray := ⟨#[115, 116, 114, 105, 112, 101, 46, 80, 117, 116]⟩
def Rk.tputV (q : Rk) (c : Cf) (s g : Int) (bs : List (List UInt8)) : Value := if (thas c q s && tright c g bs) = true then wrapR opTPut s q (topsOf c s g bs q) else wrapV opTPut s (errV 1)
theorem tput_no (w : World) (h : RackIn lo w c q) (cf : Cf) (s g : Int) (bs : List (List UInt8)) (v0 : Value) (hv : SlK w.heap.size w v0 bs) (hno : (thas cf q s && tright cf g bs) = false) :
  Calls Tryz.prog 64 #[.pointer (some ⟨c.r, 0, none⟩), .agg (cfA cf), .int .i64 s, .int .i64 g, v0] w (NextR lo c q.n q (wrapV opTPut s (errV 1)) w) := by
 obtain ⟨a0, cap0, rfl⟩ := hv.len
 have H1 := hI (tcS_new w cf)
 have HR := hI (h.below H1.out.2.2)
 have HF := hI (thas_any _ HR.out cf s)
 obtain ⟨d0, d1, d2, d3, d4⟩ := H1.out.1.cells
 clear h hv
 cases hf : thas cf q s with
 | false =>
  rw [hf] at HF; clear hf hno
  go_enter Tryz.func64, Tryz.ntmps64
  go_wp2_with (first
   | (go_at_call 88; refine HF.out.mono ?_; rintro e w2 ⟨rfl, hb2⟩; have H2 := hI (H1.out.then hb2); have HR2 := hI (HR.out.below hb2); clear hb2)
   | (go_at_call 32; refine (wrap_some _ _ _ _ _).mono ?_; rintro e w' ⟨rfl, rfl⟩))
  exact bodyPost_ret (v := wrapV opTPut s (errV 1)) (by simp [results, Tryz.results64, go_sem, wrapV, errV, opTPut]) rfl ⟨rfl, HR2.out, RC.of_below H2.out.2.2⟩
 | true =>
  rw [hf] at HF hno; rw [Bool.true_and] at hno; have HNO := hI (show ¬ (1 ≤ g ∧ g ≤ 1152921504606846976 ∧ (bs.length : Int) = cf.k) from fun e => by rw [tright_iff.2 e] at hno; cases hno); clear hf hno
  by_cases hg0 : g < 1
  ·go_enter Tryz.func64, Tryz.ntmps64
   go_wp2_with (first
    | (go_at_call 88; refine HF.out.mono ?_; rintro e w2 ⟨rfl, hb2⟩; have H2 := hI (H1.out.then hb2); have HR2 := hI (HR.out.below hb2); clear hb2)
    | (go_at_call 32; refine (wrap_some _ _ _ _ _).mono ?_; rintro e w' ⟨rfl, rfl⟩))
   exact bodyPost_ret (v := wrapV opTPut s (errV 1)) (by simp [results, Tryz.results64, go_sem, wrapV, errV, opTPut]) rfl ⟨rfl, HR2.out, RC.of_below H2.out.2.2⟩
  ·by_cases hg1 : 1152921504606846976 < g
   ·have hg2 : 1 ≤ g := by omega
    go_enter Tryz.func64, Tryz.ntmps64
    go_wp2_with (first
     | (go_at_call 88; refine HF.out.mono ?_; rintro e w2 ⟨rfl, hb2⟩; have H2 := hI (H1.out.then hb2); have HR2 := hI (HR.out.below hb2); clear hb2)
     | (go_at_call 32; refine (wrap_some _ _ _ _ _).mono ?_; rintro e w' ⟨rfl, rfl⟩))
    exact bodyPost_ret (v := wrapV opTPut s (errV 1)) (by simp [results, Tryz.results64, go_sem, wrapV, errV, opTPut]) rfl ⟨rfl, HR2.out, RC.of_below H2.out.2.2⟩
   ·have hg2 : 1 ≤ g := by omega
    have hg3 : g ≤ 1152921504606846976 := by omega
    have hl : ¬ (bs.length : Int) = cf.k := fun e => HNO.out ⟨hg2, hg3, e⟩
    have hlb : ((bs.length : Int) == cf.k) = false := by simpa using hl
    go_enter Tryz.func64, Tryz.ntmps64
    go_wp2_with (first
     | (go_at_call 88; refine HF.out.mono ?_; rintro e w2 ⟨rfl, hb2⟩; have H2 := hI (H1.out.then hb2); have HR2 := hI (HR.out.below hb2); obtain ⟨e0, e1, e2, e3, e4⟩ := H2.out.1.cells; clear hb2)
     | (go_at_call 32; refine (wrap_some _ _ _ _ _).mono ?_; rintro e w' ⟨rfl, rfl⟩))
    exact bodyPost_ret (v := wrapV opTPut s (errV 1)) (by simp [results, Tryz.results64, go_sem, wrapV, errV, opTPut]) rfl ⟨rfl, HR2.out, RC.of_below H2.out.2.2⟩
theorem tput_yes (w : World) (h : RackIn lo w c q) (cf : Cf) (s g : Int) (bs : List (List UInt8)) (v0 : Value) (hv : SlK w.heap.size w v0 bs) (hf : thas cf q s = true) (hj : tright cf g bs = true) :
  Calls Tryz.prog 64 #[.pointer (some ⟨c.r, 0, none⟩), .agg (cfA cf), .int .i64 s, .int .i64 g, v0] w (NextR lo c q.n (runS q (topsOf cf s g bs q)) (wrapR opTPut s q (topsOf cf s g bs q)) w) := by
 obtain ⟨a0, cap0, rfl⟩ := hv.len
 obtain ⟨f1, f2, f3⟩ := thas_iff.1 hf
 obtain ⟨j1, j2, j3⟩ := tright_iff.1 hj
 obtain ⟨hr, hn, _⟩ := fits_right f1
 have H1 := hI (tcS_new w cf)
 have HR := hI (h.below H1.out.2.2)
 have HF := hI (thas_any _ HR.out cf s)
 rw [hf] at HF
 have hkn : cf.k.toNat = bs.length := by omega
 have hk : cf.k = ((bs.length : Nat) : Int) := j3.symm
 have HFAR := hI (show Far w.heap.size c q.n from h.far)
 have CE := hI (fun (w' : World) (hb : Below w.heap.size w w') => tframes_any cf bs.length q.n s g bs (.slice a0 bs.length cap0) w' hk hn (by have := hr.2.2.1; omega) (by have := hr.2.2.2.1; omega) (by have := hr.2.2.2.2.1; omega) rfl ((hv.below hb).wider hb.size))
 have HTO := hI (show topsOf cf s g bs q = tops (tbase cf s) (fun d => put ((tFl bs.length q.n s g bs).getD d zeroF)) (ups q) from by
  unfold topsOf tops stops; rw [hkn]; refine congrArg (· ++ fops (ups q) 0) (List.map_congr_left fun d hd => ?_)
  show Rop.w (d : Int) (tbase cf s) (put (tF bs.length s g bs d)) = Rop.w (d : Int) (tbase cf s) (put ((tFl bs.length q.n s g bs).getD d zeroF))
  rw [tFl_getD (mem_ups.1 (List.mem_of_mem_drop hd)).1])
 have CW := hI (fun (w' : World) (B0 : Nat) (vF : Value) (hw : RackIn lo w' c q) (hO : w'.ownsRow B0 151 112 vF (tFl bs.length q.n s g bs).length ((tFl bs.length q.n s g bs).map frC).flatten) (hF : Far B0 c q.n) => twrite_any w' hw cf s B0 vF (tFl bs.length q.n s g bs) f1 f2 f3 hO hF (tFl_length _ _ _ _ _) (tFl_is _ _ _ _ _))
 rw [← HTO.out] at CW
 have hg0 : ¬ g < 1 := by omega
 have hg1 : ¬ 1152921504606846976 < g := by omega
 have hlb : ((bs.length : Int) == cf.k) = true := by simpa using j3
 have hlb2 : ((bs.length : Int) != cf.k) = false := by simpa using j3
 obtain ⟨d0, d1, d2, d3, d4⟩ := H1.out.1.cells
 have hd0 : decide (g < 1) = false := decide_eq_false hg0
 have hd1 : decide (1152921504606846976 < g) = false := decide_eq_false hg1
 clear h hv hj hf f1 f2 f3 hr hn hkn hk j3
 generalize hT : topsOf cf s g bs q = T at *
 clear hT HTO
 go_enter Tryz.func64, Tryz.ntmps64
 go_wp2_with fail
 refine HF.out.mono ?_
 rintro e w2 ⟨rfl, hb2⟩
 have H2 := hI (H1.out.then hb2)
 have HR2 := hI (HR.out.below hb2)
 obtain ⟨e0, e1, e2, e3, e4⟩ := H2.out.1.cells
 clear hb2
 go_wp2_with fail
 refine (CE.out _ H2.out.2.2).mono ?_
 rintro e w3 ⟨vF, rfl, hO3, hb3⟩
 have H3 := hI (H2.out.then hb3)
 have HR3 := hI (HR2.out.below hb3)
 have HF3 := hI (HFAR.out.mono H2.out.2.2.size)
 have HCW := hI (CW.out w3 _ vF HR3.out hO3 HF3.out)
 obtain ⟨gF, cF, rfl, -⟩ := own_slice' hO3
 clear d0 d1 d2 d3 d4 e0 e1 e2 e3 e4
 obtain ⟨d0, d1, d2, d3, d4⟩ := H3.out.1.cells
 clear hO3 hb3
 rcases runE_form T q with ⟨r1, r2⟩ | ⟨r1, op, i, r2⟩
 ·have EW := hI (show wrapR opTPut s q T = .nilIface from if_pos r1)
  generalize wrapR opTPut s q T = WR at *; rw [r2] at HCW; clear r1 r2; generalize runS q T = q2 at *; go_wp2_with fail; refine HCW.out.mono ?_; rintro e w4 ⟨rfl, hR4, hC4⟩; have H4 := hI (show RackIn lo w4 c q2 ∧ RC c q.n w w4 from ⟨hR4, (RC.of_below H3.out.2.2).trans hC4⟩); clear hR4 hC4; go_wp2_with fail; refine (wrap_nil _ _ _).mono ?_; rintro e w' ⟨rfl, rfl⟩; go_wp2_with fail; rw [EW.out]; go_ret; exact ⟨rfl, H4.out.1, H4.out.2⟩
 ·have EW := hI (show wrapR opTPut s q T = wrapV opTPut s (wrapV op i (errV (runC q T))) by rw [← r2]; exact if_neg r1)
  generalize wrapR opTPut s q T = WR at *; rw [r2] at HCW; clear r1 r2; generalize runS q T = q2 at *; generalize runC q T = rc at *; unfold wrapV errV at HCW; go_wp2_with fail; refine HCW.out.mono ?_; rintro e w4 ⟨rfl, hR4, hC4⟩; have H4 := hI (show RackIn lo w4 c q2 ∧ RC c q.n w w4 from ⟨hR4, (RC.of_below H3.out.2.2).trans hC4⟩); clear hR4 hC4; go_wp2_with fail; refine (wrap_some _ _ _ _ _).mono ?_; rintro e w' ⟨rfl, rfl⟩; go_wp2_with fail; rw [EW.out]; exact bodyPost_ret (v := wrapV opTPut s (wrapV op i (errV rc))) (by simp [results, Tryz.results64, go_sem, wrapV, errV, opTPut]) rfl ⟨rfl, H4.out.1, H4.out.2⟩
theorem tput_any (w : World) (h : RackIn lo w c q) (cf : Cf) (s g : Int) (bs : List (List UInt8)) (v0 : Value) (hv : SlK w.heap.size w v0 bs) :
  Calls Tryz.prog 64 #[.pointer (some ⟨c.r, 0, none⟩), .agg (cfA cf), .int .i64 s, .int .i64 g, v0] w (NextR lo c q.n (Rk.tput q cf s g bs) (Rk.tputV q cf s g bs) w) := by
 unfold Rk.tput Rk.tputV
 cases hb : (thas cf q s && tright cf g bs) with
 | false =>
  rw [if_neg (by decide), if_neg (by decide)]; exact tput_no w h cf s g bs v0 hv hb
 | true =>
  rw [if_pos rfl, if_pos rfl]; rw [Bool.and_eq_true] at hb; exact tput_yes w h cf s g bs v0 hv hb.1 hb.2
def PtIn (w : World) (p : Pt × Value) : Prop := ∃ (gb : Nat) (fr : Fr), p.2 = .slice (some ⟨gb, 4, none⟩) 108 108 ∧ FrB fr gb w ∧ fr.d = p.1.2
variable {f : Fr}
theorem FrB.lt (h : FrB f b w) : b < w.heap.size := (Array.getElem?_eq_some_iff.1 h.2).1
theorem PtIn.below {p : Pt × Value} (h : PtIn w p) (hb : Below w.heap.size w w') : PtIn w' p := by
 obtain ⟨gb, fr, h1, h2, h3⟩ := h
 exact ⟨gb, fr, h1, h2.below h2.lt hb, h3⟩
theorem PtIn.grew {p : Pt × Value} (h : PtIn w p) (ho : w.ownsRow B 204 2 v n xs) (hg : Grew w v.ownBlock w' r') : PtIn w' p := by
 obtain ⟨gb, fr, h1, h2, h3⟩ := h
 exact ⟨gb, fr, h1, ⟨h2.1, (hg.by_.block gb h2.lt (fun e => own_kind_ne ho h2.2 (by decide) e.symm)).trans h2.2⟩, h3⟩
theorem PtIn.slb {p : Pt × Value} (h : PtIn w p) : SlB w.heap.size w p.2 p.1.2 := by
 obtain ⟨gb, fr, h1, h2, h3⟩ := h
 rw [h1, ← h3]
 exact h2.fin.data.wider h2.lt
def RelTL (q : Rk) (cf : Cf) (s : Int) (w1 : World) (n v i : Value) (wr : World) : Prop :=
 ∃ (m : Nat) (qs : List (Pt × Value)), m ≤ q.n ∧ i = .int .i64 m ∧ n = .int .i64 (tnewN q cf s m) ∧ qs.map (·.1) = tptsN q cf s m ∧
  wr.ownsRow w1.heap.size 204 2 v qs.length (qs.flatMap cellsPt) ∧ (∀ p ∈ qs, PtIn wr p) ∧ Below w1.heap.size w1 wr
theorem relTL_app {cf : Cf} {w6 w7 : World} {v0 : Value} {qs : List (Pt × Value)} {gb : Nat} (hO : w6.ownsRow w1.heap.size 204 2 v0 qs.length (qs.flatMap cellsPt)) (hd : ∀ p ∈ qs, PtIn w6 p) (hf : FrB f gb w6) (hB : Below w1.heap.size w1 w6)
  (hO7 : w7.ownsRow w1.heap.size 204 2 v' (qs.length + 1) (qs.flatMap cellsPt ++ [.int .i64 (m : Int), .slice (some ⟨gb, 4, none⟩) 108 108])) (hg : Grew (w6.alloc o) v0.ownBlock w7 v'.ownBlock) (hm : m < q.n)
  (hN : tptsN q cf s (m + 1) = qs.map (·.1) ++ [((m : Int), f.d)]) (n : Value) (hn : n = .int .i64 (tnewN q cf s (m + 1))) : RelTL q cf s w1 n v' (.int .i64 ((m : Int) + 1)) w7 := by
 have hO6 := own_below hO (one_below w6 o)
 refine ⟨m + 1, qs ++ [(((m : Int), f.d), .slice (some ⟨gb, 4, none⟩) 108 108)], hm, by go_num, hn, by rw [hN]; simp, ?_, fun p hp => ?_, ?_⟩
 ·rw [List.length_append, List.flatMap_append]
  simpa [cellsPt] using hO7
 ·rcases List.mem_append.1 hp with hp | hp
  ·exact ((hd p hp).below (one_below w6 o)).grew hO6 hg
  ·obtain rfl : p = (((m : Int), f.d), .slice (some ⟨gb, 4, none⟩) 108 108) := by simpa using hp
   have h1 : PtIn w6 (((m : Int), f.d), .slice (some ⟨gb, 4, none⟩) 108 108) := ⟨gb, f, rfl, hf, rfl⟩
   exact (h1.below (one_below w6 o)).grew hO6 hg
 ·exact (balloc hB o).trans (hg.below (by have := hB.size; simp; omega) fun k hk => (own_block' hO hk).1)
def LookOut (q : Rk) (cf : Cf) (s : Int) (w : World) (e : Ending) (w' : World) : Prop :=
 ∃ v, e = .returned (.tuple #[.int .i64 (tnew q cf s), v]) ∧ SlP w'.heap.size w' v (tpts q cf s) ∧ Below w.heap.size w w'
theorem tlook_any (w : World) (h : RackIn lo w c q) (cf : Cf) (s : Int) :
  Calls Tryz.prog 99 #[.pointer (some ⟨c.r, 0, none⟩), .agg (cfA cf), .int .i64 s] w (LookOut q cf s w) := by
 have H1 := hI (tcS_new w cf)
 have HR := hI (h.below H1.out.2.2)
 have HF := hI (thas_any _ HR.out cf s)
 obtain ⟨d0, d1, d2, d3, d4⟩ := H1.out.1.cells
 cases hf : thas cf q s with
 | false =>
  rw [hf] at HF; have HE := hI (show tnew q cf s = 0 ∧ tpts q cf s = [] from ⟨if_neg (by rw [hf]; decide), if_neg (by rw [hf]; decide)⟩); unfold LookOut; rw [HE.out.1, HE.out.2]; clear h hf
  go_enter Tryz.func99, Tryz.ntmps99
  go_wp2_with fail; refine HF.out.mono ?_; rintro e w2 ⟨rfl, hb2⟩; have H2 := hI (H1.out.then hb2); clear hb2; go_wp2_with fail; exact bodyPost_ret (v := .tuple #[.int .i64 0, .slice none 0 0]) (by simp [results, Tryz.results99, go_sem]) rfl ⟨_, rfl, Or.inl ⟨rfl, _, _, rfl⟩, H2.out.2.2⟩
 | true =>
  rw [hf] at HF; obtain ⟨f1, f2, f3⟩ := thas_iff.1 hf; obtain ⟨hr, hn, _⟩ := fits_right f1; have HE := hI (show tnew q cf s = tnewN q cf s q.n ∧ tpts q cf s = tptsN q cf s q.n from ⟨if_pos hf, if_pos hf⟩); unfold LookOut; rw [HE.out.1, HE.out.2]; have CS := hI (fun W => tsector_any cf s W hr f2 f3); have HN := hI hn
  have hs0 : ¬ s < 0 := by omega
  have hn8 := h.ok.n8; clear h hf f1 f2 f3 hr hn HE
  go_enter Tryz.func99, Tryz.ntmps99
  go_wp2_with fail; refine HF.out.mono ?_; rintro e w1 ⟨rfl, hb1⟩; have H2 := hI (H1.out.then hb1); have HR2 := hI (HR.out.below hb1); clear hb1 d0 d1 d2 d3 d4; obtain ⟨d0, d1, d2, d3, d4⟩ := H2.out.1.cells; rw [HN.out] at d2; go_wp2_with fail
  go_loopw [8, 9, 20] (fun n v i wr => RelTL q cf s w1 n v i wr) (fun _ _ i _ => q.n - (intOf i).toNat)
  case atStart => exact ⟨0, [], Nat.zero_le _, rfl, rfl, rfl, World.ownsRow_nil _ _ _ _, (by intro p hp; cases hp), Below.refl _ _⟩
  case round =>
   obtain ⟨m, qs, hm, rfl, rfl, hqm, hO, hP, hB⟩ := hrel; have HO := hI hO; have HP := hI hP; have HB := hI hB; have HQM := hI hqm
   by_cases hlt : m < q.n
   ·have HLQ := hI (show qs.length ≤ m by have := congrArg List.length hqm; rw [List.length_map] at this; have := tptsN_length q cf s m; omega)
    have HT := hI (show tfr q cf s m = (if (qfound q m (tbase cf s) 3 m s && decide (1 ≤ (qgot q m (tbase cf s) 3 m s).g)) = true then some (qgot q m (tbase cf s) 3 m s) else none) from rfl); have CQ := hI (fun (w' : World) (hw : RackIn lo w' c q) => qget_any w' hw (m : Int) (tbase cf s) 3 (m : Int) s); have HFI := hI (qgot_is q (m : Int) (tbase cf s) 3 (m : Int) s); have HT0 := hI (tnewN_le q cf s m).1
    have hTS := H2.out.then hB
    obtain ⟨e0, e1, e2, e3, e4⟩ := hTS.1.cells; have HTS := hI hTS; obtain ⟨ga, ca, rfl, -⟩ := own_slice' hO; clear hO hP hB hqm hTS d0 d1 d2 d3 d4; generalize qfound q (m : Int) (tbase cf s) 3 (m : Int) s = bf at *; generalize qgot q (m : Int) (tbase cf s) 3 (m : Int) s = f at *; go_wp2_with fail; refine (CS.out _).mono ?_; rintro e w3 ⟨rfl, hb3⟩; have HB3 := hI (bthen HB.out hb3); have HR3 := hI (HR2.out.below HB3.out); have HB3r := hI hb3; clear hb3; have hc2 : (Value.agg (frA f)).cells = frA f := rfl; have hz := szFr_run; have hz0 := zero_frame; have hsz : (frC f).length = szFr := frC_length HFI.out
    have hst : ∀ W : World, (storeCells ⟨W.heap.size, 0, none⟩ (frC f) 0).run Tryz.prog (W.alloc (.cells (frA zeroF) 151)) = .ok () (W.alloc (.cells (frA f) 151)) := fun W => storeCells_frame zeroF_is HFI.out W
    go_wp2_with fail; refine (CQ.out _ HR3.out).mono ?_; rintro e w4 ⟨rfl, hb4⟩; have HF5 := hI (frB_new w4 f HFI.out); have HB5 := hI (balloc (bthen HB3.out hb4) (.cells (frA f) 151)); have HB5r := hI (balloc (bthen HB3r.out hb4) (.cells (frA f) 151)); clear hb4 e0 e1 e2 e3 e4; have c3 := HF5.out.fin.c3; generalize hnw : tnewN q cf s m = nw at *; have HNW := hI hnw; clear hnw; have ht0 := HT0.out
    cases hbf : bf with
    | false =>
     rw [hbf] at HT
     have ht : tfr q cf s m = none := by rw [HT.out]; rfl
     have HN1 := hI (tnewN_no ht); have HN2 := hI (tptsN_no ht); clear hbf ht; go_wp2_with fail
     go_roundw
     case rel => exact ⟨m + 1, qs, hlt, by go_num, by rw [HN1.out, HNW.out], by rw [HN2.out]; exact HQM.out, own_below HO.out HB5r.out, fun p hp => (HP.out p hp).below HB5r.out, HB5.out⟩
     case measure => simp [intOf]; omega
    | true =>
     rw [hbf, Bool.true_and] at HT; clear hbf
     by_cases hg1 : 1 ≤ f.g
     ·rw [if_pos (decide_eq_true hg1)] at HT
      by_cases hlo : f.g < nw
      ·have HN3 := hI (tptsN_less HT.out (by rw [HNW.out]; exact hlo))
       have hmx : nw ≥ 1 := by omega
       have hmx2 : ¬ nw < 1 := by omega
       go_wp2_with fail
       go_roundw
       case rel => exact ⟨m + 1, qs, hlt, by go_num, by rw [HN3.out.1, HNW.out], by rw [HN3.out.2]; exact HQM.out, own_below HO.out HB5r.out, fun p hp => (HP.out p hp).below HB5r.out, HB5.out⟩
       case measure => simp [intOf]; omega
      ·by_cases hhi : nw < f.g
       ·have HN3 := hI (tptsN_more HT.out (by rw [HNW.out]; exact hhi))
        have hmx3 : ¬ f.g < 1 := by omega
        by_cases hmx : nw ≥ 1
        ·have hmx2 : ¬ nw < 1 := by omega
         go_wp2_with (at_builtin; refine wpList_append_part _ rfl (.tmp 49) (.tmp 54) rfl w1.heap.size _ 0 [] rfl (World.ownsRow_nil _ _ _ _) (w4.heap.size + 1) (.int .i64 (m : Int)) (.slice (some ⟨w4.heap.size, 4, none⟩) 108 108) rfl ?_ ?_ rfl rfl (by decide) ?_ ?_; exact new_cells1 _ _ _ _ _ _ rfl; exact new_cells1 _ _ _ _ _ _ rfl; (have := HB5.out.size; simp at *; omega); intro v7 w7 hown7 hg7; have HO7 := hI hown7; have HG7 := hI hg7; obtain ⟨g7, cap7, rfl, -⟩ := own_slice' hown7; clear hown7 hg7)
         go_roundw
         case rel => exact relTL_app (qs := []) (v0 := .slice none 0 0) (World.ownsRow_nil _ _ _ _) (by intro p hp; cases hp) HF5.out HB5.out HO7.out HG7.out hlt HN3.out.2 _ (by rw [HN3.out.1])
         case measure => simp [intOf]; omega
        ·have hmx2 : nw < 1 := by omega
         go_wp2_with (at_builtin; refine wpList_append_part _ rfl (.tmp 49) (.tmp 54) rfl w1.heap.size _ 0 [] rfl (World.ownsRow_nil _ _ _ _) (w4.heap.size + 1) (.int .i64 (m : Int)) (.slice (some ⟨w4.heap.size, 4, none⟩) 108 108) rfl ?_ ?_ rfl rfl (by decide) ?_ ?_; exact new_cells1 _ _ _ _ _ _ rfl; exact new_cells1 _ _ _ _ _ _ rfl; (have := HB5.out.size; simp at *; omega); intro v7 w7 hown7 hg7; have HO7 := hI hown7; have HG7 := hI hg7; obtain ⟨g7, cap7, rfl, -⟩ := own_slice' hown7; clear hown7 hg7)
         go_roundw
         case rel => exact relTL_app (qs := []) (v0 := .slice none 0 0) (World.ownsRow_nil _ _ _ _) (by intro p hp; cases hp) HF5.out HB5.out HO7.out HG7.out hlt HN3.out.2 _ (by rw [HN3.out.1])
         case measure => simp [intOf]; omega
       ·have heq : f.g = nw := by omega
        have HN3 := hI (tptsN_same HT.out (by rw [HNW.out]; exact heq))
        have hmx3 : ¬ f.g < 1 := by omega
        by_cases hmx : nw ≥ 1
        ·have hmx2 : ¬ nw < 1 := by omega
         go_wp2_with (at_builtin; refine wpList_append_part _ rfl (.tmp 49) (.tmp 54) rfl w1.heap.size _ _ _ rfl (own_below (own_below HO.out HB5r.out) (one_below _ _)) (w4.heap.size + 1) (.int .i64 (m : Int)) (.slice (some ⟨w4.heap.size, 4, none⟩) 108 108) rfl ?_ ?_ rfl rfl ?_ ?_ ?_; exact new_cells1 _ _ _ _ _ _ rfl; exact new_cells1 _ _ _ _ _ _ rfl; (have := HLQ.out; omega); (have := HB5.out.size; simp at *; omega); intro v7 w7 hown7 hg7; have HO7 := hI hown7; have HG7 := hI hg7; obtain ⟨g7, cap7, rfl, -⟩ := own_slice' hown7; clear hown7 hg7)
         go_roundw
         case rel => exact relTL_app (own_below HO.out HB5r.out) (fun p hp => (HP.out p hp).below HB5r.out) HF5.out HB5.out HO7.out HG7.out hlt (by rw [HN3.out.2, HQM.out]) _ (by rw [HN3.out.1, HNW.out])
         case measure => simp [intOf]; omega
        ·exfalso; omega
     ·rw [if_neg (by rw [decide_eq_true_eq]; exact hg1)] at HT
      have HN1 := hI (tnewN_no HT.out); have HN2 := hI (tptsN_no HT.out)
      by_cases hmx : nw ≥ 1
      ·have hmx2 : ¬ nw < 1 := by omega
       have hlo : f.g < nw := by omega
       go_wp2_with fail
       go_roundw
       case rel => exact ⟨m + 1, qs, hlt, by go_num, by rw [HN1.out, HNW.out], by rw [HN2.out]; exact HQM.out, own_below HO.out HB5r.out, fun p hp => (HP.out p hp).below HB5r.out, HB5.out⟩
       case measure => simp [intOf]; omega
      ·have hmx2 : nw < 1 := by omega
       have hlo : f.g < 1 := by omega
       go_wp2_with fail
       go_roundw
       case rel => exact ⟨m + 1, qs, hlt, by go_num, by rw [HN1.out, HNW.out], by rw [HN2.out]; exact HQM.out, own_below HO.out HB5r.out, fun p hp => (HP.out p hp).below HB5r.out, HB5.out⟩
       case measure => simp [intOf]; omega
   ·obtain rfl : m = q.n := by omega
    have HS := hI (slp_own hO (fun p hp => (hP p hp).slb) (Nat.le_refl _)); rw [hqm] at HS; obtain ⟨ga, ca, rfl, -⟩ := own_slice' hO; clear hO hP hB hqm; go_wp2_with fail; exact bodyPost_ret (v := .tuple #[.int .i64 (tnewN q cf s q.n), .slice ga qs.length ca]) (by simp [results, Tryz.results99, go_sem]) rfl ⟨_, rfl, HS.out, bthen H2.out.2.2 HB.out⟩
theorem slice_block (a : Addr) (cap : Nat) (W : World) : (Instr.arrayAt 87 (.slice (some a) 108 cap)).run Tryz.prog W = .ok (.pointer (some a)) W := by
 simp [Instr.arrayAt, run_underlying Tryz.underlying87]
def DecOut (K : Nat) (ps : List Pt) (w : World) (e : Ending) (w' : World) : Prop :=
 ∃ (v : Value) (bs : List (List UInt8)), e = .returned (.tuple #[v, .nilIface]) ∧ w'.ownsRow w.heap.size 87 108 v bs.length (bs.map bytesV).flatten ∧ (∀ d ∈ bs, d.length = 108) ∧ BlocksOf K 108 (chosen K ps) bs ∧ Below w.heap.size w w'
def RelTD (bs : List (List UInt8)) (w2 : World) (v i : Value) (wr : World) : Prop :=
 ∃ m : Nat, m ≤ bs.length ∧ i = .int .i64 m ∧ wr.ownsRow w2.heap.size 87 108 v m ((bs.take m).map bytesV).flatten ∧ Below w2.heap.size w2 wr
theorem tdecode_any (cf : Cf) (K N : Nat) (ps : List Pt) (v0 : Value) (w : World) (hk : cf.k = K) (hn : cf.n = N) (h1 : 1 ≤ K) (h2 : K ≤ N) (h3 : N ≤ 8) (hv : SlP w.heap.size w v0 ps) (hp : ∀ p ∈ ps, 0 ≤ p.1 ∧ p.1 < N ∧ p.2.length = 108) (hnd : (ps.map (·.1)).Nodup) (hl : K ≤ ps.length) (hl8 : ps.length ≤ 8) :
  Calls Tryz.prog 100 #[.agg (cfA cf), v0] w (DecOut K ps w) := by
 have HC := hI (tcS_new w cf)
 have CN := hI (fun W => show Calls Tryz.prog 121 #[.int .i64 cf.k, .int .i64 cf.n] W (NewCode K N W) from by rw [hk, hn]; exact cnew_yes K N W h1 h2 h3)
 have HV := hI hv
 have CD := hI (fun (w1 : World) (cb : Nat) (hC : CodeIn w1.heap.size w1 cb K N) (hb : Below w.heap.size w w1) => decode_yes w1.heap.size w1.heap.size cb K N 108 v0 ps w1 hC (Nat.le_refl _) ((hv.below hb).wider hb.size) (Nat.le_refl _) (by omega) (wrongAt_no hp) (by rw [diffP_nd ps hnd]; omega) (fun p hpp => (hp p hpp).2.2) (by decide))
 obtain ⟨a, cap, rfl, -⟩ := hv.len
 obtain ⟨d0, d1, d2, d3, d4⟩ := HC.out.1.cells
 clear hv hk hn hp hnd hl hl8
 go_enter Tryz.func100, Tryz.ntmps100
 go_wp2_with fail
 refine (CN.out _).mono ?_
 rintro e w1 ⟨cb, rfl, hC, hb1⟩
 have HB1 := hI (bthen HC.out.2.2 hb1)
 have HD := hI (CD.out w1 cb hC HB1.out)
 clear hC hb1 d0 d1 d2 d3 d4
 go_wp2_with fail
 refine HD.out.mono ?_
 rintro e w2 ⟨vb, bs, rfl, hS, hb2, hBO⟩
 have HS := hI hS
 have HB2 := hI (bthen HB1.out hb2)
 have HBO := hI hBO
 have H108 := hI (show ∀ d ∈ bs, d.length = 108 from fun d hd => by
  obtain ⟨i, hi, rfl⟩ := List.getElem_of_mem hd; have := hBO.2.1 i (by rw [← hBO.1]; exact hi)
  simpa [List.getD, hi] using this)
 have hbl : bs.length ≤ 8 := by rw [hBO.1]; omega
 obtain ⟨ab, cb2, rfl, -⟩ := hS.len
 clear hS hb2 hBO
 go_wp2_with fail
 go_loopw [9, 34] (fun v i wr => RelTD bs w2 v i wr) (fun _ i _ => bs.length - (intOf i).toNat)
 case atStart => exact ⟨0, Nat.zero_le _, rfl, World.ownsRow_nil _ _ _ _, Below.refl _ _⟩
 case round =>
  obtain ⟨m, hm, rfl, hO, hB⟩ := hrel; have HO := hI hO; have HB := hI hB
  by_cases hlt : m < bs.length
  ·obtain ⟨b, o, cp, u, hs, _, hbB, hcell, hu⟩ := (HS.out.below hB).row hlt
   injection hs with hs1 hs2 hs3; subst hs1 hs3; clear hs2; have hlen : (bs.getD m []).length = 108 := H108.out _ (by simp only [List.getD, List.getElem?_eq_getElem hlt, Option.getD_some]; exact List.getElem_mem hlt); have HLN := hI hlen; obtain ⟨bq, oq, cq, rfl, hld⟩ := slb_load hu hlen
   have hsl := fun W => slice_block ⟨bq, oq, none⟩ cq W
   have hz := szBk_run
   have HTK := hI (show ((bs.take (m + 1)).map bytesV).flatten = ((bs.take m).map bytesV).flatten ++ bytesV (bs.getD m []) by
    rw [List.take_succ_eq_append_getElem hlt, List.map_append, List.flatten_append]; simp [List.getD, hlt])
   obtain ⟨ga, ca, rfl, -⟩ := own_slice' hO; clear hO hB hu hlen; generalize bs.getD m [] = d at *
   go_wp2_with (first
    | (refine wpList_one_block (o := ⟨some 42, _, _, _, _, _⟩) rfl (.tmp 41) rfl d rfl HLN.out ?_)
    | (at_builtin; refine wpList_append_block _ rfl (.tmp 38) (.tmp 42) rfl w2.heap.size _ _ _ rfl (own_below HO.out (one_below _ _)) wr.heap.size d rfl (fun j u hu => new_cells _ _ _ _ _ (by simpa using hu)) HLN.out ?_ ?_ ?_; omega; (have := HB.out.size; simp; omega); intro v3 w3 hown3 hg3; have HO3 := hI hown3; have HG3 := hI hg3; obtain ⟨g3, cap3, rfl, -⟩ := own_slice' hown3; clear hown3 hg3))
   go_roundw
   case rel =>
    have h1 := HO3.out; rw [← HTK.out] at h1; exact ⟨m + 1, hlt, by go_num, h1, (balloc HB.out _).trans (HG3.out.below (by have := HB.out.size; simp; omega) fun j hj => (own_block' HO.out hj).1)⟩
   case measure => simp [intOf]; omega
  ·obtain rfl : m = bs.length := by omega
   rw [List.take_length] at hO; have HO9 := hI hO; obtain ⟨ga, ca, rfl, -⟩ := own_slice' hO; clear hO hB; go_wp2_with fail; refine bodyPost_ret (v := .tuple #[.slice ga bs.length ca, .nilIface]) (by simp [results, Tryz.results100, go_sem]) rfl ?_; exact ⟨_, bs, rfl, own_base HO9.out HB2.out.size, H108.out, HBO.out, bthen HB2.out HB.out⟩
def opTGet : ByteArray := ⟨#[115, 116, 114, 105, 112, 101, 46, 71, 101, 116]⟩
def tgetV (q : Rk) (c : Cf) (s : Int) : Value :=
 if thas c q s = true then (if q.off = true ∨ ((ups q).length : Int) < c.k then wrapV opTGet s (errV 7) else if ((tpts q c s).length : Int) < c.k then wrapV opTGet s (lossV s ((tpts q c s).length : Int) c.k) else .nilIface) else wrapV opTGet s (errV 1)
def GetOut (q : Rk) (cf : Cf) (s : Int) (w : World) (e : Ending) (w' : World) : Prop :=
 Below w.heap.size w w' ∧ ((tcode q cf s = 0 ∧ ∃ (v : Value) (bs : List (List UInt8)), e = .returned (.tuple #[v, .int .i64 (tnew q cf s), .nilIface]) ∧ w'.ownsRow w.heap.size 87 108 v bs.length (bs.map bytesV).flatten ∧ (∀ d ∈ bs, d.length = 108) ∧ BlocksOf cf.k.toNat 108 (chosen cf.k.toNat (tpts q cf s)) bs) ∨
  (tcode q cf s ≠ 0 ∧ e = .returned (.tuple #[.slice none 0 0, .int .i64 0, tgetV q cf s])))
theorem tpts_in {cf : Cf} (h8 : q.n ≤ 8) : (∀ p ∈ tpts q cf s, 0 ≤ p.1 ∧ p.1 < q.n ∧ p.2.length = 108) ∧ ((tpts q cf s).map (·.1)).Nodup ∧ (tpts q cf s).length ≤ 8 := by
 unfold tpts
 split
 ·refine ⟨fun p hp => ?_, tptsN_nodup q cf s q.n, Nat.le_trans (tptsN_length q cf s q.n) h8⟩
  obtain ⟨d, f, hd, hf, rfl⟩ := tptsN_mem q cf s q.n p hp; exact ⟨by show (0 : Int) ≤ (d : Int); omega, by show (d : Int) < q.n; omega, (tfr_some hf).1⟩
 ·exact ⟨fun p hp => by (cases hp), List.nodup_nil, Nat.zero_le _⟩
def TgS (lo : Nat) (c : Lc) (q : Rk) (cf : Cf) (b : Nat) (w w' : World) : Prop := RackIn lo w' c q ∧ TcS cf b w w'
theorem TgS.then {cf : Cf} (h : TgS lo c q cf b w w1) (hb : Below w1.heap.size w1 w2) : TgS lo c q cf b w w2 := ⟨h.1.below hb, h.2.then hb⟩
theorem TgS.drew {cf : Cf} (h : TgS lo c q cf b w w1) : TgS lo c q cf b w w1.drew := h.then (Below.drew (Below.refl _ _))
theorem tget_any (w : World) (h : RackIn lo w c q) (cf : Cf) (s : Int) :
  Calls Tryz.prog 77 #[.pointer (some ⟨c.r, 0, none⟩), .agg (cfA cf), .int .i64 s] w (GetOut q cf s w) := by
 have H1 := hI (show TgS lo c q cf w.heap.size w (w.alloc (.cells (cfA cf) 24)) from ⟨h.below (one_below _ _), tcS_new w cf⟩)
 have HF := hI (thas_any _ H1.out.1 cf s)
 obtain ⟨d0, d1, d2, d3, d4⟩ := H1.out.2.1.cells
 cases hf : thas cf q s with
 | false =>
  rw [hf] at HF; have HE := hI (show tcode q cf s = 1 ∧ tgetV q cf s = wrapV opTGet s (errV 1) from ⟨if_neg (by rw [hf]; decide), if_neg (by rw [hf]; decide)⟩); clear h hf
  go_enter Tryz.func77, Tryz.ntmps77
  go_wp2_with (first
   | (go_at_call 88; refine HF.out.mono ?_; rintro e w2 ⟨rfl, hb2⟩; have H2 := hI (H1.out.then hb2); clear hb2)
   | (go_at_call 32; refine (wrap_some _ _ _ _ _).mono ?_; rintro e w' ⟨rfl, rfl⟩))
  refine bodyPost_ret (v := .tuple #[.slice none 0 0, .int .i64 0, wrapV opTGet s (errV 1)]) (by simp [results, Tryz.results77, go_sem, wrapV, errV, opTGet]) rfl ?_; exact ⟨H2.out.2.2.2, Or.inr ⟨by rw [HE.out.1]; decide, by rw [HE.out.2]⟩⟩
 | true =>
  rw [hf] at HF; obtain ⟨f1, f2, f3⟩ := thas_iff.1 hf; obtain ⟨hr, hn, _⟩ := fits_right f1; have hn8 := h.ok.n8; have HIN := hI (tpts_in (q := q) (cf := cf) (s := s) hn8); have hk0 := hr.2.2.1; have HKN := hI (show cf.k = (cf.k.toNat : Int) ∧ 1 ≤ cf.k.toNat ∧ cf.k.toNat ≤ q.n from ⟨by omega, by omega, by have := hr.2.2.2.1; omega⟩); have HCO := hI (show tcode q cf s = (if q.off = true ∨ ((ups q).length : Int) < cf.k then 7 else if ((tpts q cf s).length : Int) < cf.k then 6 else 0) from if_pos hf); have HCV := hI (show tgetV q cf s = (if q.off = true ∨ ((ups q).length : Int) < cf.k then wrapV opTGet s (errV 7) else if ((tpts q cf s).length : Int) < cf.k then wrapV opTGet s (lossV s ((tpts q cf s).length : Int) cf.k) else .nilIface) from if_pos hf); have CO := hI (fun w' (h' : TgS lo c q cf w.heap.size w w') => qoff_any w' h'.1); have CU := hI (fun w' (h' : TgS lo c q cf w.heap.size w w') => qonline_any w' h'.1); have CL := hI (fun w' (h' : TgS lo c q cf w.heap.size w w') => tlook_any w' h'.1 cf s); have HCF := hI hn; clear h hf f1 f2 f3 hr hn
  go_enter Tryz.func77, Tryz.ntmps77
  go_wp2_with fail; refine HF.out.mono ?_; rintro e w2 ⟨rfl, hb2⟩; have H2 := hI (H1.out.then hb2); clear hb2 d0 d1 d2 d3 d4; go_wp2_with fail; have h2 := H2.out; generalize hbb : w.heap.size = b at *
  have d0 : ∀ w', TgS lo c q cf b w w' → w'.cell? ⟨b, 0, none⟩ = some (.int .i64 cf.id) := fun w' h => h.2.1.cell 0
  have d1 : ∀ w', TgS lo c q cf b w w' → w'.cell? ⟨b, 1, none⟩ = some (.int .i64 cf.k) := fun w' h => h.2.1.cell 1
  have d2 : ∀ w', TgS lo c q cf b w w' → w'.cell? ⟨b, 2, none⟩ = some (.int .i64 cf.n) := fun w' h => h.2.1.cell 2
  have d3 : ∀ w', TgS lo c q cf b w w' → w'.cell? ⟨b, 3, none⟩ = some (.int .i64 cf.t) := fun w' h => h.2.1.cell 3
  have d4 : ∀ w', TgS lo c q cf b w w' → w'.cell? ⟨b, 4, none⟩ = some (.int .i64 cf.s) := fun w' h => h.2.1.cell 4
  cases ho : q.off with
  | true =>
   rw [ho] at HCO HCV CO; have HE := hI (show tcode q cf s = 7 ∧ tgetV q cf s = wrapV opTGet s (errV 7) from ⟨by rw [HCO.out, if_pos (Or.inl rfl)], by rw [HCV.out, if_pos (Or.inl rfl)]⟩); clear ho; refine wp_region_noPanic ?_; refine wp_region_held_drew (S := (fun w' => TgS lo c q cf b w w')) (by kernel_rfl) h2.drew (fun hHeld => ?_); refine hT 0 ⟨some 21, _, _, _, _, _⟩ rfl hHeld ?_; simp only [hP]
   refine hC 1 rfl fun K hK => ?_
   go_simp; refine (CO.out _ hHeld).mono ?_; rintro e w9 ⟨rfl, hw9⟩; obtain rfl := hw9; refine hK.out _ _ hHeld (fun _ => ?_); clear hK K; refine hT 2 ⟨some 23, _, _, _, _, _⟩ rfl hHeld ?_; simp only [hP]; refine hU 3 ⟨some 24, _, _, _, _, _⟩ rfl hHeld ?_; simp only [hP]; refine hU 4 ⟨some 25, _, _, _, _, _⟩ rfl hHeld ?_; simp only [hP]; refine hU 5 ⟨some 26, _, _, _, _, _⟩ rfl hHeld ?_; simp only [hP]; refine hU 6 ⟨some 27, _, _, _, _, _⟩ rfl hHeld ?_; simp only [hP]; refine hU 7 ⟨some 28, _, _, _, _, _⟩ rfl hHeld ?_; simp only [hP]; refine hU 8 ⟨some 29, _, _, _, _, _⟩ rfl hHeld ?_; simp only [hP]; refine hT 9 ⟨some 30, _, _, _, _, _⟩ rfl hHeld ?_; simp only [hP]; refine wpAnyH_done (by kernel_rfl) ?_ _; refine NoPanic.normal ?_; go_wp2_with (go_at_call 32; refine (wrap_some _ _ _ _ _).mono ?_; rintro e w' ⟨rfl, rfl⟩); refine bodyPost_ret (v := .tuple #[.slice none 0 0, .int .i64 0, wrapV opTGet s (errV 7)]) (by simp [results, Tryz.results77, go_sem, wrapV, errV, opTGet]) rfl ?_; exact ⟨hHeld.2.2.2, Or.inr ⟨by rw [HE.out.1]; decide, by rw [HE.out.2]⟩⟩
  | false =>
   rw [ho] at HCO HCV CO; clear ho
   by_cases hu : ((ups q).length : Int) < cf.k
   ·have HE := hI (show tcode q cf s = 7 ∧ tgetV q cf s = wrapV opTGet s (errV 7) from ⟨by rw [HCO.out, if_pos (Or.inr hu)], by rw [HCV.out, if_pos (Or.inr hu)]⟩)
    refine wp_region_noPanic ?_; refine wp_region_held_drew (S := (fun w' => TgS lo c q cf b w w')) (by kernel_rfl) h2.drew (fun hHeld => ?_); refine hT 0 ⟨some 21, _, _, _, _, _⟩ rfl hHeld ?_; simp only [hP]
    refine hC 1 rfl fun K hK => ?_
    go_simp; refine (CO.out _ hHeld).mono ?_; rintro e w9 ⟨rfl, hw9⟩; obtain rfl := hw9; refine hK.out _ _ hHeld (fun _ => ?_); clear hK K; refine hT 2 ⟨some 23, _, _, _, _, _⟩ rfl hHeld ?_; simp only [hP]; refine hT 3 ⟨some 24, _, _, _, _, _⟩ rfl hHeld ?_; simp only [hP]; refine hT 6 ⟨some 27, _, _, _, _, _⟩ rfl hHeld ?_; simp only [hP]; refine hT 7 ⟨some 28, _, _, _, _, _⟩ rfl hHeld ?_; simp only [hP]
    refine hC 4 rfl fun K hK => ?_
    go_simp; refine (CU.out _ hHeld).mono ?_; rintro e w5 ⟨v5, rfl, ho5, hb5⟩
    have h5 := TgS.then hHeld (by first | exact hb5 | exact bthen (Below.drew (Below.refl _ _)) hb5)
    obtain ⟨g5, c5, rfl, -⟩ := own_slice ho5; clear ho5 hb5; refine hK.out _ _ h5 (fun _ => ?_); clear hK K; refine hT 5 ⟨some 26, _, _, _, _, _⟩ rfl h5 ?_; simp only [hP]; refine hT 8 ⟨some 29, _, _, _, _, _⟩ rfl h5 ?_; simp only [hP]; refine hT 9 ⟨some 30, _, _, _, _, _⟩ rfl h5 ?_; simp only [hP]; refine wpAnyH_done (by kernel_rfl) ?_ _; refine NoPanic.normal ?_; go_wp2_with (go_at_call 32; refine (wrap_some _ _ _ _ _).mono ?_; rintro e w' ⟨rfl, rfl⟩); refine bodyPost_ret (v := .tuple #[.slice none 0 0, .int .i64 0, wrapV opTGet s (errV 7)]) (by simp [results, Tryz.results77, go_sem, wrapV, errV, opTGet]) rfl ?_; exact ⟨h5.2.2.2, Or.inr ⟨by rw [HE.out.1]; decide, by rw [HE.out.2]⟩⟩
   ·have HNU := hI (show ¬ (false = true ∨ ((ups q).length : Int) < cf.k) from fun e => e.elim (fun e => by cases e) hu)
    rw [if_neg HNU.out] at HCO HCV; refine wp_region_noPanic ?_; refine wp_region_held_drew (S := (fun w' => TgS lo c q cf b w w')) (by kernel_rfl) h2.drew (fun hHeld => ?_); refine hT 0 ⟨some 21, _, _, _, _, _⟩ rfl hHeld ?_; simp only [hP]
    refine hC 1 rfl fun K hK => ?_
    go_simp; refine (CO.out _ hHeld).mono ?_; rintro e w9 ⟨rfl, hw9⟩; obtain rfl := hw9; refine hK.out _ _ hHeld (fun _ => ?_); clear hK K; refine hT 2 ⟨some 23, _, _, _, _, _⟩ rfl hHeld ?_; simp only [hP]; refine hT 3 ⟨some 24, _, _, _, _, _⟩ rfl hHeld ?_; simp only [hP]; refine hT 6 ⟨some 27, _, _, _, _, _⟩ rfl hHeld ?_; simp only [hP]; refine hT 7 ⟨some 28, _, _, _, _, _⟩ rfl hHeld ?_; simp only [hP]
    refine hC 4 rfl fun K hK => ?_
    go_simp; refine (CU.out _ hHeld).mono ?_; rintro e w5 ⟨v5, rfl, ho5, hb5⟩
    have h5 := TgS.then hHeld (by first | exact hb5 | exact bthen (Below.drew (Below.refl _ _)) hb5)
    obtain ⟨g5, c5, rfl, -⟩ := own_slice ho5; clear ho5 hb5; refine hK.out _ _ h5 (fun _ => ?_); clear hK K; refine hT 5 ⟨some 26, _, _, _, _, _⟩ rfl h5 ?_; simp only [hP]; refine hT 8 ⟨some 29, _, _, _, _, _⟩ rfl h5 ?_; simp only [hP]; refine hT 9 ⟨some 30, _, _, _, _, _⟩ rfl h5 ?_; simp only [hP]; refine wpAnyH_done (by kernel_rfl) ?_ _; refine NoPanic.normal ?_; have H5 := hI h5; clear d0 d1 d2 d3 d4 h2 hHeld h5; obtain ⟨d0, d1, d2, d3, d4⟩ := H5.out.2.1.cells; go_wp2_with fail; refine (CL.out _ H5.out).mono ?_; rintro e w6 ⟨v6, rfl, hS6, hb6⟩; have H6 := hI (H5.out.then hb6); have HS6 := hI hS6; obtain ⟨g6, c6, rfl, -⟩ := hS6.len; clear hS6 hb6 d0 d1 d2 d3 d4; obtain ⟨d0, d1, d2, d3, d4⟩ := H6.out.2.1.cells
    by_cases hp : ((tpts q cf s).length : Int) < cf.k
    ·have HE := hI (show tcode q cf s = 6 ∧ tgetV q cf s = wrapV opTGet s (lossV s ((tpts q cf s).length : Int) cf.k) from ⟨by rw [HCO.out, if_pos hp], by rw [HCV.out, if_pos hp]⟩)
     generalize (tpts q cf s).length = np at *; go_wp2_with (go_at_call 32; refine (wrap_some _ _ _ _ _).mono ?_; rintro e w' ⟨rfl, rfl⟩); refine bodyPost_ret (v := .tuple #[.slice none 0 0, .int .i64 0, wrapV opTGet s (lossV s (np : Int) cf.k)]) (by simp [results, Tryz.results77, go_sem, wrapV, lossV, opTGet]) rfl ?_; exact ⟨H6.out.2.2.2, Or.inr ⟨by rw [HE.out.1]; decide, by rw [HE.out.2]⟩⟩
    ·have HE := hI (show tcode q cf s = 0 from by rw [HCO.out, if_neg hp])
     have CD := hI (tdecode_any cf cf.k.toNat q.n (tpts q cf s) (.slice g6 (tpts q cf s).length c6) w6 HKN.out.1 HCF.out HKN.out.2.1 HKN.out.2.2 (by omega) HS6.out HIN.out.1 HIN.out.2.1 (by have := HKN.out.1; omega) HIN.out.2.2); generalize (tpts q cf s).length = np at *; generalize htn : tnew q cf s = tn at *; have HTN := hI htn; clear htn; go_wp2_with fail; refine CD.out.mono ?_; rintro e w7 ⟨v7, bs, rfl, hO7, h108, hBO, hb7⟩; have H7 := hI (show w7.ownsRow b 87 108 v7 bs.length (bs.map bytesV).flatten ∧ Below w.heap.size w w7 from ⟨own_base hO7 (by rw [← hbb]; exact H6.out.2.2.2.size), bthen H6.out.2.2.2 hb7⟩); have HBO := hI hBO; have H108 := hI h108; obtain ⟨g7, c7, rfl, -⟩ := own_slice' hO7; clear hO7 hb7 hBO h108; go_wp2_with fail; refine bodyPost_ret (v := .tuple #[.slice g7 bs.length c7, .int .i64 tn, .nilIface]) (by simp [results, Tryz.results77, go_sem]) rfl ?_; exact ⟨H7.out.2, Or.inl ⟨HE.out, _, bs, by rw [HTN.out], by rw [hbb]; exact H7.out.1, H108.out, HBO.out⟩⟩
end Go.Proofs.YtilljaneegbhlaaGreatDoor
