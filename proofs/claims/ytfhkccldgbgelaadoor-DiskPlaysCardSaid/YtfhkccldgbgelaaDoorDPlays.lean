/-
  stavelaw6.DiskPlays: the walk, two disks.
-/
import Derived.Test.YtfhkccldgbgelaaDoorRPair
import Derived.Test.YtfhkccldgbgelaaDoorDAny
import Derived.Test.YtfhkccldgbgelaaDoorAsk
import Derived.Test.YtfhkccldgbgelaaDoorIntact
import Derived.Deep.CutBlock
import Derived.Deep.DeepCutAuto
import Derived.Deep.DeepMust
namespace Go.Proofs.YtfhkccldgbgelaaDoor
open Go.RowKit Go.Deep Dk Go.Maps
theorem info_int : (Tryd.prog.info? 3).map (fun i => (i.zero, i.size, i.bytes)) = some (some (.int .i64 0), 1, 8) := by kernel_rfl
set_option maxRecDepth 100000 in
theorem wpList_append_num (w : World) {ops : Array Oper} {rest : List Oper} {o : Oper} {a : Act} {Q : Exit → Act → World → Prop} (hgd : o.guard = none) (s x : Operand)
    (ho : o.op = .call { callee := .builtin .append, args := #[s, x], argTypes := #[51, 51] })
    (base : Nat) (v : Value) (n : Nat) (xs : List Value) (hsv : a.eval s = v) (hown : w.ownsRow base 3 1 v n xs)
    (b : Nat) (u : Value) (hx : a.eval x = .slice (some ⟨b, 0, none⟩) 1 1) (hb : w.cell? ⟨b, 0, none⟩ = some u) (hu : u.oneCell' = true) (h63 : n + 1 ≤ 100000) (hbase : base ≤ w.heap.size)
    (h : ∀ v' w', w'.ownsRow base 3 1 v' (n + 1) (xs ++ [u]) → Grew w v.ownBlock w' v'.ownBlock → wpList Tryd.prog ops Q rest (a.put o.dst v') w') : wpList Tryd.prog ops Q (o :: rest) a w := by
  obtain ⟨i0, hi0, hz⟩ := Option.map_eq_some_iff.1 info_int
  simp only [Prod.mk.injEq] at hz
  obtain ⟨hz0, hz1, hz2⟩ := hz
  have hsrc : Src Tryd.prog 1 51 (.slice (some ⟨b, 0, none⟩) 1 1) 1 [u] w := Src.ofSlice _ Tryd.underlying51 ⟨b, 0, none⟩ 1 1 [u] rfl (fun j y hy => by
    match j, hy with
    | 0, hy => injection hy with hy; subst hy; simpa [Addr.add] using hb
    | j + 1, hy => simp at hy) (fun y hy => by rw [List.mem_singleton.1 hy]; exact hu)
  exact wpList_append_src w hgd s x 51 51 ho base 3 i0 (.int .i64 0) 1 8 Tryd.underlying51 hi0 hz0 hz1 hz2 rfl v n xs hsv hown (.slice (some ⟨b, 0, none⟩) 1 1) 1 [u] hx hsrc (by unfold maxLen; omega) (by omega) hbase fun v' w' h1 h2 _ => h v' w' h1 h2
/-- Of the first m sectors those that wait. -/
def ksN (s : St) (m : Nat) : List Nat := (List.range m).filter fun i => (s.wt i).isSome
theorem ksN_some {s : St} {m : Nat} {l : Sec} (h : s.wt m = some l) : ksN s (m + 1) = ksN s m ++ [m] := by
  unfold ksN; rw [List.range_succ, List.filter_append]; simp [h]
theorem ksN_none {s : St} {m : Nat} (h : s.wt m = none) : ksN s (m + 1) = ksN s m := by
  unfold ksN; rw [List.range_succ, List.filter_append]; simp [h]
theorem ksN_length (s : St) (m : Nat) : (ksN s m).length ≤ m := by
  have := List.length_filter_le (fun i => (s.wt i).isSome) (List.range m)
  simpa [ksN] using this
def RelPk (n : Nat) (s : St) (w1 : World) (ok wv c : Value) (w2 : World) : Prop :=
  ok = .bool true ∧ ∃ m : Nat, m ≤ n ∧ c = .int .i64 m ∧ w2.ownsRow w1.heap.size 3 1 wv (ksN s m).length (numsV (ksN s m)) ∧ Below w1.heap.size w1 w2
theorem relPk_none {n m : Nat} {s : St} {w1 wi w2 : World} {wv : Value} (hm : m < n) (h : s.wt m = none) (ho : wi.ownsRow w1.heap.size 3 1 wv (ksN s m).length (numsV (ksN s m))) (hb : Below w1.heap.size w1 wi) (hb2 : Below wi.heap.size wi w2) : RelPk n s w1 (.bool true) wv (.int .i64 ((m : Int) + 1)) w2 :=
  ⟨rfl, m + 1, by omega, by go_num, by rw [ksN_none h]; exact own_below ho hb2, hb.trans (hb2.mono hb.size)⟩
theorem relPk_some {n m : Nat} {s : St} {l : Sec} {w1 wi wa w2 : World} {v v' : Value} (hm : m < n) (h : s.wt m = some l) (ho : wi.ownsRow w1.heap.size 3 1 v (ksN s m).length (numsV (ksN s m))) (hb : Below w1.heap.size w1 wi) (o : Obj)
    (hown : wa.ownsRow w1.heap.size 3 1 v' ((ksN s m).length + 1) (numsV (ksN s m) ++ [.int .i64 (m : Int)])) (hg : Grew (wi.alloc o) v.ownBlock wa v'.ownBlock) (hb2 : Below wa.heap.size wa w2) : RelPk n s w1 (.bool true) v' (.int .i64 ((m : Int) + 1)) w2 := by
  have h1 : Below w1.heap.size w1 (wi.alloc o) := balloc hb o
  have h2 : Below w1.heap.size w1 wa := h1.trans (hg.below h1.size fun k hk => (own_block ho hk).1)
  refine ⟨rfl, m + 1, by omega, by go_num, ?_, h2.trans (hb2.mono h2.size)⟩
  rw [ksN_some h, List.length_append]
  have := own_below hown hb2
  simpa [numsV] using this
/-- A block apart from the seven. -/
def Apart7 (k d S M r A C E : Nat) : Prop := k ≠ d ∧ k ≠ S ∧ k ≠ M ∧ k ≠ r ∧ k ≠ A ∧ k ≠ C ∧ k ≠ E
theorem Step.ak {d S M r A C E Q : Nat} {w w' : World} {q : Ak} (h : Step d S M r A C E w w') (hq : AkAt w Q 0 q) (ha : Apart7 Q d S M r A C E) : AkAt w' Q 0 q :=
  hq.keep (h.block Q hq.lt ha.1 ha.2.1 ha.2.2.1 ha.2.2.2.1 ha.2.2.2.2.1 ha.2.2.2.2.2.1 ha.2.2.2.2.2.2)
theorem ak_new (w : World) (q : Ak) : AkAt (w.alloc (.cells (cellsA q).toArray 45)) w.heap.size 0 q :=
  ⟨new_cells w _ _ 0 _ rfl, new_cells w _ _ 1 _ rfl, new_cells w _ _ 2 _ rfl, new_cells w _ _ 3 _ rfl, new_cells w _ _ 4 _ rfl, new_cells w _ _ 5 _ rfl⟩
theorem Pr.new_apart {lo : Nat} {w : World} {d S M r A C E : Nat} {s1 s2 : St} (h : Pr lo w d S M r A C E s1 s2) : Apart7 w.heap.size d S M r A C E := by
  obtain ⟨a1, a2, a3⟩ := h.disk.lt
  obtain ⟨b1, b2, b3, b4⟩ := h.ref.lt
  exact ⟨by omega, by omega, by omega, by omega, by omega, by omega, by omega⟩
/-- A row of bytes that lies behind lo. -/
def RowB (lo : Nat) (w : World) (v : Value) (l : List UInt8) : Prop := SlB w.heap.size w v l ∧ ∀ b o n cap, v = .slice (some ⟨b, o, none⟩) n cap → lo ≤ b
theorem RowB.slb {lo : Nat} {w : World} {v : Value} {l : List UInt8} (h : RowB lo w v l) : SlB w.heap.size w v l := h.1
theorem RowB.step {lo d S M r A C E : Nat} {w w' : World} {v : Value} {l : List UInt8} (h : RowB lo w v l) (hs : Step d S M r A C E w w') (hf : ∀ k, lo ≤ k → Apart7 k d S M r A C E) : RowB lo w' v l := by
  obtain ⟨h1, h2⟩ := h
  refine ⟨?_, h2⟩
  rcases h1 with h0 | ⟨b, o, cap, rfl, hlt, h3, h4⟩
  · exact Or.inl h0
  · obtain ⟨a1, a2, a3, a4, a5, a6, a7⟩ := hf b (h2 b o _ _ rfl)
    exact Or.inr ⟨b, o, cap, rfl, Nat.lt_of_lt_of_le hlt hs.size, fun x hx => (World.cell?_of_block (a := ⟨b, o + x, none⟩) (hs.block b hlt a1 a2 a3 a4 a5 a6 a7)).trans (h3 x hx), h4⟩
theorem RowB.below {lo : Nat} {w w' : World} {v : Value} {l : List UInt8} (h : RowB lo w v l) (hb : Below w.heap.size w w') : RowB lo w' v l := ⟨(h.1.below hb).wider hb.size, h.2⟩
theorem Pr.far {lo : Nat} {w : World} {d S M r A C E : Nat} {s1 s2 : St} (h : Pr lo w d S M r A C E s1 s2) : ∀ k, w.heap.size ≤ k → Apart7 k d S M r A C E := by
  obtain ⟨a1, a2, a3⟩ := h.disk.lt
  obtain ⟨b1, b2, b3, b4⟩ := h.ref.lt
  exact fun k hk => ⟨by omega, by omega, by omega, by omega, by omega, by omega, by omega⟩
theorem rowB_of {lo g o n cap : Nat} {w : World} {l : List UInt8} (h : SlB w.heap.size w (.slice (some ⟨g, o, none⟩) n cap) l) (hg : lo ≤ g) : RowB lo w (.slice (some ⟨g, o, none⟩) n cap) l :=
  ⟨h, fun b o' n' cap' e => by injection e with e _ _; injection e with e; injection e with e _ _; omega⟩
/-- A sector, or all of it but its first byte. -/
theorem NewRow.cut {x g : Nat} {w : World} (h : Holds w g (bytesV (secL x))) (hg : g < w.heap.size) : SlB w.heap.size w (.slice (some ⟨g, 0, none⟩) 128 128) (secL x) ∧ SlB w.heap.size w (.slice (some ⟨g, 1, none⟩) 127 127) ((secL x).drop 1) := by
  have hl := secL_length x
  refine ⟨by have := slb_lit (cap := 128) h hg (by omega); rwa [hl] at this, Or.inr ⟨g, 1, 127, by rw [List.length_drop, hl], hg, fun k hk => ?_, by rw [List.length_drop, hl]; omega, by rw [List.length_drop, hl]; omega⟩⟩
  rw [List.length_drop, hl] at hk
  rw [h (1 + k) _ (bytesV_at (by omega))]
  simp [List.getD, Nat.add_comm]
def CutS (n d S M r A Q : Nat) (q : Ak) (w0 : World) (ok : Value) (wx : World) : Prop := ok = .bool true ∧ ∃ (s : St) (C E : Nat), s.n = n ∧ Pr w0.heap.size wx d S M r A C E s s ∧ Below w0.heap.size w0 wx ∧ AkAt wx Q 0 q
theorem fnext_n (s : St) : (fnext s).n = s.n := by unfold fnext; split; rfl; exact flushed_n s
theorem rotnext_n (s : St) (i a : Int) (x : Nat) : (rotnext s i a x).n = s.n := by unfold rotnext; split; rfl; rfl
theorem wnext_n (s : St) (i : Int) (l : List UInt8) : (wnext s i l).n = s.n := by unfold wnext; split; rfl; rfl
theorem wrap_u32n (n : Nat) : IntKind.u32.wrap (n : Int) = ((n % 4294967296 : Nat) : Int) := by
  simp [IntKind.wrap, IntKind.bits, IntKind.signed]
/-- Both disks stand alike. -/
def Both (n : Nat) (d S M r A : Nat) (w0 w : World) : Prop := ∃ (s : St) (C E : Nat), s.n = n ∧ Pr w0.heap.size w d S M r A C E s s ∧ Below w0.heap.size w0 w
def RelPl (n d S M r A : Nat) (w0 : World) (len : Nat) (c : Value) (wr : World) : Prop := ∃ m : Nat, m ≤ len ∧ m ≤ 40 ∧ c = .int .i64 m ∧ Both n d S M r A w0 wr
set_option maxHeartbeats 16000000 in
set_option maxRecDepth 100000 in
theorem plays_yes (sectors : Int) (hs : 1 ≤ sectors) (v0 : Value) (l : List Ak) (w : World) (hT : Typ w) (hA : SlA w.heap.size w v0 l) (hok : ∀ q ∈ l, q.Ok) :
    Calls Tryd.prog 4 #[.int .i64 sectors, v0] w (Bit true w) := by
  have HT := Lib.hid hT
  have HOK := Lib.hid (fun k (hk : k < l.length) => asks_ok hok hk)
  obtain ⟨a, cap, rfl⟩ := hA.len
  have HA := Lib.hid hA
  clear hT hA hok
  go_enter Tryd.func4, Tryd.ntmps4
  go_upto_if 29 with (fail)
  go_cut [5] (fun c wx => ∃ n : Nat, 1 ≤ n ∧ n ≤ 12 ∧ c = .int .i64 n ∧ wx = w)
  case first =>
    by_cases h12 : 12 < sectors
    · go_wp2_with fail
      go_meet
      exact ⟨12, by omega, by omega, rfl, rfl⟩
    · obtain ⟨m, rfl⟩ := Int.eq_ofNat_of_zero_le (by omega : 0 ≤ sectors)
      go_wp2_with fail
      go_meet
      exact ⟨m, by omega, by omega, rfl, rfl⟩
  case rest =>
    obtain ⟨n, hn1, hn12, rfl, hwc⟩ := hcut
    obtain rfl : w = wc := hwc.symm
    clear hwc
    have HN := Lib.hid (new_yes n w hn1 (by omega))
    go_wp2_with fail
    refine HN.out.mono ?_
    rintro e x0 ⟨d, S, M, rfl, hD, h1, h2, h3, hb⟩
    have HD0 := Lib.hid hD
    have HB0 := Lib.hid hb
    have HLW := Lib.hid (show w.heap.size ≤ d ∧ w.heap.size ≤ S ∧ w.heap.size ≤ M from ⟨h1, h2, h3⟩)
    clear hD hb h1 h2 h3
    have HR := Lib.hid (rnew_yes n x0 hn1 (by omega))
    go_wp2_with fail
    refine HR.out.mono ?_
    rintro e x1 ⟨r, A, C, E, rfl, hR, h1, h2, h3, h4, hb⟩
    have HB1 := Lib.hid (HB0.out.trans (hb.mono HB0.out.size))
    have hl := HD0.out.lt
    have HP := Lib.hid (show Pr w.heap.size x1 d S M r A C E (new n) (new n) from ⟨HD0.out.below hb, hR, ⟨HLW.out.1, HLW.out.2.1, HLW.out.2.2, by have := HB0.out.size; omega, by have := HB0.out.size; omega, by have := HB0.out.size; omega, by have := HB0.out.size; omega⟩, by omega, by omega⟩)
    clear hR hb h1 h2 h3 h4 hl
    go_wp2_with fail
    refine (kind_nil x1).mono ?_
    rintro e x2 ⟨rfl, hb2⟩
    have HP2 := Lib.hid (HP.out.below hb2)
    have HB2 := Lib.hid (HB1.out.trans (hb2.mono HB1.out.size))
    clear hb2
    go_wp2_with fail
    go_loopw [10] (fun c wr => RelPl n d S M r A w l.length c wr) (fun c _ => l.length - (RowKit.intOf c).toNat)
    case atStart => exact ⟨0, Nat.zero_le _, Nat.zero_le _, rfl, _, C, E, rfl, HP2.out, HB2.out⟩
    case round =>
      obtain ⟨k, hk, hk40, rfl, s, C2, E2, hsn, hP, hb⟩ := hrel
      have HP := Lib.hid hP
      have HB := Lib.hid hb
      have HSN := Lib.hid hsn
      by_cases hlt : k < l.length
      · by_cases hlt40 : k < 40
        · obtain ⟨bq, o, rfl, hbl, hq⟩ := HA.out.at_ (wr := wr) (fun b hb' => hb.block b hb') hlt
          have hqo := HOK.out k hlt
          generalize l.getD k a0 = q at hq hqo
          have HQ := Lib.hid hq
          have c0 := hq.kind
          have c1 := hq.i
          have c2 := hq.at_
          have c3 := hq.x
          have c4 := hq.bits
          have c5 := hq.short
          have i1 : (k : Int) < l.length := by omega
          have i2 : (0 : Int) ≤ k := by omega
          have i3 : (k : Int) < 40 := by omega
          clear hq hP hb hsn
          go_upto_block 2 with (fail)
          have HP0 := Lib.hid (HP.out.below (one_below wr (.cells (cellsA q).toArray 45)))
          have HB0 := Lib.hid (balloc HB.out (.cells (cellsA q).toArray 45))
          have HQ0 := Lib.hid (ak_new wr q)
          have HAP := Lib.hid HP.out.new_apart
          have HLO := Lib.hid HB.out.size
          have hy : ∃ y, y = wr.alloc (.cells (cellsA q).toArray 45) := ⟨_, rfl⟩
          obtain ⟨y0, hy⟩ := hy
          rw [← hy] at HP0 HB0 HQ0
          have hy' : wr.alloc (.cells #[.int .i64 q.kind, .int .i64 q.i, .int .i64 q.at_, .int .u8 (q.x : Int), .int .u64 (q.bits : Int), .bool q.short] 45) = y0 := hy.symm
          have HSZ := Lib.hid (show w.heap.size ≤ y0.heap.size by rw [hy]; exact Nat.le_trans HB.out.size (one_below wr _).size)
          clear hy c0 c1 c2 c3 c4 c5
          rw [hy']
          clear hy'
          generalize hQ : wr.heap.size = Q at *
          clear hQ
          go_cut [12] from 51 to 247 (fun ok wx => CutS n d S M r A Q q w ok wx)
          case first =>
            have c0 := HQ0.out.kind
            by_cases hk2 : q.kind = 2
            · as_aux_lemma =>
                have e1 : (q.kind == 1) = false := by simp; omega
                have e2 : (q.kind == 2) = true := by simp [hk2]
                clear hk2
                have HF1 := Lib.hid (pflush_d HP0.out)
                go_wp2_with fail
                refine (HF1.out).mono ?_
                rintro e x1 ⟨rfl, hP1, hs1⟩
                have HP1 := Lib.hid hP1
                have HB1 := Lib.hid (HP0.out.lower hs1 HB0.out HSZ.out)
                have HSZ1 := Lib.hid (Nat.le_trans HSZ.out hs1.size)
                have HQ1 := Lib.hid (hs1.ak HQ0.out HAP.out)
                clear hP1 hs1
                have HK := Lib.hid (kind_ev opFlush (fcode s) 0 x1 (HT.out.below HB1.out))
                generalize evs opFlush (fcode s) 0 = ev at HK ⊢
                go_wp2_with fail
                refine (HK.out).mono ?_
                rintro e x2 ⟨rfl, hb2⟩
                have HP2 := Lib.hid (HP1.out.below hb2)
                have HB2 := Lib.hid (HB1.out.trans (hb2.mono HSZ1.out))
                have HSZ2 := Lib.hid (Nat.le_trans HSZ1.out hb2.size)
                have HQ2 := Lib.hid (HQ1.out.keep (hb2.block Q HQ1.out.lt))
                clear hb2
                have HF := Lib.hid (pflush_r HP2.out)
                generalize fcode s = fc at HF ⊢
                go_wp2_with fail
                refine (HF.out).mono ?_
                rintro e x3 ⟨rfl, C3, E3, hP3, hs3⟩
                have HP3 := Lib.hid hP3
                have HB3 := Lib.hid (HP2.out.lower hs3 HB2.out HSZ2.out)
                have HSZ3 := Lib.hid (Nat.le_trans HSZ2.out hs3.size)
                have HQ3 := Lib.hid (hs3.ak HQ2.out HAP.out)
                clear hP3 hs3
                go_wp2_with fail
                go_meet
                exact ⟨rfl, _, C3, E3, (fnext_n s).trans HSN.out, HP3.out, HB3.out, HQ3.out⟩
            · skip
              by_cases hk3 : q.kind = 3
              · as_aux_lemma =>
                  have e1 : (q.kind == 1) = false := by simp; omega
                  have e2 : (q.kind == 2) = false := by simp; omega
                  have e3 : (q.kind == 3) = true := by simp [hk3]
                  clear hk3
                  have c4 := HQ0.out.bits
                  have HF1 := Lib.hid (pcrash_d HP0.out q.bits hqo.bits)
                  go_wp2_with fail
                  refine (HF1.out).mono ?_
                  rintro e x1 ⟨rfl, hP1, hs1⟩
                  have HP1 := Lib.hid hP1
                  have HB1 := Lib.hid (HP0.out.lower hs1 HB0.out HSZ.out)
                  have HSZ1 := Lib.hid (Nat.le_trans HSZ.out hs1.size)
                  have HQ1 := Lib.hid (hs1.ak HQ0.out HAP.out)
                  clear hP1 hs1
                  have c4 := HQ1.out.bits
                  have HF := Lib.hid (pcrash_r HP1.out q.bits hqo.bits)
                  go_wp2_with fail
                  refine (HF.out).mono ?_
                  rintro e x2 ⟨rfl, C2, E2, hP2, hs2⟩
                  have HP2 := Lib.hid hP2
                  have HB2 := Lib.hid (HP1.out.lower hs2 HB1.out HSZ1.out)
                  have HSZ2 := Lib.hid (Nat.le_trans HSZ1.out hs2.size)
                  have HQ2 := Lib.hid (hs2.ak HQ1.out HAP.out)
                  clear hP2 hs2
                  go_wp2_with fail
                  go_meet
                  exact ⟨rfl, _, C2, E2, (crashed_n s q.bits).trans HSN.out, HP2.out, HB2.out, HQ2.out⟩
              · skip
                by_cases hk4 : q.kind = 4
                · as_aux_lemma =>
                    have e1 : (q.kind == 1) = false := by simp; omega
                    have e2 : (q.kind == 2) = false := by simp; omega
                    have e3 : (q.kind == 3) = false := by simp; omega
                    have e4 : (q.kind == 4) = true := by simp [hk4]
                    clear hk4
                    obtain ⟨xb, hcv⟩ : ∃ xb : Nat, IntKind.u32.wrap (q.bits : Int) = (xb : Int) := ⟨_, wrap_u32n _⟩
                    have HR1 := Lib.hid (prot_d (HP0.out.below (w' := y0.drew) (Below.drew (Below.refl _ _))) q.i q.at_ xb)
                    have HR2 := Lib.hid (fun x1 (h : Pr w.heap.size x1 d S M r A C2 E2 (rotnext s q.i q.at_ xb) s) => prot_r h q.i q.at_ xb)
                    generalize decide (mayRot s q.i q.at_ xb) = b at HR1 HR2
                    have HMEM := Lib.hid (fun (w' : World) (h : AkAt w' Q 0 q) => show w'.cell? ⟨Q, 1, none⟩ = some (.int .i64 q.i) ∧ w'.cell? ⟨Q, 2, none⟩ = some (.int .i64 q.at_) ∧ w'.cell? ⟨Q, 4, none⟩ = some (.int .u64 (q.bits : Int)) from ⟨h.i, h.at_, h.bits⟩)
                    have hq0 : AkAt y0 Q 0 q := HQ0.out
                    have hq0d : AkAt y0.drew Q 0 q := HQ0.out.keep rfl
                    go_wp2_with fail
                    go_region_held3 (fun w' => w'.cell? ⟨Q, 1, none⟩ = some (.int .i64 q.i) ∧ w'.cell? ⟨Q, 2, none⟩ = some (.int .i64 q.at_) ∧ w'.cell? ⟨Q, 4, none⟩ = some (.int .u64 (q.bits : Int))) (exact HMEM.out _ (by assumption))
                      (first
                        | (go_at_call 15; go_must (with_reducible refine (HR1.out).mono ?_); rintro e x1 ⟨rfl, hP1, hs1⟩; have HP1 := Lib.hid hP1; have hq1 : AkAt x1 Q 0 q := hs1.ak hq0d HAP.out; have HS1 := Lib.hid hs1; clear hP1 hs1)
                        | (go_at_call 26; (with_reducible refine (HR2.out _ HP1.out).mono ?_); rintro e x2 ⟨rfl, hP2, hs2⟩; have HP2 := Lib.hid hP2; have hq2 : AkAt x2 Q 0 q := hs2.ak hq1 HAP.out; have HS2 := Lib.hid hs2; clear hP2 hs2))
                    all_goals
                      go_wp2_with fail
                      go_meet
                      have hst : Step d S M r A C2 E2 y0 x2 := (Step.trans ⟨HS1.out.os, HS1.out.tape, HS1.out.output, HS1.out.size, HS1.out.block⟩ HS2.out)
                      exact ⟨by simp, _, C2, E2, (rotnext_n s _ _ _).trans HSN.out, HP2.out, HP0.out.lower hst HB0.out HSZ.out, hq2⟩
                · skip
                  by_cases hk5 : q.kind = 5
                  · as_aux_lemma =>
                      have e1 : (q.kind == 1) = false := by simp; omega
                      have e2 : (q.kind == 2) = false := by simp; omega
                      have e3 : (q.kind == 3) = false := by simp; omega
                      have e4 : (q.kind == 4) = false := by simp; omega
                      have e5 : (q.kind == 5) = true := by simp [hk5]
                      clear hk5
                      have HF1 := Lib.hid (pdie_d HP0.out)
                      go_wp2_with fail
                      refine (HF1.out).mono ?_
                      rintro e x1 ⟨rfl, hP1, hs1⟩
                      have HP1 := Lib.hid hP1
                      have HB1 := Lib.hid (HP0.out.lower hs1 HB0.out HSZ.out)
                      have HSZ1 := Lib.hid (Nat.le_trans HSZ.out hs1.size)
                      have HQ1 := Lib.hid (hs1.ak HQ0.out HAP.out)
                      clear hP1 hs1
                      have HF := Lib.hid (pdie_r HP1.out)
                      go_wp2_with fail
                      refine (HF.out).mono ?_
                      rintro e x2 ⟨rfl, C2, E2, hP2, hs2⟩
                      have HP2 := Lib.hid hP2
                      have HB2 := Lib.hid (HP1.out.lower hs2 HB1.out HSZ1.out)
                      have HSZ2 := Lib.hid (Nat.le_trans HSZ1.out hs2.size)
                      have HQ2 := Lib.hid (hs2.ak HQ1.out HAP.out)
                      clear hP2 hs2
                      go_wp2_with fail
                      go_meet
                      exact ⟨rfl, _, C2, E2, (show (s.wipe true).n = n from HSN.out), HP2.out, HB2.out, HQ2.out⟩
                  · skip
                    by_cases hk6 : q.kind = 6
                    · as_aux_lemma =>
                        have e1 : (q.kind == 1) = false := by simp; omega
                        have e2 : (q.kind == 2) = false := by simp; omega
                        have e3 : (q.kind == 3) = false := by simp; omega
                        have e4 : (q.kind == 4) = false := by simp; omega
                        have e5 : (q.kind == 5) = false := by simp; omega
                        have e6 : (q.kind == 6) = true := by simp [hk6]
                        clear hk6
                        have HF1 := Lib.hid (preplace_d HP0.out)
                        go_wp2_with fail
                        refine (HF1.out).mono ?_
                        rintro e x1 ⟨rfl, hP1, hs1⟩
                        have HP1 := Lib.hid hP1
                        have HB1 := Lib.hid (HP0.out.lower hs1 HB0.out HSZ.out)
                        have HSZ1 := Lib.hid (Nat.le_trans HSZ.out hs1.size)
                        have HQ1 := Lib.hid (hs1.ak HQ0.out HAP.out)
                        clear hP1 hs1
                        have HF := Lib.hid (preplace_r HP1.out)
                        go_wp2_with fail
                        refine (HF.out).mono ?_
                        rintro e x2 ⟨rfl, C2, E2, hP2, hs2⟩
                        have HP2 := Lib.hid hP2
                        have HB2 := Lib.hid (HP1.out.lower hs2 HB1.out HSZ1.out)
                        have HSZ2 := Lib.hid (Nat.le_trans HSZ1.out hs2.size)
                        have HQ2 := Lib.hid (hs2.ak HQ1.out HAP.out)
                        clear hP2 hs2
                        go_wp2_with fail
                        go_meet
                        exact ⟨rfl, _, C2, E2, (show (s.wipe false).n = n from HSN.out), HP2.out, HB2.out, HQ2.out⟩
                    · skip
                      by_cases hk1 : q.kind = 1
                      · as_aux_lemma =>
                          have e1 : (q.kind == 1) = true := by simp [hk1]
                          clear hk1
                          have c3 := HQ0.out.x
                          have HFAR := Lib.hid HP0.out.far
                          go_wp2_with fail
                          refine (sector_any q.x hqo.x y0).mono ?_
                          rintro e x1 ⟨v1, rfl, hv1, hb1⟩
                          have HP1 := Lib.hid (HP0.out.below hb1)
                          have HB1 := Lib.hid (HB0.out.trans (hb1.mono HSZ.out))
                          have HSZ1 := Lib.hid (Nat.le_trans HSZ.out hb1.size)
                          have HQ1 := Lib.hid (HQ0.out.keep (hb1.block Q HQ0.out.lt))
                          have HBY := Lib.hid hb1
                          clear hb1
                          have HXY := Lib.hid HBY.out.size
                          obtain ⟨gr, hv, hg1, hg2, hg3⟩ := hv1
                          rw [secL_length] at hv
                          subst hv
                          obtain ⟨hr1, hr2⟩ := NewRow.cut hg3 hg2
                          have HRA := Lib.hid (rowB_of hr1 hg1)
                          have HRB := Lib.hid (rowB_of hr2 hg1)
                          clear hr1 hr2 hg1 hg2 hg3
                          have c5 := HQ1.out.short
                          have c1 := HQ1.out.i
                          cases hsh : q.short with
                          | false =>
                            rw [hsh] at c5
                            have HRL := HRA
                            have hL : (secL q.x).length = 128 := by exact secL_length _
                            generalize secL q.x = L at HRL hL
                            have HLL := Lib.hid hL
                            clear hL
                            have HRO := Lib.hid (show Calls Tryd.prog 20 #[(.slice (some ⟨gr, 0, none⟩) 128 128), .int .u8 9] x1 (fun e w' => e = .returned (.slice (some ⟨x1.heap.size, 0, none⟩) 208 208) ∧ w'.ownsRow x1.heap.size 5 1 (.slice (some ⟨x1.heap.size, 0, none⟩) (L.length + 80) (L.length + 80)) (L.length + 80) (bytesV (roomL L 9 80)) ∧ Below x1.heap.size x1 w') from by
                              refine (roomy_bytes x1.heap.size (.slice (some ⟨gr, 0, none⟩) 128 128) L 9 x1 HRL.out.1 (Nat.le_refl _) (by omega) (by rw [HLL.out]; omega)).mono ?_
                              rintro e w' ⟨rfl, h1, h2⟩
                              exact ⟨by rw [HLL.out], h1, h2⟩)
                            go_wp2_with fail
                            refine (HRO.out).mono ?_
                            rintro e x2 ⟨rfl, hown2, hb2⟩
                            have HP2 := Lib.hid (HP1.out.below hb2)
                            have HB2 := Lib.hid (HB1.out.trans (hb2.mono HSZ1.out))
                            have HSZ2 := Lib.hid (Nat.le_trans HSZ1.out hb2.size)
                            have HQ2 := Lib.hid (HQ1.out.keep (hb2.block Q HQ1.out.lt))
                            have HBX := Lib.hid hb2
                            clear hb2
                            have HB2D := Lib.hid (HB2.out.drew)
                            have HSZ2D := Lib.hid (show w.heap.size ≤ x2.drew.heap.size from HSZ2.out)
                            have HFU := Lib.hid (show RowB y0.heap.size x2 (.slice (some ⟨x1.heap.size, 0, none⟩) 208 208) (roomL L 9 80) by have := rowB_of (room_whole hown2) HXY.out; rwa [HLL.out] at this)
                            have HFH := Lib.hid (show SlB x2.heap.size x2 (.slice (some ⟨x1.heap.size, 0, none⟩) 128 208) L by have := room_head hown2; rwa [HLL.out] at this)
                            have HRL2 := Lib.hid (HRL.out.below HBX.out)
                            clear hown2
                            generalize x1.heap.size = gf at *
                            have HP2D := Lib.hid (HP2.out.below (w' := x2.drew) (Below.drew (Below.refl _ _)))
                            have HW1 := Lib.hid (pwrite_d HP2D.out q.i (.slice (some ⟨gf, 0, none⟩) 128 208) L (HFH.out.below (Below.drew (Below.refl _ _))))
                            have HKK := Lib.hid (fun x (hT : Typ x) => kind_ev opWrite (wcode s q.i L) q.i x hT)
                            have HW2 := Lib.hid (fun x (h : Pr w.heap.size x d S M r A C2 E2 (wnext s q.i L) s) (hv : SlB x.heap.size x (.slice (some ⟨gr, 0, none⟩) 128 128) L) => pwrite_r h q.i (.slice (some ⟨gr, 0, none⟩) 128 128) L hv)
                            have HIN := Lib.hid (fun (x : World) (h1 : SlB x.heap.size x (.slice (some ⟨gf, 0, none⟩) 208 208) (roomL L 9 80)) (h2 : SlB x.heap.size x (.slice (some ⟨gr, 0, none⟩) 128 128) L) => show Calls Tryd.prog 22 #[.slice (some ⟨gf, 0, none⟩) 208 208, (.slice (some ⟨gr, 0, none⟩) 128 128), .int .u8 9] x (Bit true x) from intact_bytes x.heap.size _ _ L 9 x h1 h2 (Nat.le_refl _) (by omega) (by rw [HLL.out]; omega))
                            generalize evs opWrite (wcode s q.i L) q.i = ev at HW1 HKK
                            generalize wcode s q.i L = cc at HKK HW2
                            have HFU2 := Lib.hid (HFU.out.below (w' := x2.drew) (Below.drew (Below.refl _ _)))
                            have HRL2D := Lib.hid (HRL2.out.below (w' := x2.drew) (Below.drew (Below.refl _ _)))
                            have HMEM := Lib.hid (fun (w' : World) (h : AkAt w' Q 0 q) => show w'.cell? ⟨Q, 1, none⟩ = some (.int .i64 q.i) from h.i)
                            have hq0 : AkAt x2 Q 0 q := HQ2.out
                            have hq2d : AkAt x2.drew Q 0 q := HQ2.out.keep rfl
                            clear c1 c3 c5
                            go_wp2_with fail
                            go_region_held3 (fun w' => w'.cell? ⟨Q, 1, none⟩ = some (.int .i64 q.i)) (exact HMEM.out _ (by assumption))
                              (first
                                | (go_at_call 11; go_must (with_reducible refine (HW1.out).mono ?_); rintro e x3 ⟨rfl, hP3, hs3⟩; have HP3 := Lib.hid hP3; have hq3 : AkAt x3 Q 0 q := hs3.ak hq2d HAP.out; have HS3 := Lib.hid hs3; clear hP3 hs3)
                                | (go_at_call 18; go_must (with_reducible refine (HKK.out x3 (HT.out.below (HP2D.out.lower HS3.out HB2D.out HSZ2D.out))).mono ?_); rintro e x4 ⟨rfl, hb4⟩; have HB4 := Lib.hid hb4; have hq4 : AkAt x4 Q 0 q := hq3.keep (hb4.block Q hq3.lt); have HRL4 := Lib.hid ((HRL2D.out.step HS3.out HFAR.out).below hb4); have HFU4 := Lib.hid ((HFU2.out.step HS3.out HFAR.out).below hb4); clear hb4)
                                | (go_at_call 21; go_must (with_reducible refine (HW2.out x4 (HP3.out.below HB4.out) HRL4.out.slb).mono ?_); rintro e x5 ⟨rfl, hP5, hs5⟩; have HP5 := Lib.hid hP5; have hq5 : AkAt x5 Q 0 q := hs5.ak hq4 HAP.out; have HRL5 := Lib.hid (HRL4.out.step hs5 HFAR.out); have HFU5 := Lib.hid (HFU4.out.step hs5 HFAR.out); have HS5 := Lib.hid hs5; clear hP5 hs5)
                                | (go_at_call 22; go_must (with_reducible refine (HIN.out x5 HFU5.out.slb HRL5.out.slb).mono ?_); rintro e x6 ⟨rfl, hb6⟩; have HB6 := Lib.hid hb6; have hq6 : AkAt x6 Q 0 q := hq5.keep (hb6.block Q hq5.lt); clear hb6))
                            all_goals
                              go_wp2_with fail
                              go_meet
                              have hst : Step d S M r A C2 E2 x2.drew x6 := HS3.out.trans ((Step.of_below HB4.out).trans (HS5.out.trans (Step.of_below HB6.out)))
                              exact ⟨by simp, _, C2, E2, (wnext_n s _ _).trans HSN.out, HP5.out.below HB6.out, HP2D.out.lower hst HB2D.out HSZ2.out, hq6⟩
                          | true =>
                            rw [hsh] at c5
                            have HRL := HRB
                            have hL : ((secL q.x).drop 1).length = 127 := by rw [List.length_drop, secL_length]
                            generalize (secL q.x).drop 1 = L at HRL hL
                            have HLL := Lib.hid hL
                            clear hL
                            have HRO := Lib.hid (show Calls Tryd.prog 20 #[(.slice (some ⟨gr, 1, none⟩) 127 127), .int .u8 9] x1 (fun e w' => e = .returned (.slice (some ⟨x1.heap.size, 0, none⟩) 207 207) ∧ w'.ownsRow x1.heap.size 5 1 (.slice (some ⟨x1.heap.size, 0, none⟩) (L.length + 80) (L.length + 80)) (L.length + 80) (bytesV (roomL L 9 80)) ∧ Below x1.heap.size x1 w') from by
                              refine (roomy_bytes x1.heap.size (.slice (some ⟨gr, 1, none⟩) 127 127) L 9 x1 HRL.out.1 (Nat.le_refl _) (by omega) (by rw [HLL.out]; omega)).mono ?_
                              rintro e w' ⟨rfl, h1, h2⟩
                              exact ⟨by rw [HLL.out], h1, h2⟩)
                            go_wp2_with fail
                            refine (HRO.out).mono ?_
                            rintro e x2 ⟨rfl, hown2, hb2⟩
                            have HP2 := Lib.hid (HP1.out.below hb2)
                            have HB2 := Lib.hid (HB1.out.trans (hb2.mono HSZ1.out))
                            have HSZ2 := Lib.hid (Nat.le_trans HSZ1.out hb2.size)
                            have HQ2 := Lib.hid (HQ1.out.keep (hb2.block Q HQ1.out.lt))
                            have HBX := Lib.hid hb2
                            clear hb2
                            have HB2D := Lib.hid (HB2.out.drew)
                            have HSZ2D := Lib.hid (show w.heap.size ≤ x2.drew.heap.size from HSZ2.out)
                            have HFU := Lib.hid (show RowB y0.heap.size x2 (.slice (some ⟨x1.heap.size, 0, none⟩) 207 207) (roomL L 9 80) by have := rowB_of (room_whole hown2) HXY.out; rwa [HLL.out] at this)
                            have HFH := Lib.hid (show SlB x2.heap.size x2 (.slice (some ⟨x1.heap.size, 0, none⟩) 127 207) L by have := room_head hown2; rwa [HLL.out] at this)
                            have HRL2 := Lib.hid (HRL.out.below HBX.out)
                            clear hown2
                            generalize x1.heap.size = gf at *
                            have HP2D := Lib.hid (HP2.out.below (w' := x2.drew) (Below.drew (Below.refl _ _)))
                            have HW1 := Lib.hid (pwrite_d HP2D.out q.i (.slice (some ⟨gf, 0, none⟩) 127 207) L (HFH.out.below (Below.drew (Below.refl _ _))))
                            have HKK := Lib.hid (fun x (hT : Typ x) => kind_ev opWrite (wcode s q.i L) q.i x hT)
                            have HW2 := Lib.hid (fun x (h : Pr w.heap.size x d S M r A C2 E2 (wnext s q.i L) s) (hv : SlB x.heap.size x (.slice (some ⟨gr, 1, none⟩) 127 127) L) => pwrite_r h q.i (.slice (some ⟨gr, 1, none⟩) 127 127) L hv)
                            have HIN := Lib.hid (fun (x : World) (h1 : SlB x.heap.size x (.slice (some ⟨gf, 0, none⟩) 207 207) (roomL L 9 80)) (h2 : SlB x.heap.size x (.slice (some ⟨gr, 1, none⟩) 127 127) L) => show Calls Tryd.prog 22 #[.slice (some ⟨gf, 0, none⟩) 207 207, (.slice (some ⟨gr, 1, none⟩) 127 127), .int .u8 9] x (Bit true x) from intact_bytes x.heap.size _ _ L 9 x h1 h2 (Nat.le_refl _) (by omega) (by rw [HLL.out]; omega))
                            generalize evs opWrite (wcode s q.i L) q.i = ev at HW1 HKK
                            generalize wcode s q.i L = cc at HKK HW2
                            have HFU2 := Lib.hid (HFU.out.below (w' := x2.drew) (Below.drew (Below.refl _ _)))
                            have HRL2D := Lib.hid (HRL2.out.below (w' := x2.drew) (Below.drew (Below.refl _ _)))
                            have HMEM := Lib.hid (fun (w' : World) (h : AkAt w' Q 0 q) => show w'.cell? ⟨Q, 1, none⟩ = some (.int .i64 q.i) from h.i)
                            have hq0 : AkAt x2 Q 0 q := HQ2.out
                            have hq2d : AkAt x2.drew Q 0 q := HQ2.out.keep rfl
                            clear c1 c3 c5
                            go_wp2_with fail
                            go_region_held3 (fun w' => w'.cell? ⟨Q, 1, none⟩ = some (.int .i64 q.i)) (exact HMEM.out _ (by assumption))
                              (first
                                | (go_at_call 11; go_must (with_reducible refine (HW1.out).mono ?_); rintro e x3 ⟨rfl, hP3, hs3⟩; have HP3 := Lib.hid hP3; have hq3 : AkAt x3 Q 0 q := hs3.ak hq2d HAP.out; have HS3 := Lib.hid hs3; clear hP3 hs3)
                                | (go_at_call 18; go_must (with_reducible refine (HKK.out x3 (HT.out.below (HP2D.out.lower HS3.out HB2D.out HSZ2D.out))).mono ?_); rintro e x4 ⟨rfl, hb4⟩; have HB4 := Lib.hid hb4; have hq4 : AkAt x4 Q 0 q := hq3.keep (hb4.block Q hq3.lt); have HRL4 := Lib.hid ((HRL2D.out.step HS3.out HFAR.out).below hb4); have HFU4 := Lib.hid ((HFU2.out.step HS3.out HFAR.out).below hb4); clear hb4)
                                | (go_at_call 21; go_must (with_reducible refine (HW2.out x4 (HP3.out.below HB4.out) HRL4.out.slb).mono ?_); rintro e x5 ⟨rfl, hP5, hs5⟩; have HP5 := Lib.hid hP5; have hq5 : AkAt x5 Q 0 q := hs5.ak hq4 HAP.out; have HRL5 := Lib.hid (HRL4.out.step hs5 HFAR.out); have HFU5 := Lib.hid (HFU4.out.step hs5 HFAR.out); have HS5 := Lib.hid hs5; clear hP5 hs5)
                                | (go_at_call 22; go_must (with_reducible refine (HIN.out x5 HFU5.out.slb HRL5.out.slb).mono ?_); rintro e x6 ⟨rfl, hb6⟩; have HB6 := Lib.hid hb6; have hq6 : AkAt x6 Q 0 q := hq5.keep (hb6.block Q hq5.lt); clear hb6))
                            all_goals
                              go_wp2_with fail
                              go_meet
                              have hst : Step d S M r A C2 E2 x2.drew x6 := HS3.out.trans ((Step.of_below HB4.out).trans (HS5.out.trans (Step.of_below HB6.out)))
                              exact ⟨by simp, _, C2, E2, (wnext_n s _ _).trans HSN.out, HP5.out.below HB6.out, HP2D.out.lower hst HB2D.out HSZ2.out, hq6⟩
                      · skip
                        as_aux_lemma =>
                          have e1 : (q.kind == 1) = false := by simp; omega
                          have e2 : (q.kind == 2) = false := by simp; omega
                          have e3 : (q.kind == 3) = false := by simp; omega
                          have e4 : (q.kind == 4) = false := by simp; omega
                          have e5 : (q.kind == 5) = false := by simp; omega
                          have e6 : (q.kind == 6) = false := by simp; omega
                          go_wp2_with fail
                          go_meet
                          exact ⟨rfl, s, _, _, HSN.out, HP0.out, HB0.out, HQ0.out⟩
          case rest =>
            obtain ⟨rfl, s3, C3, E3, hn3, hP, hb, hQ⟩ := hcut
            obtain ⟨capA, _, d0, d1, _, d3⟩ := hP.ref.cells
            rw [hn3] at d0
            have HPC := Lib.hid hP
            have HBC := Lib.hid hb
            have HQC := Lib.hid hQ
            have HSC := Lib.hid hn3
            have HLC := Lib.hid (show w.heap.size ≤ wc.heap.size from Nat.le_trans HLO.out (Nat.le_of_lt hQ.lt))
            clear hP hb hQ hn3 HP0 HB0 HQ0 HSZ HP HB HSN HQ HP2 HB2 HB1 HD0 HN HR
            go_wp2_with fail
            go_loopw [12, 15, 158] (fun ok wv c wr => RelPk n s3 wc ok wv c wr) (fun _ _ c _ => n - (RowKit.intOf c).toNat)
            case atStart => exact ⟨rfl, 0, Nat.zero_le _, rfl, ⟨rfl, Or.inl ⟨rfl, rfl⟩⟩, Below.refl _ _⟩
            case round =>
              obtain ⟨rfl, m, hm, rfl, ho, hbi⟩ := hrel
              have HPI := Lib.hid (HPC.out.below hbi)
              have HBI := Lib.hid hbi
              have HOI := Lib.hid ho
              have HQI := Lib.hid (HQC.out.keep (hbi.block Q HQC.out.lt))
              have HZI := Lib.hid (Nat.le_trans HLC.out hbi.size)
              have HWB := Lib.hid (HBC.out.trans (hbi.mono HLC.out))
              obtain ⟨capI, _, f0, f1, _, f3⟩ := HPI.out.ref.cells
              rw [HSC.out] at f0
              obtain ⟨gw, cw, rfl, -⟩ := own_slice ho
              clear ho hbi d0 d1 d3
              by_cases hlt : m < n
              · obtain ⟨D, hC⟩ := HPI.out.ref.cache
                have HCI := Lib.hid hC
                have hn' := HPI.out.ref.ok.n
                have him : m < s3.n := by rw [HSC.out]; exact hlt
                have i1 : (m : Int) < n := by omega
                clear hC
                cases hw : s3.wt m with
                | none =>
                  as_aux_lemma =>
                    have HW := Lib.hid hw
                    clear hw
                    have HPX := HPI
                    have HWX := HWB
                    have HZX := HZI
                    have HRD := Lib.hid (pread_d wr HPX.out.disk (m : Int))
                    go_wp2_with (at_lookup; refine wpList_lookup_cache _ rfl _ _ rfl rfl rfl HCI.out him hn' ?_; rw [HW.out]; intro v hv; clear hv)
                    refine HRD.out.mono ?_
                    rintro e y1 ⟨v1, rfl, hv1, hb1⟩
                    have HV1 := Lib.hid hv1
                    have HY1 := Lib.hid hb1
                    have HRR := Lib.hid (pread_r y1 (HPX.out.below hb1).ref (m : Int))
                    have HKK := Lib.hid (fun x (hT : Typ x) => kind_ev opRead (rcode s3 (m : Int)) (m : Int) x hT)
                    generalize evs opRead (rcode s3 (m : Int)) (m : Int) = ev at HKK ⊢
                    generalize rcode s3 (m : Int) = rc at HKK HRR
                    clear hv1 hb1
                    go_wp2_with fail
                    refine HRR.out.mono ?_
                    rintro e y2 ⟨v2, rfl, hv2, hb2⟩
                    have HY2 := Lib.hid (HY1.out.trans (hb2.mono HY1.out.size))
                    have HSM := Lib.hid (show Calls Tryd.prog 17 #[v1, v2] y2 (Bit true y2) by
                      have := same_bytes y2.heap.size v1 v2 (rval s3 (m : Int)) (rval s3 (m : Int)) y2 ((HV1.out.below hb2).wider hb2.size) hv2 (Nat.le_refl _) (by have := rval_length HPX.out.disk.ok (m : Int); omega)
                      rwa [decide_eq_true rfl] at this)
                    clear hv2 hb2
                    go_wp2_with fail
                    refine HSM.out.mono ?_
                    rintro e y3 ⟨rfl, hb3⟩
                    have HY3 := Lib.hid (HY2.out.trans (hb3.mono HY2.out.size))
                    clear hb3
                    go_wp2_with fail
                    refine (HKK.out y3 (HT.out.below (HWX.out.trans (HY3.out.mono HZX.out)))).mono ?_
                    rintro e y4 ⟨rfl, hb4⟩
                    have HY4 := Lib.hid (HY3.out.trans (hb4.mono HY3.out.size))
                    clear hb4
                    go_wp2_with fail
                    go_roundw
                    case rel => exact relPk_none hlt HW.out HOI.out HBI.out HY4.out
                    case measure => simp [RowKit.intOf]; omega
                | some lw =>
                  as_aux_lemma =>
                    have HW := Lib.hid hw
                    clear hw
                    have HLN := Lib.hid (ksN_length s3 m)
                    go_wp2_with (first
                      | (at_lookup; refine wpList_lookup_cache _ rfl _ _ rfl rfl rfl HCI.out him hn' ?_; rw [HW.out]; intro v hv; clear hv)
                      | (at_builtin; refine wpList_append_num _ rfl (.tmp 171) (.tmp 173) rfl wc.heap.size _ _ _ rfl (own_below HOI.out (one_below _ _)) wr.heap.size (.int .i64 (m : Int)) rfl ?_ rfl ?_ ?_ ?_; simp; (have := HLN.out; omega); (have := HBI.out.size; simp; omega); intro va wa howna hga; have HOA := Lib.hid howna; have HGA := Lib.hid hga; obtain ⟨ga, ca, rfl, -⟩ := own_slice howna; clear howna hga))
                    have HAB := Lib.hid (show Below wc.heap.size wr wa from (Below.alloc (Below.refl _ _) HBI.out.size _).trans (HGA.out.below (by have := HBI.out.size; simp; omega) fun k hk => (own_block HOI.out hk).1))
                    have HPX := Lib.hid (HPC.out.below (HBI.out.trans HAB.out))
                    have HWX := Lib.hid (HBC.out.trans ((HBI.out.trans HAB.out).mono HLC.out))
                    have HZX := Lib.hid (Nat.le_trans HLC.out (HBI.out.trans HAB.out).size)
                    have HRD := Lib.hid (pread_d wa HPX.out.disk (m : Int))
                    refine HRD.out.mono ?_
                    rintro e y1 ⟨v1, rfl, hv1, hb1⟩
                    have HV1 := Lib.hid hv1
                    have HY1 := Lib.hid hb1
                    have HRR := Lib.hid (pread_r y1 (HPX.out.below hb1).ref (m : Int))
                    have HKK := Lib.hid (fun x (hT : Typ x) => kind_ev opRead (rcode s3 (m : Int)) (m : Int) x hT)
                    generalize evs opRead (rcode s3 (m : Int)) (m : Int) = ev at HKK ⊢
                    generalize rcode s3 (m : Int) = rc at HKK HRR
                    clear hv1 hb1
                    go_wp2_with fail
                    refine HRR.out.mono ?_
                    rintro e y2 ⟨v2, rfl, hv2, hb2⟩
                    have HY2 := Lib.hid (HY1.out.trans (hb2.mono HY1.out.size))
                    have HSM := Lib.hid (show Calls Tryd.prog 17 #[v1, v2] y2 (Bit true y2) by
                      have := same_bytes y2.heap.size v1 v2 (rval s3 (m : Int)) (rval s3 (m : Int)) y2 ((HV1.out.below hb2).wider hb2.size) hv2 (Nat.le_refl _) (by have := rval_length HPX.out.disk.ok (m : Int); omega)
                      rwa [decide_eq_true rfl] at this)
                    clear hv2 hb2
                    go_wp2_with fail
                    refine HSM.out.mono ?_
                    rintro e y3 ⟨rfl, hb3⟩
                    have HY3 := Lib.hid (HY2.out.trans (hb3.mono HY2.out.size))
                    clear hb3
                    go_wp2_with fail
                    refine (HKK.out y3 (HT.out.below (HWX.out.trans (HY3.out.mono HZX.out)))).mono ?_
                    rintro e y4 ⟨rfl, hb4⟩
                    have HY4 := Lib.hid (HY3.out.trans (hb4.mono HY3.out.size))
                    clear hb4
                    go_wp2_with fail
                    go_roundw
                    case rel => exact relPk_some hlt HW.out HOI.out HBI.out _ HOA.out HGA.out HY4.out
                    case measure => simp [RowKit.intOf]; omega
              · have hmn : n = m := by omega
                subst hmn
                have hlen := HOI.out.1
                as_aux_lemma =>
                  clear hlen
                  have i1 : ¬ (n : Int) < n := by omega
                  have HKS := Lib.hid (show ksN s3 n = s3.ks by unfold ksN St.ks; rw [HSC.out])
                  have HNL := Lib.hid (sln_own HOI.out rfl)
                  have c1 := HQI.out.i
                  have HRD := Lib.hid (pread_d wr HPI.out.disk q.i)
                  go_wp2_with fail
                  refine HRD.out.mono ?_
                  rintro e y1 ⟨v1, rfl, hv1, hb1⟩
                  have HY1 := Lib.hid hb1
                  have c1 := (HQI.out.keep (hb1.block Q HQI.out.lt)).i
                  have HRR := Lib.hid (pread_r y1 (HPI.out.below hb1).ref q.i)
                  have HKK := Lib.hid (fun x (hT : Typ x) => kind_ev opRead (rcode s3 q.i) q.i x hT)
                  generalize evs opRead (rcode s3 q.i) q.i = ev at HKK ⊢
                  generalize rcode s3 q.i = rc at HKK HRR
                  clear hv1 hb1
                  go_wp2_with fail
                  refine HRR.out.mono ?_
                  rintro e y2 ⟨v2, rfl, hv2, hb2⟩
                  have HY2 := Lib.hid (HY1.out.trans (hb2.mono HY1.out.size))
                  clear hv2 hb2
                  have HYD := Lib.hid (HY2.out.drew)
                  have HMEM := Lib.hid (fun (x : World) (hb : Below wr.heap.size wr x) => show x.cell? ⟨r, 3, none⟩ = some (.bool s3.dead) ∧ x.cell? ⟨r, 0, none⟩ = some (.slice (some ⟨A, 0, none⟩) n capI) from ⟨(Below.cell hb (p := ⟨r, 3, none⟩) HPI.out.ref.lt.1).trans f3, (Below.cell hb (p := ⟨r, 0, none⟩) HPI.out.ref.lt.1).trans f0⟩)
                  have hb0 : Below wr.heap.size wr y2 := HY2.out
                  have hb0d : Below wr.heap.size wr y2.drew := HYD.out
                  have HTK := Lib.hid (fun (x : World) (hb : Below wr.heap.size wr x) => HKK.out x (HT.out.below (HWB.out.trans (hb.mono HZI.out))))
                  have HTW := Lib.hid (fun (x : World) (hb : Below wr.heap.size wr x) => waits_any x (HPI.out.disk.below hb))
                  have HTD := Lib.hid (fun (x : World) (hb : Below wr.heap.size wr x) => dead_any x (HPI.out.disk.below hb))
                  have HTN := Lib.hid (fun (x : World) (hb : Below wr.heap.size wr x) => show Calls Tryd.prog 34 #[.pointer (some ⟨d, 0, none⟩)] x (fun e w' => e = .returned (.int .i64 (n : Int)) ∧ x = w') from by have := sectors_any x (HPI.out.disk.below hb); rwa [HSC.out] at this)
                  have HTS := Lib.hid (fun (x x2 : World) (v : Value) (hb : Below wr.heap.size wr x) (h : x2.ownsRow x.heap.size 3 1 v s3.ks.length (s3.ks.map fun (i : Nat) => Value.int .i64 (i : Int))) (hb2 : Below x.heap.size x x2) => show Calls Tryd.prog 31 #[v, .slice gw (ksN s3 n).length cw] x2 (Bit true x2) from by
                    have h1 : SlN x2.heap.size x2 v s3.ks := sln_own h rfl
                    have h2 : SlN x2.heap.size x2 (.slice gw (ksN s3 n).length cw) (ksN s3 n) := by
                      have hw := HNL.out.below (hb.trans (hb2.mono hb.size))
                      have hz := Nat.le_trans hb.size hb2.size
                      rcases hw with hw | ⟨b, cap, e1, e2, e3⟩
                      · exact Or.inl hw
                      · exact Or.inr ⟨b, cap, e1, by omega, e3⟩
                    have := same_nums x2.heap.size v _ s3.ks (ksN s3 n) x2 h1 h2 (Nat.le_refl _) (by have := St.ks_length s3; have := HPI.out.disk.ok.n; omega)
                    rwa [decide_eq_true HKS.out.symm] at this)
                  clear c1 f0 f1 f3
                  go_wp2_with fail
                  go_region_held3 (fun x => x.cell? ⟨r, 3, none⟩ = some (.bool s3.dead) ∧ x.cell? ⟨r, 0, none⟩ = some (.slice (some ⟨A, 0, none⟩) n capI)) (exact HMEM.out _ (by assumption))
                    (first
                      | (go_at_call 18; go_must (with_reducible refine (HTK.out _ hb0d).mono ?_); rintro e z1 ⟨rfl, hz1⟩; have hb1 : Below wr.heap.size wr z1 := HYD.out.trans (hz1.mono HYD.out.size); clear hz1)
                      | (go_at_call 32; go_must (with_reducible refine (HTW.out z1 hb1).mono ?_); rintro e z2 ⟨vw, rfl, hzo, hz2⟩; have hb2 : Below wr.heap.size wr z2 := hb1.trans (hz2.mono hb1.size); have HS2 := Lib.hid (HTS.out z1 z2 vw hb1 hzo hz2); clear hzo hz2)
                      | (go_at_call 31; go_must (with_reducible refine (HS2.out).mono ?_); rintro e z3 ⟨rfl, hz3⟩; have hb3 : Below wr.heap.size wr z3 := hb2.trans (hz3.mono hb2.size); clear hz3)
                      | (go_at_call 33; go_must (with_reducible refine (HTD.out z3 hb3).mono ?_); rintro e z4 ⟨rfl, rfl⟩)
                      | (go_at_call 34; go_must (with_reducible refine (HTN.out z3 hb3).mono ?_); rintro e z5 ⟨rfl, rfl⟩))
                  all_goals
                    go_wp2_with fail
                    go_roundw
                    case rel => exact ⟨k + 1, by omega, by omega, by go_num, s3, C3, E3, HSC.out, HPI.out.below hb3, HWB.out.trans (hb3.mono HZI.out)⟩
                    case measure => simp [RowKit.intOf]; omega
        · have i1 : (k : Int) < l.length := by omega
          have i3 : ¬ (k : Int) < 40 := by omega
          have HDR := Lib.hid (disk_runs wr (HT.out.below HB.out))
          clear hP hb hsn
          go_wp2_with fail
          refine HDR.out.mono ?_
          rintro e z ⟨rfl, hz⟩
          have HZ := Lib.hid (HB.out.trans (hz.mono HB.out.size))
          clear hz
          go_wp2_with fail
          go_ret
          exact ⟨rfl, HZ.out⟩
      · have i1 : ¬ (k : Int) < l.length := by omega
        skip
        have HDR := Lib.hid (disk_runs wr (HT.out.below HB.out))
        clear hP hb hsn
        go_wp2_with fail
        refine HDR.out.mono ?_
        rintro e z ⟨rfl, hz⟩
        have HZ := Lib.hid (HB.out.trans (hz.mono HB.out.size))
        clear hz
        go_wp2_with fail
        go_ret
        exact ⟨rfl, HZ.out⟩
end Go.Proofs.YtfhkccldgbgelaaDoor
