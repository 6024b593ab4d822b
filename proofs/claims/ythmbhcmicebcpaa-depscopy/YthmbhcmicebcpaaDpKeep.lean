/-
  A change is laid where it is found: keep.
-/
import Derived.Test.YthmbhcmicebcpaaDpCut
import Derived.Test.YthmbhcmicebcpaaDpDef
import Derived.Deep.Cut
import Derived.Deep.CutRange
import Derived.Deep.CutBlock
namespace Go.Proofs.Ythmbhcmicebcpaa
open Go Go.Proofs Go.RowKit Go.Shelf
open Go.ChangeMaps (setBlock)
theorem exec_mput {ev : Operand → Value} {oi : Oper} {m x y : Operand} {t : TypeId} {vm vx vy : Value} {W W' : World} (ho : oi.op = .mapUpdate t m x y) (hm : ev m = vm) (hx : ev x = vx) (hy : ev y = vy) (hr : (Instr.mapUpdate t vm vx vy).run Try.prog W = .ok () W') : (execOp ev oi).run Try.prog W = .ok .skip W' := by
  unfold execOp
  simp only [ho, Sem.run_bind, Sem.run_pure, Result.andThen_ok, hm, hx, hy, hr]
theorem eqm57 (m : Option Nat) (W : World) : (binOp BinOp.eql 57 (.map m) (.map none)).run Try.prog W = .ok (.bool m.isNone) W := by cases m <;> kernel_rfl
theorem eqp61 (o : Option Nat) (W : World) : (binOp BinOp.eql 61 (optV o) (.pointer none)).run Try.prog W = .ok (.bool o.isNone) W := by cases o <;> kernel_rfl
/-- The blocks of a change. -/
def chB (c : Cx) : Nat → Prop := fun k => c.cb = k ∨ c.om = some k ∨ c.av.ownBlock = some k
section
variable {F : Nat → Prop} {w : World} {g : Nat} {D : Gd}
set_option maxRecDepth 100000 in
set_option maxHeartbeats 8000000 in
theorem keep_any (h : GrAt F w g D) {i : Int} {c : Cx} (hi : D.ch i = none) (hmm : D.lm.isSome = D.bm.isSome) (hout : ∀ k, chB c k → k < w.heap.size ∧ ¬ F k) (hcb : w.heap[c.cb]? = some (chO i c)) (hst : StAt w c.om c.on) (hrow : w.ownsRow 0 3 1 c.av c.ab.length (Iy c.ab))
    (u1 : ∀ k, c.cb = k → ¬ c.om = some k) (u2 : ∀ k, c.cb = k → ¬ c.av.ownBlock = some k) (u3 : ∀ k, c.om = some k → ¬ c.av.ownBlock = some k) (hwi : (Lit.int .i64 i).wf = true) (hwb : (Lit.int .i64 c.buf).wf = true)
    (hnl : D.nl < 1000000) (hnb : D.nb < 1000000) (hnx : ∀ x, D.bf c.buf = some x → x.nx.length < 1000000 ∧ x.bl.length < 1000000) :
    Calls Try.prog 43 #[ptV g, ptV c.cb] w fun e w' => e = .returned (.tuple #[]) ∧ ∃ D', GrAt (fun k => Grown F w k ∨ chB c k) w' g D' ∧ D'.abs = D.abs.keep i c.dat ∧ (∀ y, (D'.ch y).map (·.cb) = (updC D.ch i (some c) y).map (·.cb)) ∧ Only F w w' := by
  obtain ⟨_, g1, g2, gf⟩ := h.cellsG
  have hgl : g < w.heap.size := h.lt (n := .g) rfl
  have gfa : ((w.alloc (.map #[] 0)).alloc (.map #[] 0)).heap[g]? = w.heap[g]? := by rw [Below.heap_alloc _ _ _ (by simp; omega), Below.heap_alloc _ _ _ hgl]
  have gf1 : ((w.alloc (.map #[] 0)).alloc (.map #[] 0)).frozen? ⟨g, 1, none⟩ = false := (World.frozen?_of_block (w := w) gfa).trans (gf 1)
  have gf2 : ((w.alloc (.map #[] 0)).alloc (.map #[] 0)).frozen? ⟨g, 2, none⟩ = false := (World.frozen?_of_block (w := w) gfa).trans (gf 2)
  have HH := Hid.mk h
  have HMM := Hid.mk hmm
  have HCB := Hid.mk hcb
  have HOUT := Hid.mk hout
  have HB : Hid (∀ W', Only F w W' → W'.heap[c.cb]? = some (chO i c) ∧ StAt W' c.om c.on ∧ W'.ownsRow 0 3 1 c.av c.ab.length (Iy c.ab)) := Hid.mk (fun W' hO => by
    have hk : ∀ k, chB c k → W'.heap[k]? = w.heap[k]? := fun k hk => hO.block k (hout k hk).1 (hout k hk).2
    exact ⟨(hk _ (.inl rfl)).trans hcb, hst.kept (fun b hb => hk b (.inr (.inl hb))), row_same hrow (fun k hk' => hk k (.inr (.inr hk')))⟩)
  obtain ⟨lm0, hl⟩ : ∃ m, D.lm = m := ⟨_, rfl⟩
  rw [hl] at g1
  have qe := eqm57 lm0
  clear hout hst hrow hcb gfa
  go_enter Try.func43, Try.ntmps43
  go_upto_if 9 with fail
  go_cut [4] from 5 to 17 (fun _ W => Hid (∃ D1 l1 b1, GrAt (Grown F w) W g D1 ∧ D1.lm = some l1 ∧ D1.bm = some b1 ∧ D1.abs = { D.abs with ml := true, mb := true } ∧ D1.ch = D.ch ∧ D1.bf = D.bf ∧ D1.nl = D.nl ∧ D1.nb = D.nb ∧ Only F w W))
  case first =>
    cases lm0 with
    | none =>
      have hb : D.bm = none := by
        rw [hl] at hmm
        cases hb : D.bm with
        | none => rfl
        | some b => rw [hb] at hmm; cases hmm
      rw [hb] at g2
      have hmk := @run_makeMap Try.prog
      have HL := Hid.mk hl
      have HBN := Hid.mk hb
      clear h hl hb hmm
      go_wp2
      go_meet
      case rel =>
        have hg0 : w.heap[g]? = some _ := HH.out.cont .g
        rw [HL.out, HBN.out] at hg0
        obtain ⟨V, hV⟩ : ∃ V, V = (w.setCell ⟨g, 1, none⟩ (.map (some w.heap.size))).setCell ⟨g, 2, none⟩ (.map (some (w.heap.size + 1))) := ⟨_, rfl⟩
        have hVs : V.heap.size = w.heap.size := by rw [hV]; simp [World.setCell]
        have hVg : V.heap[g]? = some (.cells #[.int .i64 (D.added : Nat), .map (some w.heap.size), .map (some (w.heap.size + 1))] 60 (0, 0)) := by rw [hV, blk_set (blk_set hg0)]; rfl
        have hVO : ∀ S : Nat → Prop, S g → Only S w V := fun S hS => by rw [hV]; exact ((Only.refl S w).setCell (p := ⟨g, 1, none⟩) (.inl hS) _).setCell (p := ⟨g, 2, none⟩) (.inl hS) _
        rw [← hV]
        have m1 : MAt (V.alloc (.map #[] 0)) 3 w.heap.size 0 (fun _ => none) := by have := MAt.new V 3; rwa [hVs] at this
        have m2 : MAt ((V.alloc (.map #[] 0)).alloc (.map #[] 0)) 3 (w.heap.size + 1) 0 (fun _ => none) := by have := MAt.new (V.alloc (.map #[] 0)) 3; rwa [World.size_alloc, hVs] at this
        refine Hid.mk ⟨_, w.heap.size, w.heap.size + 1, GrAt.made (W' := (V.alloc (.map #[] 0)).alloc (.map #[] 0)) HH.out HL.out HBN.out ?_ (by omega) ⟨Nat.le_refl _, ?_⟩ ⟨by omega, ?_⟩ ?_ ?_ m2, rfl, rfl, ?_, rfl, rfl, rfl, rfl, ?_⟩
        · exact ((hVO (fun k => k = g) rfl).alloc _).alloc _
        · simp [hVs]; omega
        · simp [hVs]
        · rw [Below.heap_alloc _ _ _ (by simp [hVs]; omega), Below.heap_alloc _ _ _ (by rw [hVs]; exact hgl)]; exact hVg
        · exact m1.kept (Below.heap_alloc _ _ _ (by simp [hVs]))
        · rfl
        · exact ((hVO F (HH.out.own .g g rfl).1).alloc _).alloc _
    | some l1 =>
      obtain ⟨b1, hb⟩ : ∃ b1, D.bm = some b1 := by
        rw [hl] at hmm
        cases hb : D.bm with
        | none => rw [hb] at hmm; cases hmm
        | some b => exact ⟨b, rfl⟩
      have HL := Hid.mk hl
      have HBN := Hid.mk hb
      clear h hl hb hmm
      go_wp2
      go_meet
      case rel =>
        refine Hid.mk ⟨D, l1, b1, HH.out.mono (fun k _ hk => .inl hk), HL.out, HBN.out, ?_, rfl, rfl, rfl, rfl, Only.refl _ _⟩
        unfold Gd.abs
        rw [HL.out, HBN.out]
        rfl
  case rest =>
  clear qe g1 g2 gf1 gf2 gf hl
  obtain ⟨D1, l1, b1, hg1, hl1, hb1, ha1, hch1, hbf1, hnl1, hnb1, ho1⟩ := hcut.out
  clear hcut
  -- the change
  obtain ⟨o2, hr2, hm2⟩ : ∃ o, (Instr.mapUpdate 57 (.map (some l1)) (.int .i64 i) (ptV c.cb)).run Try.prog wc.drew = .ok () (setBlock wc.drew l1 o) ∧ MAt (setBlock wc.drew l1 o) 3 l1 (D1.nl + 1) (leftF (updC D1.ch i (some c))) := by
    have hm : MapAt wc.drew D1.lm D1.nl (leftF D1.ch) := hg1.drew.cont .left
    rw [hl1] at hm
    obtain ⟨o, hr, hm2⟩ := MAt.put hm keyed3 Try.underlying57 (by unfold maxLen; omega) (key_int hwi) (val := ptV c.cb)
    refine ⟨o, hr, ?_⟩
    have e1 : (leftF D1.ch (.int .i64 i)).isSome = false := by simp [leftF, hch1, hi]
    rw [if_neg (by rw [e1]; simp)] at hm2
    exact hm2.say (fun _ l _ => (left_upd D1.ch i (some c) l).symm)
  obtain ⟨W2, hW2⟩ : ∃ W2, W2 = setBlock wc.drew l1 o2 := ⟨_, rfl⟩
  rw [← hW2] at hr2 hm2
  have hO2 : Only (fun k => k = l1) wc.drew W2 := by rw [hW2]; exact Only.setBlock (S := fun k => k = l1) (Only.refl _ _) (.inl rfl) o2
  have hl1F : Grown F w l1 := (hg1.own .left l1 hl1).1
  have hcF : ∀ k, chB c k → ¬ Grown F w k := fun k hk hg => hg.elim (HOUT.out k hk).2 (fun h' => by have := (HOUT.out k hk).1; omega)
  have hcl1 : ∀ k, chB c k → k ≠ l1 := fun k hk e => hcF k hk (by rw [e]; exact hl1F)
  have hoW2 : Only F w W2 := ho1.drew.trans hO2 (fun k hk => by subst hk; exact hl1F)
  have hc2 := HB.out W2 hoW2
  have hs2 := hoW2.size
  obtain ⟨D2, hD2⟩ : ∃ D2 : Gd, D2 = { D1 with ch := updC D1.ch i (some c), nl := D1.nl + 1 } := ⟨_, rfl⟩
  have hg2 : GrAt (fun k => Grown F w k ∨ chB c k) W2 g D2 := by
    rw [hD2]
    exact hg1.drew.chAdd (c := c) (by rw [hch1]; exact hi) hl1 hO2 hm2 hc2.1 hc2.2.1 hc2.2.2 (fun k hk => ⟨by have := (HOUT.out k hk).1; omega, fun n hn => hcF k hk (hg1.own n k hn).1⟩) u1 u2 u3
  have hc2i : D2.ch i = some c := by rw [hD2]; exact updC_same _ _ _
  have hb2 : D2.bm = some b1 := by rw [hD2]; exact hb1
  have hbf2 : D2.bf = D.bf := by rw [hD2]; exact hbf1
  have ha2 : D2.abs = D.abs.lay i c.dat := by
    rw [hD2]
    unfold Ga.lay
    have e : ({ D1 with ch := updC D1.ch i (some c), nl := D1.nl + 1 } : Gd).abs = { D1.abs with ch := updC D1.abs.ch i (some c.dat), nl := D1.abs.nl + 1 } := by
      unfold Gd.abs
      simp only [Ga.mk.injEq, true_and, and_true]
      exact updC_map D1.ch i (some c) Cx.dat
    rw [e, ha1]
  have hpl2 : ∀ y, (D2.ch y).map (·.cb) = (updC D.ch i (some c) y).map (·.cb) := fun y => by rw [hD2, ← hch1]
  have hnb2 : D2.nb < 1000000 := by rw [hD2]; show D1.nb < _; omega
  obtain ⟨_, gl0, _, _⟩ := hg1.cellsG
  rw [hl1] at gl0
  obtain ⟨_, gl2, gb2, _⟩ := hg2.cellsG
  rw [hb2] at gb2
  have gl2' : W2.cell? ⟨g, 1, none⟩ = some (.map (some l1)) := by rw [gl2, hD2]; exact congrArg (fun m => some (Value.map m)) hl1
  have hcw := (HB.out wc ho1).1
  have HS2 : Hid (wc.drew.cell? ⟨g, 1, none⟩ = some (.map (some l1)) ∧ wc.drew.cell? ⟨c.cb, 0, none⟩ = some (.int .i64 i)) := Hid.mk ⟨gl0, (blk_cell hcw 0).trans rfl⟩
  have HS2b : Hid (W2.cell? ⟨g, 1, none⟩ = some (.map (some l1)) ∧ W2.cell? ⟨c.cb, 0, none⟩ = some (.int .i64 i)) := Hid.mk ⟨gl2', (blk_cell hc2.1 0).trans rfl⟩
  have HPUT2 := Hid.mk hr2
  obtain ⟨vb, hvb⟩ : ∃ vb, vb = optV ((D.bf c.buf).map (·.bb)) := ⟨_, rfl⟩
  have hlk := hg2.drew.lookB hwb
  rw [hb2, hbf2, ← hvb] at hlk
  have HS3 : Hid (W2.drew.cell? ⟨g, 2, none⟩ = some (.map (some b1)) ∧ W2.drew.cell? ⟨c.cb, 1, none⟩ = some (.int .i64 c.buf) ∧ (Instr.lookup 58 (.map (some b1)) (.int .i64 c.buf) false).run Try.prog W2.drew = .ok vb W2.drew) := Hid.mk ⟨gb2, (blk_cell hc2.1 1).trans rfl, hlk⟩
  have qb : ∀ W, (binOp BinOp.eql 61 vb (.pointer none)).run Try.prog W = .ok (.bool ((D.bf c.buf).map (·.bb)).isNone) W := by rw [hvb]; exact eqp61 _
  have HG2 := Hid.mk hg2
  have HOW2 := Hid.mk hoW2
  have HVB := Hid.mk hvb
  have HA2 := Hid.mk ha2
  have HC2I := Hid.mk hc2i
  have HB2 := Hid.mk hb2
  have HBF2 := Hid.mk hbf2
  have HPL2 := Hid.mk hpl2
  have HNB2 := Hid.mk hnb2
  have HCF := Hid.mk hcF
  clear hg1 hl1 hb1 ha1 hch1 hbf1 hnl1 hnb1 ho1 hr2 hm2 hW2 hO2 hl1F hcF hcl1 hoW2 hc2 hs2 hD2 hg2 hc2i hb2 hbf2 ha2 hpl2 hnb2 gl0 gl2 gb2 gl2' hcw hlk hvb
  go_wp2
  refine wp_region_held_drew (S := fun W' => W'.cell? ⟨g, 1, none⟩ = some (.map (some l1)) ∧ W'.cell? ⟨c.cb, 0, none⟩ = some (.int .i64 i)) (by kernel_rfl) HS2.out (fun hH => ?_)
  change wpAnyH Try.prog Region.Mode.any _ _ _ 10 _ _ _
  refine takeH 0 18 (.pointer (some ⟨g, 0, none⟩)) rfl (by kernel_rfl) (by kernel_rfl) (by kernel_rfl) (by kernel_rfl) (fun _ _ _ h => h) (by kernel_rfl) (fun w hw => by kernel_rfl) hH ?_
  simp only [List.setIfInBounds_toArray, List.set_cons_zero, List.set_cons_succ]
  refine takeH 1 19 (.pointer (some ⟨g, 0, none⟩)) rfl (by kernel_rfl) (by kernel_rfl) (by kernel_rfl) (by kernel_rfl) (fun _ _ _ h => h) (by kernel_rfl) (fun w hw => by (try dsimp only at hw); go_simp) hH ?_
  simp only [List.setIfInBounds_toArray, List.set_cons_zero, List.set_cons_succ]
  refine takeH 2 20 (.pointer (some ⟨g, 1, none⟩)) rfl (by kernel_rfl) (by kernel_rfl) (by kernel_rfl) (by kernel_rfl) (fun _ _ _ h => h) (by kernel_rfl) (fun w hw => by (try dsimp only at hw); go_simp) hH ?_
  simp only [List.setIfInBounds_toArray, List.set_cons_zero, List.set_cons_succ]
  refine takeH 3 21 (.map (some l1)) rfl (by kernel_rfl) (by kernel_rfl) (by kernel_rfl) (by kernel_rfl) (fun _ _ _ h => h) (by kernel_rfl) (fun w hw => by (try dsimp only at hw); go_simp) hH ?_
  simp only [List.setIfInBounds_toArray, List.set_cons_zero, List.set_cons_succ]
  refine takeH 4 22 (.pointer (some ⟨c.cb, 0, none⟩)) rfl (by kernel_rfl) (by kernel_rfl) (by kernel_rfl) (by kernel_rfl) (fun _ _ _ h => h) (by kernel_rfl) (fun w hw => by kernel_rfl) hH ?_
  simp only [List.setIfInBounds_toArray, List.set_cons_zero, List.set_cons_succ]
  refine takeH 5 23 (.pointer (some ⟨c.cb, 0, none⟩)) rfl (by kernel_rfl) (by kernel_rfl) (by kernel_rfl) (by kernel_rfl) (fun _ _ _ h => h) (by kernel_rfl) (fun w hw => by (try dsimp only at hw); go_simp) hH ?_
  simp only [List.setIfInBounds_toArray, List.set_cons_zero, List.set_cons_succ]
  refine takeH 6 24 (.pointer (some ⟨c.cb, 0, none⟩)) rfl (by kernel_rfl) (by kernel_rfl) (by kernel_rfl) (by kernel_rfl) (fun _ _ _ h => h) (by kernel_rfl) (fun w hw => by (try dsimp only at hw); go_simp) hH ?_
  simp only [List.setIfInBounds_toArray, List.set_cons_zero, List.set_cons_succ]
  refine takeH 7 25 (.int .i64 i) rfl (by kernel_rfl) (by kernel_rfl) (by kernel_rfl) (by kernel_rfl) (fun _ _ _ h => h) (by kernel_rfl) (fun w hw => by (try dsimp only at hw); go_simp) hH ?_
  simp only [List.setIfInBounds_toArray, List.set_cons_zero, List.set_cons_succ]
  refine takeH 8 26 (.pointer (some ⟨c.cb, 0, none⟩)) rfl (by kernel_rfl) (by kernel_rfl) (by kernel_rfl) (by kernel_rfl) (fun _ _ _ h => h) (by kernel_rfl) (fun w hw => by kernel_rfl) hH ?_
  simp only [List.setIfInBounds_toArray, List.set_cons_zero, List.set_cons_succ]
  refine stepH_one 9 (by kernel_rfl) (opH_store 9 W2 rfl (by kernel_rfl) (by kernel_rfl) (exec_mput (m := .tmp 21) (x := .tmp 25) (y := .tmp 26) rfl (by kernel_rfl) (by kernel_rfl) (by kernel_rfl) HPUT2.out) HS2b.out ?_)
  refine wpAnyH_done (by kernel_rfl) ?_ _
  go_wp2
  cases hbf : D.bf c.buf with
  | some x1 =>
    rw [hbf] at qb
    simp only [Option.map_some, Option.isNone_some] at qb
    have hv1 : vb = ptV x1.bb := by rw [HVB.out, hbf]; rfl
    have HBF := Hid.mk hbf
    subst hv1
    clear hbf
    have HFIN : Hid (∃ D3, GrAt (fun k => Grown F w k ∨ chB c k) W2.drew g D3 ∧ D3.bf c.buf = some x1 ∧ D3.ch i = some c ∧ D3.abs = (D.abs.lay i c.dat).bufd c.buf ∧ (∀ y, (D3.ch y).map (·.cb) = (updC D.ch i (some c) y).map (·.cb)) ∧ Only F w W2.drew ∧ x1.nx.length < 1000000 ∧ x1.bl.length < 1000000) := Hid.mk (by
      obtain ⟨n1, n2⟩ := hnx x1 HBF.out
      refine ⟨D2, HG2.out.drew, by rw [HBF2.out]; exact HBF.out, HC2I.out, ?_, HPL2.out, HOW2.out.drew, n1, n2⟩
      rw [HA2.out]
      unfold Ga.bufd
      rw [show (D.abs.lay i c.dat).bf c.buf = some x1.dat by show (D.bf _).map _ = _; rw [HBF.out]; rfl])
    obtain ⟨x2, hx2⟩ : ∃ x2, x2 = x1 := ⟨_, rfl⟩
    obtain ⟨Wd, hWd⟩ : ∃ Wd, Wd = W2.drew := ⟨_, rfl⟩
    refine wp_region_held_drew (S := fun W' => W'.cell? ⟨g, 2, none⟩ = some (.map (some b1)) ∧ W'.cell? ⟨c.cb, 1, none⟩ = some (.int .i64 c.buf) ∧ (Instr.lookup 58 (.map (some b1)) (.int .i64 c.buf) false).run Try.prog W' = .ok (ptV x1.bb) W') (by kernel_rfl) HS3.out (fun hH => ?_)
    change wpAnyH Try.prog Region.Mode.any _ _ _ 10 _ _ _
    refine takeH 0 27 (.pointer (some ⟨g, 0, none⟩)) rfl (by kernel_rfl) (by kernel_rfl) (by kernel_rfl) (by kernel_rfl) (fun _ _ _ h => h) (by kernel_rfl) (fun w hw => by kernel_rfl) hH ?_
    simp only [List.setIfInBounds_toArray, List.set_cons_zero, List.set_cons_succ]
    refine takeH 1 28 (.pointer (some ⟨g, 0, none⟩)) rfl (by kernel_rfl) (by kernel_rfl) (by kernel_rfl) (by kernel_rfl) (fun _ _ _ h => h) (by kernel_rfl) (fun w hw => by (try dsimp only at hw); go_simp) hH ?_
    simp only [List.setIfInBounds_toArray, List.set_cons_zero, List.set_cons_succ]
    refine takeH 2 29 (.pointer (some ⟨g, 2, none⟩)) rfl (by kernel_rfl) (by kernel_rfl) (by kernel_rfl) (by kernel_rfl) (fun _ _ _ h => h) (by kernel_rfl) (fun w hw => by (try dsimp only at hw); go_simp) hH ?_
    simp only [List.setIfInBounds_toArray, List.set_cons_zero, List.set_cons_succ]
    refine takeH 3 30 (.map (some b1)) rfl (by kernel_rfl) (by kernel_rfl) (by kernel_rfl) (by kernel_rfl) (fun _ _ _ h => h) (by kernel_rfl) (fun w hw => by (try dsimp only at hw); go_simp) hH ?_
    simp only [List.setIfInBounds_toArray, List.set_cons_zero, List.set_cons_succ]
    refine takeH 4 31 (.pointer (some ⟨c.cb, 0, none⟩)) rfl (by kernel_rfl) (by kernel_rfl) (by kernel_rfl) (by kernel_rfl) (fun _ _ _ h => h) (by kernel_rfl) (fun w hw => by kernel_rfl) hH ?_
    simp only [List.setIfInBounds_toArray, List.set_cons_zero, List.set_cons_succ]
    refine takeH 5 32 (.pointer (some ⟨c.cb, 0, none⟩)) rfl (by kernel_rfl) (by kernel_rfl) (by kernel_rfl) (by kernel_rfl) (fun _ _ _ h => h) (by kernel_rfl) (fun w hw => by (try dsimp only at hw); go_simp) hH ?_
    simp only [List.setIfInBounds_toArray, List.set_cons_zero, List.set_cons_succ]
    refine takeH 6 33 (.pointer (some ⟨c.cb, 1, none⟩)) rfl (by kernel_rfl) (by kernel_rfl) (by kernel_rfl) (by kernel_rfl) (fun _ _ _ h => h) (by kernel_rfl) (fun w hw => by (try dsimp only at hw); go_simp) hH ?_
    simp only [List.setIfInBounds_toArray, List.set_cons_zero, List.set_cons_succ]
    refine takeH 7 34 (.int .i64 c.buf) rfl (by kernel_rfl) (by kernel_rfl) (by kernel_rfl) (by kernel_rfl) (fun _ _ _ h => h) (by kernel_rfl) (fun w hw => by (try dsimp only at hw); go_simp) hH ?_
    simp only [List.setIfInBounds_toArray, List.set_cons_zero, List.set_cons_succ]
    refine takeH 8 35 ((ptV x1.bb)) rfl (by kernel_rfl) (by kernel_rfl) (by kernel_rfl) (by kernel_rfl) (fun _ _ _ h => h) (by kernel_rfl) (fun w hw => by (try dsimp only at hw); go_simp) hH ?_
    simp only [List.setIfInBounds_toArray, List.set_cons_zero, List.set_cons_succ]
    refine takeH 9 4 ((ptV x1.bb)) rfl (by kernel_rfl) (by kernel_rfl) (by kernel_rfl) (by kernel_rfl) (fun _ _ _ h => h) (by kernel_rfl) (fun w hw => by kernel_rfl) hH ?_
    simp only [List.setIfInBounds_toArray, List.set_cons_zero, List.set_cons_succ]
    refine wpAnyH_done (by kernel_rfl) ?_ _
    rw [← hx2, ← hWd] at HFIN ⊢
    clear hx2 hWd hH HS3 HS2 HS2b HPUT2 qb
    obtain ⟨D3, hg3, hx3, hc3, ha3, hp3, ho3, n1, n2⟩ := HFIN.out
    obtain ⟨hcc3, hst3, _⟩ := HB.out Wd ho3
    obtain ⟨n7, hn7⟩ : ∃ n : Nat, n = c.on.length := ⟨_, rfl⟩
    have HSIZE := Hid.mk (size_any Wd c.cb 2 c.om c.on ((blk_cell hcc3 2).trans rfl) hst3)
    rw [← hn7] at HSIZE
    have HS8 : Hid (Wd.drew.cell? ⟨c.cb, 0, none⟩ = some (.int .i64 i)) := Hid.mk ((blk_cell hcc3 0).trans rfl)
    have hcb3 : c.cb < Wd.heap.size := lt_of_block hcc3
    have hne1 : ∀ n k, Own g D3 n k → (n ≠ .ch i ∧ n ≠ .on i ∧ n ≠ .ab i) → ¬ chB c k := by
      rintro n k hk ⟨m1, m2, m3⟩ (e | e | e)
      · exact m1 (hg3.sep n (.ch i) k hk ⟨c, hc3, e⟩)
      · exact m2 (hg3.sep n (.on i) k hk ⟨c, hc3, e⟩)
      · exact m3 (hg3.sep n (.ab i) k hk ⟨c, hc3, e⟩)
    by_cases hon : c.on = []
    · have h70 : n7 = 0 := by rw [hn7, hon]; rfl
      subst h70
      have HADD := Hid.mk (hg3.drew.nxAdd hx3 i hwi n1)
      have HFN : Hid (∀ w8 nm', GrAt (Grown (fun k => Grown F w k ∨ chB c k) Wd.drew) w8 g { D3 with bf := updC D3.bf c.buf (some ⟨insS i x2.nx, x2.bl, x2.bb, nm', x2.km⟩) } → Only (fun k => k = x2.bb ∨ x2.nm = some k) Wd.drew w8 → (∃ D', GrAt (fun k => Grown F w k ∨ chB c k) w8 g D' ∧ D'.abs = D.abs.keep i c.dat ∧ (∀ y, (D'.ch y).map (·.cb) = (updC D.ch i (some c) y).map (·.cb)) ∧ Only F w w8)) := Hid.mk (fun w8 nm' hg8 ho8 => by
        refine ⟨_, hg8.mono (fun k _ hk => hk.elim id (fun h' => .inl (.inr (by have := ho3.size; have h2 : Wd.heap.size ≤ k := h'; omega)))), ?_, hp3, ?_⟩
        · have hk3 : D.abs.keep i c.dat = D3.abs.sort i c.dat := by unfold Ga.keep; rw [ha3]; rfl
          rw [abs_bf, hk3]
          unfold Ga.sort
          rw [show D3.abs.bf c.dat.buf = some x2.dat by show (D3.bf c.buf).map _ = _; rw [hx3]; rfl]
          show _ = if c.on = [] then _ else _
          rw [if_pos hon]
          rfl
        · refine ho3.drew.trans ho8 (fun k hk => ?_)
          rcases hk with rfl | hk
          · exact (hg3.own (.bf c.buf) x2.bb ⟨x2, hx3, rfl⟩).1.resolve_right (hne1 (.bf c.buf) _ ⟨x2, hx3, rfl⟩ ⟨fun e => (by cases e), fun e => (by cases e), fun e => (by cases e)⟩)
          · exact (hg3.own (.nx c.buf) k ⟨x2, hx3, hk⟩).1.resolve_right (hne1 (.nx c.buf) _ ⟨x2, hx3, hk⟩ ⟨fun e => (by cases e), fun e => (by cases e), fun e => (by cases e)⟩))
      have HC8 : Hid (∀ w8, Only (fun k => k = x2.bb ∨ x2.nm = some k) Wd.drew w8 → w8.cell? ⟨c.cb, 0, none⟩ = some (.int .i64 i)) := Hid.mk (fun w8 ho8 => by
        have : w8.heap[c.cb]? = Wd.heap[c.cb]? := ho8.block c.cb hcb3 (by
          rintro (e | e)
          · exact hne1 (.bf c.buf) _ ⟨x2, hx3, rfl⟩ ⟨fun e => (by cases e), fun e => (by cases e), fun e => (by cases e)⟩ (.inl e)
          · exact hne1 (.nx c.buf) _ ⟨x2, hx3, e⟩ ⟨fun e => (by cases e), fun e => (by cases e), fun e => (by cases e)⟩ (.inl rfl))
        exact (blk_cell (this.trans hcc3) 0).trans rfl)
      clear hg3 hx3 hc3 ha3 hp3 ho3 hcc3 hst3 hn7 hne1 hon n1 n2 hcb3
      go_wp2_with (go_at_call 38; refine HSIZE.out.mono ?_; rintro e w7 ⟨rfl, hw7⟩; subst hw7)
      refine wp_region_held_drew (S := fun W' => W'.cell? ⟨c.cb, 0, none⟩ = some (.int .i64 i)) (by kernel_rfl) HS8.out (fun hH => ?_)
      change wpAnyH Try.prog Region.Mode.any _ _ _ 8 _ _ _
      refine takeH 0 54 (.pointer (some ⟨x2.bb, 0, none⟩)) rfl (by kernel_rfl) (by kernel_rfl) (by kernel_rfl) (by kernel_rfl) (fun _ _ _ h => h) (by kernel_rfl) (fun w hw => by kernel_rfl) hH ?_
      simp only [List.setIfInBounds_toArray, List.set_cons_zero, List.set_cons_succ]
      refine takeH 1 55 (.pointer (some ⟨x2.bb, 0, none⟩)) rfl (by kernel_rfl) (by kernel_rfl) (by kernel_rfl) (by kernel_rfl) (fun _ _ _ h => h) (by kernel_rfl) (fun w hw => by (try dsimp only at hw); go_simp) hH ?_
      simp only [List.setIfInBounds_toArray, List.set_cons_zero, List.set_cons_succ]
      refine takeH 2 56 (.pointer (some ⟨x2.bb, 0, none⟩)) rfl (by kernel_rfl) (by kernel_rfl) (by kernel_rfl) (by kernel_rfl) (fun _ _ _ h => h) (by kernel_rfl) (fun w hw => by (try dsimp only at hw); go_simp) hH ?_
      simp only [List.setIfInBounds_toArray, List.set_cons_zero, List.set_cons_succ]
      refine takeH 3 57 (.pointer (some ⟨c.cb, 0, none⟩)) rfl (by kernel_rfl) (by kernel_rfl) (by kernel_rfl) (by kernel_rfl) (fun _ _ _ h => h) (by kernel_rfl) (fun w hw => by kernel_rfl) hH ?_
      simp only [List.setIfInBounds_toArray, List.set_cons_zero, List.set_cons_succ]
      refine takeH 4 58 (.pointer (some ⟨c.cb, 0, none⟩)) rfl (by kernel_rfl) (by kernel_rfl) (by kernel_rfl) (by kernel_rfl) (fun _ _ _ h => h) (by kernel_rfl) (fun w hw => by (try dsimp only at hw); go_simp) hH ?_
      simp only [List.setIfInBounds_toArray, List.set_cons_zero, List.set_cons_succ]
      refine takeH 5 59 (.pointer (some ⟨c.cb, 0, none⟩)) rfl (by kernel_rfl) (by kernel_rfl) (by kernel_rfl) (by kernel_rfl) (fun _ _ _ h => h) (by kernel_rfl) (fun w hw => by (try dsimp only at hw); go_simp) hH ?_
      simp only [List.setIfInBounds_toArray, List.set_cons_zero, List.set_cons_succ]
      refine takeH 6 60 (.int .i64 i) rfl (by kernel_rfl) (by kernel_rfl) (by kernel_rfl) (by kernel_rfl) (fun _ _ _ h => h) (by kernel_rfl) (fun w hw => by (try dsimp only at hw); go_simp) hH ?_
      simp only [List.setIfInBounds_toArray, List.set_cons_zero, List.set_cons_succ]
      refine stepH_call 7 61 rfl (by kernel_rfl) (by kernel_rfl) (by kernel_rfl) 47 #[.tmp 56, .tmp 60] #[64, 3] (by kernel_rfl) (enters_of Try.func47 (by kernel_rfl) rfl) #[.pointer (some ⟨x2.bb, 0, none⟩), .int .i64 i] (by kernel_rfl) HADD.out ?_
      rintro e w8 ⟨r8, rfl, nm', hg8, _, ho8⟩
      have hc8 := HC8.out w8 ho8
      have HG8 := Hid.mk hg8
      have HO8 := Hid.mk ho8
      clear hg8 ho8
      refine ⟨_, rfl, hc8, ?_⟩
      simp only [List.setIfInBounds_toArray, List.set_cons_zero, List.set_cons_succ]
      refine wpAnyH_done (by kernel_rfl) ?_ _
      go_wp2
      go_end0
      exact ⟨rfl, HFN.out w8 nm' HG8.out HO8.out⟩
    · have h70 : n7 ≠ 0 := by rw [hn7]; exact fun e => hon (List.eq_nil_of_length_eq_zero e)
      have h71 : ¬ ((n7 : Nat) : Int) = 0 := by omega
      have h72 : (((n7 : Nat) : Int) == 0) = false := by simpa using h70
      have HADD := Hid.mk (hg3.drew.blAdd hx3 i hwi n2)
      have HFN : Hid (∀ w8 nm', GrAt (Grown (fun k => Grown F w k ∨ chB c k) Wd.drew) w8 g { D3 with bf := updC D3.bf c.buf (some ⟨x2.nx, insS i x2.bl, x2.bb, x2.nm, nm'⟩) } → Only (fun k => k = x2.bb ∨ x2.km = some k) Wd.drew w8 → (∃ D', GrAt (fun k => Grown F w k ∨ chB c k) w8 g D' ∧ D'.abs = D.abs.keep i c.dat ∧ (∀ y, (D'.ch y).map (·.cb) = (updC D.ch i (some c) y).map (·.cb)) ∧ Only F w w8)) := Hid.mk (fun w8 nm' hg8 ho8 => by
        refine ⟨_, hg8.mono (fun k _ hk => hk.elim id (fun h' => .inl (.inr (by have := ho3.size; have h2 : Wd.heap.size ≤ k := h'; omega)))), ?_, hp3, ?_⟩
        · have hk3 : D.abs.keep i c.dat = D3.abs.sort i c.dat := by unfold Ga.keep; rw [ha3]; rfl
          rw [abs_bf, hk3]
          unfold Ga.sort
          rw [show D3.abs.bf c.dat.buf = some x2.dat by show (D3.bf c.buf).map _ = _; rw [hx3]; rfl]
          show _ = if c.on = [] then _ else _
          rw [if_neg hon]
          rfl
        · refine ho3.drew.trans ho8 (fun k hk => ?_)
          rcases hk with rfl | hk
          · exact (hg3.own (.bf c.buf) x2.bb ⟨x2, hx3, rfl⟩).1.resolve_right (hne1 (.bf c.buf) _ ⟨x2, hx3, rfl⟩ ⟨fun e => (by cases e), fun e => (by cases e), fun e => (by cases e)⟩)
          · exact (hg3.own (.bl c.buf) k ⟨x2, hx3, hk⟩).1.resolve_right (hne1 (.bl c.buf) _ ⟨x2, hx3, hk⟩ ⟨fun e => (by cases e), fun e => (by cases e), fun e => (by cases e)⟩))
      have HC8 : Hid (∀ w8, Only (fun k => k = x2.bb ∨ x2.km = some k) Wd.drew w8 → w8.cell? ⟨c.cb, 0, none⟩ = some (.int .i64 i)) := Hid.mk (fun w8 ho8 => by
        have : w8.heap[c.cb]? = Wd.heap[c.cb]? := ho8.block c.cb hcb3 (by
          rintro (e | e)
          · exact hne1 (.bf c.buf) _ ⟨x2, hx3, rfl⟩ ⟨fun e => (by cases e), fun e => (by cases e), fun e => (by cases e)⟩ (.inl e)
          · exact hne1 (.bl c.buf) _ ⟨x2, hx3, e⟩ ⟨fun e => (by cases e), fun e => (by cases e), fun e => (by cases e)⟩ (.inl rfl))
        exact (blk_cell (this.trans hcc3) 0).trans rfl)
      clear hg3 hx3 hc3 ha3 hp3 ho3 hcc3 hst3 hn7 hne1 hon n1 n2 hcb3 h70
      go_wp2_with (go_at_call 38; refine HSIZE.out.mono ?_; rintro e w7 ⟨rfl, hw7⟩; subst hw7)
      refine wp_region_held_drew (S := fun W' => W'.cell? ⟨c.cb, 0, none⟩ = some (.int .i64 i)) (by kernel_rfl) HS8.out (fun hH => ?_)
      change wpAnyH Try.prog Region.Mode.any _ _ _ 8 _ _ _
      refine takeH 0 62 (.pointer (some ⟨x2.bb, 0, none⟩)) rfl (by kernel_rfl) (by kernel_rfl) (by kernel_rfl) (by kernel_rfl) (fun _ _ _ h => h) (by kernel_rfl) (fun w hw => by kernel_rfl) hH ?_
      simp only [List.setIfInBounds_toArray, List.set_cons_zero, List.set_cons_succ]
      refine takeH 1 63 (.pointer (some ⟨x2.bb, 0, none⟩)) rfl (by kernel_rfl) (by kernel_rfl) (by kernel_rfl) (by kernel_rfl) (fun _ _ _ h => h) (by kernel_rfl) (fun w hw => by (try dsimp only at hw); go_simp) hH ?_
      simp only [List.setIfInBounds_toArray, List.set_cons_zero, List.set_cons_succ]
      refine takeH 2 64 (.pointer (some ⟨x2.bb, 1, none⟩)) rfl (by kernel_rfl) (by kernel_rfl) (by kernel_rfl) (by kernel_rfl) (fun _ _ _ h => h) (by kernel_rfl) (fun w hw => by (try dsimp only at hw); go_simp) hH ?_
      simp only [List.setIfInBounds_toArray, List.set_cons_zero, List.set_cons_succ]
      refine takeH 3 65 (.pointer (some ⟨c.cb, 0, none⟩)) rfl (by kernel_rfl) (by kernel_rfl) (by kernel_rfl) (by kernel_rfl) (fun _ _ _ h => h) (by kernel_rfl) (fun w hw => by kernel_rfl) hH ?_
      simp only [List.setIfInBounds_toArray, List.set_cons_zero, List.set_cons_succ]
      refine takeH 4 66 (.pointer (some ⟨c.cb, 0, none⟩)) rfl (by kernel_rfl) (by kernel_rfl) (by kernel_rfl) (by kernel_rfl) (fun _ _ _ h => h) (by kernel_rfl) (fun w hw => by (try dsimp only at hw); go_simp) hH ?_
      simp only [List.setIfInBounds_toArray, List.set_cons_zero, List.set_cons_succ]
      refine takeH 5 67 (.pointer (some ⟨c.cb, 0, none⟩)) rfl (by kernel_rfl) (by kernel_rfl) (by kernel_rfl) (by kernel_rfl) (fun _ _ _ h => h) (by kernel_rfl) (fun w hw => by (try dsimp only at hw); go_simp) hH ?_
      simp only [List.setIfInBounds_toArray, List.set_cons_zero, List.set_cons_succ]
      refine takeH 6 68 (.int .i64 i) rfl (by kernel_rfl) (by kernel_rfl) (by kernel_rfl) (by kernel_rfl) (fun _ _ _ h => h) (by kernel_rfl) (fun w hw => by (try dsimp only at hw); go_simp) hH ?_
      simp only [List.setIfInBounds_toArray, List.set_cons_zero, List.set_cons_succ]
      refine stepH_call 7 69 rfl (by kernel_rfl) (by kernel_rfl) (by kernel_rfl) 47 #[.tmp 64, .tmp 68] #[64, 3] (by kernel_rfl) (enters_of Try.func47 (by kernel_rfl) rfl) #[.pointer (some ⟨x2.bb, 1, none⟩), .int .i64 i] (by kernel_rfl) HADD.out ?_
      rintro e w8 ⟨r8, rfl, nm', hg8, _, ho8⟩
      have hc8 := HC8.out w8 ho8
      have HG8 := Hid.mk hg8
      have HO8 := Hid.mk ho8
      clear hg8 ho8
      refine ⟨_, rfl, hc8, ?_⟩
      simp only [List.setIfInBounds_toArray, List.set_cons_zero, List.set_cons_succ]
      refine wpAnyH_done (by kernel_rfl) ?_ _
      go_wp2
      go_end0
      exact ⟨rfl, HFN.out w8 nm' HG8.out HO8.out⟩
  | none =>
    rw [hbf] at qb
    simp only [Option.map_none, Option.isNone_none] at qb
    have hv1 : vb = .pointer none := by rw [HVB.out, hbf]; rfl
    have HBF := Hid.mk hbf
    subst hv1
    clear hbf
    -- a new buffer
    obtain ⟨bq, hbq⟩ : ∃ bq, bq = W2.heap.size := ⟨_, rfl⟩
    obtain ⟨Wa, hWa⟩ : ∃ Wa, Wa = (W2.alloc (.cells #[.map none, .map none] 66)).drew := ⟨_, rfl⟩
    have hBa : Below W2.drew.heap.size W2.drew Wa := by
      rw [hWa]
      have hb0 := (Below.refl _ W2).alloc (Nat.le_refl _) (.cells #[.map none, .map none] 66)
      exact ⟨hb0.os, hb0.tape, hb0.output, hb0.size, hb0.block⟩
    have hga := HG2.out.drew.grow hBa
    have hbqa : Wa.heap[bq]? = some (.cells #[.map none, .map none] 66 (0, 0)) := by rw [hWa, hbq]; exact blk_new W2 _
    obtain ⟨o6, hr6, hm6⟩ : ∃ o, (Instr.mapUpdate 58 (.map (some b1)) (.int .i64 c.buf) (ptV bq)).run Try.prog Wa.drew = .ok () (setBlock Wa.drew b1 o) ∧ MAt (setBlock Wa.drew b1 o) 3 b1 (D2.nb + 1) (bufF (updC D2.bf c.buf (some ⟨[], [], bq, none, none⟩))) := by
      have hm : MapAt Wa.drew D2.bm D2.nb (bufF D2.bf) := hga.drew.cont .bufs
      rw [HB2.out] at hm
      obtain ⟨o, hr, hm2⟩ := MAt.put hm keyed3 Try.underlying58 (by have := HNB2.out; unfold maxLen; omega) (key_int hwb) (val := ptV bq)
      refine ⟨o, hr, ?_⟩
      have e1 : (bufF D2.bf (.int .i64 c.buf)).isSome = false := by simp [bufF, HBF2.out, HBF.out]
      rw [if_neg (by rw [e1]; simp)] at hm2
      exact hm2.say (fun _ l _ => (buf_upd D2.bf c.buf (some ⟨[], [], bq, none, none⟩) l).symm)
    obtain ⟨W6, hW6⟩ : ∃ W6, W6 = setBlock Wa.drew b1 o6 := ⟨_, rfl⟩
    rw [← hW6] at hr6 hm6
    have hO6 : Only (fun k => k = b1) Wa.drew W6 := by rw [hW6]; exact Only.setBlock (S := fun k => k = b1) (Only.refl _ _) (.inl rfl) o6
    have hb1o : Own g D2 .bufs b1 := HB2.out
    have hb1F := HG2.out.own .bufs b1 hb1o
    have hb1c : ¬ chB c b1 := by
      rintro (e | e | e)
      · have := HG2.out.sep .bufs (.ch i) b1 hb1o ⟨c, HC2I.out, e⟩; cases this
      · have := HG2.out.sep .bufs (.on i) b1 hb1o ⟨c, HC2I.out, e⟩; cases this
      · have := HG2.out.sep .bufs (.ab i) b1 hb1o ⟨c, HC2I.out, e⟩; cases this
    have hb1G : Grown F w b1 := hb1F.1.resolve_right hb1c
    have hoa : Only F w Wa.drew := ((HOW2.out.drew).trans (T := fun _ => False) (Only.of_new _ hBa) (fun _ h => h.elim)).drew
    have ho6 : Only F w W6 := hoa.trans hO6 (fun k hk => by subst hk; exact hb1G)
    have hbqb : bq ≠ b1 := by have := hb1F.2; omega
    have hbq6 : W6.heap[bq]? = some (.cells #[.map none, .map none] 66 (0, 0)) := (hO6.block bq (lt_of_block hbqa) hbqb).trans hbqa
    have hcc6 := (HB.out W6 ho6).1
    have hcca := (HB.out Wa.drew hoa).1
    have hg6 := hga.drew.bfAdd (i := c.buf) (c := ⟨[], [], bq, none, none⟩) (by rw [HBF2.out]; exact HBF.out) HB2.out hO6 hm6 hbq6 (StAt.nil W6) (StAt.nil W6) (by
      rintro k (rfl | hk | hk)
      · exact ⟨lt_of_block hbq6, fun n hn => by have h1 : bq < W2.heap.size := HG2.out.lt hn; omega⟩
      · cases hk
      · cases hk) (fun k _ h => by cases h) (fun k _ h => by cases h) (fun k h _ => by cases h)
    have gb6 := hga.cellsG.2.2.1
    rw [HB2.out] at gb6
    have gb7 := hg6.cellsG.2.2.1
    have HS6 : Hid (Wa.drew.cell? ⟨g, 2, none⟩ = some (.map (some b1)) ∧ Wa.drew.cell? ⟨c.cb, 1, none⟩ = some (.int .i64 c.buf)) := Hid.mk ⟨gb6, (blk_cell hcca 1).trans rfl⟩
    have HS6b : Hid (W6.cell? ⟨g, 2, none⟩ = some (.map (some b1)) ∧ W6.cell? ⟨c.cb, 1, none⟩ = some (.int .i64 c.buf)) := Hid.mk ⟨by rw [gb7]; exact congrArg (fun m => some (Value.map m)) HB2.out, (blk_cell hcc6 1).trans rfl⟩
    have HPUT6 := Hid.mk hr6
    have HFIN : Hid (∃ D3, GrAt (fun k => Grown F w k ∨ chB c k) W6 g D3 ∧ D3.bf c.buf = some ⟨[], [], bq, none, none⟩ ∧ D3.ch i = some c ∧ D3.abs = (D.abs.lay i c.dat).bufd c.buf ∧ (∀ y, (D3.ch y).map (·.cb) = (updC D.ch i (some c) y).map (·.cb)) ∧ Only F w W6 ∧ ([] : List Int).length < 1000000 ∧ ([] : List Int).length < 1000000) := Hid.mk (by
      refine ⟨_, hg6.mono (fun k _ hk => ?_), updC_same _ _ _, HC2I.out, ?_, HPL2.out, ho6, by simp, by simp⟩
      · rcases hk with hk | hk | hk | hk
        · exact hk
        · refine .inl (.inr ?_)
          have h1 : bq = k := hk
          have := HOW2.out.size
          omega
        · cases hk
        · cases hk
      · have e : ({ D2 with bf := updC D2.bf c.buf (some ⟨[], [], bq, none, none⟩), nb := D2.nb + 1 } : Gd).abs = { D2.abs with bf := updC D2.abs.bf c.buf (some ⟨[], []⟩), nb := D2.abs.nb + 1 } := by
          unfold Gd.abs
          simp only [Ga.mk.injEq, true_and, and_true]
          exact updC_map D2.bf c.buf _ Bx.dat
        rw [e, HA2.out]
        unfold Ga.bufd
        rw [show (D.abs.lay i c.dat).bf c.buf = none by show (D.bf _).map _ = _; rw [HBF.out]; rfl])
    have HWA := Hid.mk hWa
    have HBQ := Hid.mk hbq
    clear hBa hga hbqa hr6 hm6 hW6 hO6 hb1o hb1F hb1c hb1G hoa ho6 hbqb hbq6 hcc6 hcca hg6 gb6 gb7 hWa hbq
    refine wp_region_held_drew (S := fun W' => W'.cell? ⟨g, 2, none⟩ = some (.map (some b1)) ∧ W'.cell? ⟨c.cb, 1, none⟩ = some (.int .i64 c.buf) ∧ (Instr.lookup 58 (.map (some b1)) (.int .i64 c.buf) false).run Try.prog W' = .ok (.pointer none) W') (by kernel_rfl) HS3.out (fun hH => ?_)
    change wpAnyH Try.prog Region.Mode.any _ _ _ 10 _ _ _
    refine takeH 0 27 (.pointer (some ⟨g, 0, none⟩)) rfl (by kernel_rfl) (by kernel_rfl) (by kernel_rfl) (by kernel_rfl) (fun _ _ _ h => h) (by kernel_rfl) (fun w hw => by kernel_rfl) hH ?_
    simp only [List.setIfInBounds_toArray, List.set_cons_zero, List.set_cons_succ]
    refine takeH 1 28 (.pointer (some ⟨g, 0, none⟩)) rfl (by kernel_rfl) (by kernel_rfl) (by kernel_rfl) (by kernel_rfl) (fun _ _ _ h => h) (by kernel_rfl) (fun w hw => by (try dsimp only at hw); go_simp) hH ?_
    simp only [List.setIfInBounds_toArray, List.set_cons_zero, List.set_cons_succ]
    refine takeH 2 29 (.pointer (some ⟨g, 2, none⟩)) rfl (by kernel_rfl) (by kernel_rfl) (by kernel_rfl) (by kernel_rfl) (fun _ _ _ h => h) (by kernel_rfl) (fun w hw => by (try dsimp only at hw); go_simp) hH ?_
    simp only [List.setIfInBounds_toArray, List.set_cons_zero, List.set_cons_succ]
    refine takeH 3 30 (.map (some b1)) rfl (by kernel_rfl) (by kernel_rfl) (by kernel_rfl) (by kernel_rfl) (fun _ _ _ h => h) (by kernel_rfl) (fun w hw => by (try dsimp only at hw); go_simp) hH ?_
    simp only [List.setIfInBounds_toArray, List.set_cons_zero, List.set_cons_succ]
    refine takeH 4 31 (.pointer (some ⟨c.cb, 0, none⟩)) rfl (by kernel_rfl) (by kernel_rfl) (by kernel_rfl) (by kernel_rfl) (fun _ _ _ h => h) (by kernel_rfl) (fun w hw => by kernel_rfl) hH ?_
    simp only [List.setIfInBounds_toArray, List.set_cons_zero, List.set_cons_succ]
    refine takeH 5 32 (.pointer (some ⟨c.cb, 0, none⟩)) rfl (by kernel_rfl) (by kernel_rfl) (by kernel_rfl) (by kernel_rfl) (fun _ _ _ h => h) (by kernel_rfl) (fun w hw => by (try dsimp only at hw); go_simp) hH ?_
    simp only [List.setIfInBounds_toArray, List.set_cons_zero, List.set_cons_succ]
    refine takeH 6 33 (.pointer (some ⟨c.cb, 1, none⟩)) rfl (by kernel_rfl) (by kernel_rfl) (by kernel_rfl) (by kernel_rfl) (fun _ _ _ h => h) (by kernel_rfl) (fun w hw => by (try dsimp only at hw); go_simp) hH ?_
    simp only [List.setIfInBounds_toArray, List.set_cons_zero, List.set_cons_succ]
    refine takeH 7 34 (.int .i64 c.buf) rfl (by kernel_rfl) (by kernel_rfl) (by kernel_rfl) (by kernel_rfl) (fun _ _ _ h => h) (by kernel_rfl) (fun w hw => by (try dsimp only at hw); go_simp) hH ?_
    simp only [List.setIfInBounds_toArray, List.set_cons_zero, List.set_cons_succ]
    refine takeH 8 35 ((.pointer none)) rfl (by kernel_rfl) (by kernel_rfl) (by kernel_rfl) (by kernel_rfl) (fun _ _ _ h => h) (by kernel_rfl) (fun w hw => by (try dsimp only at hw); go_simp) hH ?_
    simp only [List.setIfInBounds_toArray, List.set_cons_zero, List.set_cons_succ]
    refine takeH 9 4 ((.pointer none)) rfl (by kernel_rfl) (by kernel_rfl) (by kernel_rfl) (by kernel_rfl) (fun _ _ _ h => h) (by kernel_rfl) (fun w hw => by kernel_rfl) hH ?_
    simp only [List.setIfInBounds_toArray, List.set_cons_zero, List.set_cons_succ]
    refine wpAnyH_done (by kernel_rfl) ?_ _
    go_wp2
    rw [← HBQ.out, ← HWA.out]
    refine wp_region_held_drew (S := fun W' => W'.cell? ⟨g, 2, none⟩ = some (.map (some b1)) ∧ W'.cell? ⟨c.cb, 1, none⟩ = some (.int .i64 c.buf)) (by kernel_rfl) HS6.out (fun hH => ?_)
    change wpAnyH Try.prog Region.Mode.any _ _ _ 10 _ _ _
    refine takeH 0 40 (.pointer (some ⟨g, 0, none⟩)) rfl (by kernel_rfl) (by kernel_rfl) (by kernel_rfl) (by kernel_rfl) (fun _ _ _ h => h) (by kernel_rfl) (fun w hw => by kernel_rfl) hH ?_
    simp only [List.setIfInBounds_toArray, List.set_cons_zero, List.set_cons_succ]
    refine takeH 1 41 (.pointer (some ⟨g, 0, none⟩)) rfl (by kernel_rfl) (by kernel_rfl) (by kernel_rfl) (by kernel_rfl) (fun _ _ _ h => h) (by kernel_rfl) (fun w hw => by (try dsimp only at hw); go_simp) hH ?_
    simp only [List.setIfInBounds_toArray, List.set_cons_zero, List.set_cons_succ]
    refine takeH 2 42 (.pointer (some ⟨g, 2, none⟩)) rfl (by kernel_rfl) (by kernel_rfl) (by kernel_rfl) (by kernel_rfl) (fun _ _ _ h => h) (by kernel_rfl) (fun w hw => by (try dsimp only at hw); go_simp) hH ?_
    simp only [List.setIfInBounds_toArray, List.set_cons_zero, List.set_cons_succ]
    refine takeH 3 43 (.map (some b1)) rfl (by kernel_rfl) (by kernel_rfl) (by kernel_rfl) (by kernel_rfl) (fun _ _ _ h => h) (by kernel_rfl) (fun w hw => by (try dsimp only at hw); go_simp) hH ?_
    simp only [List.setIfInBounds_toArray, List.set_cons_zero, List.set_cons_succ]
    refine takeH 4 44 (.pointer (some ⟨c.cb, 0, none⟩)) rfl (by kernel_rfl) (by kernel_rfl) (by kernel_rfl) (by kernel_rfl) (fun _ _ _ h => h) (by kernel_rfl) (fun w hw => by kernel_rfl) hH ?_
    simp only [List.setIfInBounds_toArray, List.set_cons_zero, List.set_cons_succ]
    refine takeH 5 45 (.pointer (some ⟨c.cb, 0, none⟩)) rfl (by kernel_rfl) (by kernel_rfl) (by kernel_rfl) (by kernel_rfl) (fun _ _ _ h => h) (by kernel_rfl) (fun w hw => by (try dsimp only at hw); go_simp) hH ?_
    simp only [List.setIfInBounds_toArray, List.set_cons_zero, List.set_cons_succ]
    refine takeH 6 46 (.pointer (some ⟨c.cb, 1, none⟩)) rfl (by kernel_rfl) (by kernel_rfl) (by kernel_rfl) (by kernel_rfl) (fun _ _ _ h => h) (by kernel_rfl) (fun w hw => by (try dsimp only at hw); go_simp) hH ?_
    simp only [List.setIfInBounds_toArray, List.set_cons_zero, List.set_cons_succ]
    refine takeH 7 47 (.int .i64 c.buf) rfl (by kernel_rfl) (by kernel_rfl) (by kernel_rfl) (by kernel_rfl) (fun _ _ _ h => h) (by kernel_rfl) (fun w hw => by (try dsimp only at hw); go_simp) hH ?_
    simp only [List.setIfInBounds_toArray, List.set_cons_zero, List.set_cons_succ]
    refine takeH 8 48 (.pointer (some ⟨bq, 0, none⟩)) rfl (by kernel_rfl) (by kernel_rfl) (by kernel_rfl) (by kernel_rfl) (fun _ _ _ h => h) (by kernel_rfl) (fun w hw => by kernel_rfl) hH ?_
    simp only [List.setIfInBounds_toArray, List.set_cons_zero, List.set_cons_succ]
    refine stepH_one 9 (by kernel_rfl) (opH_store 9 W6 rfl (by kernel_rfl) (by kernel_rfl) (exec_mput (m := .tmp 43) (x := .tmp 47) (y := .tmp 48) rfl (by kernel_rfl) (by kernel_rfl) (by kernel_rfl) HPUT6.out) HS6b.out ?_)
    refine wpAnyH_done (by kernel_rfl) ?_ _
    obtain ⟨x2, hx2⟩ : ∃ x2 : Bx, x2 = ⟨[], [], bq, none, none⟩ := ⟨_, rfl⟩
    have HFIN2 : Hid (∃ D3, GrAt (fun k => Grown F w k ∨ chB c k) W6 g D3 ∧ D3.bf c.buf = some x2 ∧ D3.ch i = some c ∧ D3.abs = (D.abs.lay i c.dat).bufd c.buf ∧ (∀ y, (D3.ch y).map (·.cb) = (updC D.ch i (some c) y).map (·.cb)) ∧ Only F w W6 ∧ x2.nx.length < 1000000 ∧ x2.bl.length < 1000000) := Hid.mk (by rw [hx2]; exact HFIN.out)
    have hbx : bq = x2.bb := by rw [hx2]
    obtain ⟨Wd, hWd⟩ : ∃ Wd, Wd = W6 := ⟨_, rfl⟩
    rw [← hWd] at HFIN2 ⊢
    rw [hbx]
    clear HFIN hx2 hWd hH HS3 HS2 HS2b HPUT2 qb HS6 HS6b HPUT6 HBQ HWA hbx
    have HFIN := HFIN2
    clear HFIN2
    obtain ⟨D3, hg3, hx3, hc3, ha3, hp3, ho3, n1, n2⟩ := HFIN.out
    obtain ⟨hcc3, hst3, _⟩ := HB.out Wd ho3
    obtain ⟨n7, hn7⟩ : ∃ n : Nat, n = c.on.length := ⟨_, rfl⟩
    have HSIZE := Hid.mk (size_any Wd c.cb 2 c.om c.on ((blk_cell hcc3 2).trans rfl) hst3)
    rw [← hn7] at HSIZE
    have HS8 : Hid (Wd.drew.cell? ⟨c.cb, 0, none⟩ = some (.int .i64 i)) := Hid.mk ((blk_cell hcc3 0).trans rfl)
    have hcb3 : c.cb < Wd.heap.size := lt_of_block hcc3
    have hne1 : ∀ n k, Own g D3 n k → (n ≠ .ch i ∧ n ≠ .on i ∧ n ≠ .ab i) → ¬ chB c k := by
      rintro n k hk ⟨m1, m2, m3⟩ (e | e | e)
      · exact m1 (hg3.sep n (.ch i) k hk ⟨c, hc3, e⟩)
      · exact m2 (hg3.sep n (.on i) k hk ⟨c, hc3, e⟩)
      · exact m3 (hg3.sep n (.ab i) k hk ⟨c, hc3, e⟩)
    by_cases hon : c.on = []
    · have h70 : n7 = 0 := by rw [hn7, hon]; rfl
      subst h70
      have HADD := Hid.mk (hg3.drew.nxAdd hx3 i hwi n1)
      have HFN : Hid (∀ w8 nm', GrAt (Grown (fun k => Grown F w k ∨ chB c k) Wd.drew) w8 g { D3 with bf := updC D3.bf c.buf (some ⟨insS i x2.nx, x2.bl, x2.bb, nm', x2.km⟩) } → Only (fun k => k = x2.bb ∨ x2.nm = some k) Wd.drew w8 → (∃ D', GrAt (fun k => Grown F w k ∨ chB c k) w8 g D' ∧ D'.abs = D.abs.keep i c.dat ∧ (∀ y, (D'.ch y).map (·.cb) = (updC D.ch i (some c) y).map (·.cb)) ∧ Only F w w8)) := Hid.mk (fun w8 nm' hg8 ho8 => by
        refine ⟨_, hg8.mono (fun k _ hk => hk.elim id (fun h' => .inl (.inr (by have := ho3.size; have h2 : Wd.heap.size ≤ k := h'; omega)))), ?_, hp3, ?_⟩
        · have hk3 : D.abs.keep i c.dat = D3.abs.sort i c.dat := by unfold Ga.keep; rw [ha3]; rfl
          rw [abs_bf, hk3]
          unfold Ga.sort
          rw [show D3.abs.bf c.dat.buf = some x2.dat by show (D3.bf c.buf).map _ = _; rw [hx3]; rfl]
          show _ = if c.on = [] then _ else _
          rw [if_pos hon]
          rfl
        · refine ho3.drew.trans ho8 (fun k hk => ?_)
          rcases hk with rfl | hk
          · exact (hg3.own (.bf c.buf) x2.bb ⟨x2, hx3, rfl⟩).1.resolve_right (hne1 (.bf c.buf) _ ⟨x2, hx3, rfl⟩ ⟨fun e => (by cases e), fun e => (by cases e), fun e => (by cases e)⟩)
          · exact (hg3.own (.nx c.buf) k ⟨x2, hx3, hk⟩).1.resolve_right (hne1 (.nx c.buf) _ ⟨x2, hx3, hk⟩ ⟨fun e => (by cases e), fun e => (by cases e), fun e => (by cases e)⟩))
      have HC8 : Hid (∀ w8, Only (fun k => k = x2.bb ∨ x2.nm = some k) Wd.drew w8 → w8.cell? ⟨c.cb, 0, none⟩ = some (.int .i64 i)) := Hid.mk (fun w8 ho8 => by
        have : w8.heap[c.cb]? = Wd.heap[c.cb]? := ho8.block c.cb hcb3 (by
          rintro (e | e)
          · exact hne1 (.bf c.buf) _ ⟨x2, hx3, rfl⟩ ⟨fun e => (by cases e), fun e => (by cases e), fun e => (by cases e)⟩ (.inl e)
          · exact hne1 (.nx c.buf) _ ⟨x2, hx3, e⟩ ⟨fun e => (by cases e), fun e => (by cases e), fun e => (by cases e)⟩ (.inl rfl))
        exact (blk_cell (this.trans hcc3) 0).trans rfl)
      clear hg3 hx3 hc3 ha3 hp3 ho3 hcc3 hst3 hn7 hne1 hon n1 n2 hcb3
      go_wp2_with (go_at_call 38; refine HSIZE.out.mono ?_; rintro e w7 ⟨rfl, hw7⟩; subst hw7)
      refine wp_region_held_drew (S := fun W' => W'.cell? ⟨c.cb, 0, none⟩ = some (.int .i64 i)) (by kernel_rfl) HS8.out (fun hH => ?_)
      change wpAnyH Try.prog Region.Mode.any _ _ _ 8 _ _ _
      refine takeH 0 54 (.pointer (some ⟨x2.bb, 0, none⟩)) rfl (by kernel_rfl) (by kernel_rfl) (by kernel_rfl) (by kernel_rfl) (fun _ _ _ h => h) (by kernel_rfl) (fun w hw => by kernel_rfl) hH ?_
      simp only [List.setIfInBounds_toArray, List.set_cons_zero, List.set_cons_succ]
      refine takeH 1 55 (.pointer (some ⟨x2.bb, 0, none⟩)) rfl (by kernel_rfl) (by kernel_rfl) (by kernel_rfl) (by kernel_rfl) (fun _ _ _ h => h) (by kernel_rfl) (fun w hw => by (try dsimp only at hw); go_simp) hH ?_
      simp only [List.setIfInBounds_toArray, List.set_cons_zero, List.set_cons_succ]
      refine takeH 2 56 (.pointer (some ⟨x2.bb, 0, none⟩)) rfl (by kernel_rfl) (by kernel_rfl) (by kernel_rfl) (by kernel_rfl) (fun _ _ _ h => h) (by kernel_rfl) (fun w hw => by (try dsimp only at hw); go_simp) hH ?_
      simp only [List.setIfInBounds_toArray, List.set_cons_zero, List.set_cons_succ]
      refine takeH 3 57 (.pointer (some ⟨c.cb, 0, none⟩)) rfl (by kernel_rfl) (by kernel_rfl) (by kernel_rfl) (by kernel_rfl) (fun _ _ _ h => h) (by kernel_rfl) (fun w hw => by kernel_rfl) hH ?_
      simp only [List.setIfInBounds_toArray, List.set_cons_zero, List.set_cons_succ]
      refine takeH 4 58 (.pointer (some ⟨c.cb, 0, none⟩)) rfl (by kernel_rfl) (by kernel_rfl) (by kernel_rfl) (by kernel_rfl) (fun _ _ _ h => h) (by kernel_rfl) (fun w hw => by (try dsimp only at hw); go_simp) hH ?_
      simp only [List.setIfInBounds_toArray, List.set_cons_zero, List.set_cons_succ]
      refine takeH 5 59 (.pointer (some ⟨c.cb, 0, none⟩)) rfl (by kernel_rfl) (by kernel_rfl) (by kernel_rfl) (by kernel_rfl) (fun _ _ _ h => h) (by kernel_rfl) (fun w hw => by (try dsimp only at hw); go_simp) hH ?_
      simp only [List.setIfInBounds_toArray, List.set_cons_zero, List.set_cons_succ]
      refine takeH 6 60 (.int .i64 i) rfl (by kernel_rfl) (by kernel_rfl) (by kernel_rfl) (by kernel_rfl) (fun _ _ _ h => h) (by kernel_rfl) (fun w hw => by (try dsimp only at hw); go_simp) hH ?_
      simp only [List.setIfInBounds_toArray, List.set_cons_zero, List.set_cons_succ]
      refine stepH_call 7 61 rfl (by kernel_rfl) (by kernel_rfl) (by kernel_rfl) 47 #[.tmp 56, .tmp 60] #[64, 3] (by kernel_rfl) (enters_of Try.func47 (by kernel_rfl) rfl) #[.pointer (some ⟨x2.bb, 0, none⟩), .int .i64 i] (by kernel_rfl) HADD.out ?_
      rintro e w8 ⟨r8, rfl, nm', hg8, _, ho8⟩
      have hc8 := HC8.out w8 ho8
      have HG8 := Hid.mk hg8
      have HO8 := Hid.mk ho8
      clear hg8 ho8
      refine ⟨_, rfl, hc8, ?_⟩
      simp only [List.setIfInBounds_toArray, List.set_cons_zero, List.set_cons_succ]
      refine wpAnyH_done (by kernel_rfl) ?_ _
      go_wp2
      go_end0
      exact ⟨rfl, HFN.out w8 nm' HG8.out HO8.out⟩
    · have h70 : n7 ≠ 0 := by rw [hn7]; exact fun e => hon (List.eq_nil_of_length_eq_zero e)
      have h71 : ¬ ((n7 : Nat) : Int) = 0 := by omega
      have h72 : (((n7 : Nat) : Int) == 0) = false := by simpa using h70
      have HADD := Hid.mk (hg3.drew.blAdd hx3 i hwi n2)
      have HFN : Hid (∀ w8 nm', GrAt (Grown (fun k => Grown F w k ∨ chB c k) Wd.drew) w8 g { D3 with bf := updC D3.bf c.buf (some ⟨x2.nx, insS i x2.bl, x2.bb, x2.nm, nm'⟩) } → Only (fun k => k = x2.bb ∨ x2.km = some k) Wd.drew w8 → (∃ D', GrAt (fun k => Grown F w k ∨ chB c k) w8 g D' ∧ D'.abs = D.abs.keep i c.dat ∧ (∀ y, (D'.ch y).map (·.cb) = (updC D.ch i (some c) y).map (·.cb)) ∧ Only F w w8)) := Hid.mk (fun w8 nm' hg8 ho8 => by
        refine ⟨_, hg8.mono (fun k _ hk => hk.elim id (fun h' => .inl (.inr (by have := ho3.size; have h2 : Wd.heap.size ≤ k := h'; omega)))), ?_, hp3, ?_⟩
        · have hk3 : D.abs.keep i c.dat = D3.abs.sort i c.dat := by unfold Ga.keep; rw [ha3]; rfl
          rw [abs_bf, hk3]
          unfold Ga.sort
          rw [show D3.abs.bf c.dat.buf = some x2.dat by show (D3.bf c.buf).map _ = _; rw [hx3]; rfl]
          show _ = if c.on = [] then _ else _
          rw [if_neg hon]
          rfl
        · refine ho3.drew.trans ho8 (fun k hk => ?_)
          rcases hk with rfl | hk
          · exact (hg3.own (.bf c.buf) x2.bb ⟨x2, hx3, rfl⟩).1.resolve_right (hne1 (.bf c.buf) _ ⟨x2, hx3, rfl⟩ ⟨fun e => (by cases e), fun e => (by cases e), fun e => (by cases e)⟩)
          · exact (hg3.own (.bl c.buf) k ⟨x2, hx3, hk⟩).1.resolve_right (hne1 (.bl c.buf) _ ⟨x2, hx3, hk⟩ ⟨fun e => (by cases e), fun e => (by cases e), fun e => (by cases e)⟩))
      have HC8 : Hid (∀ w8, Only (fun k => k = x2.bb ∨ x2.km = some k) Wd.drew w8 → w8.cell? ⟨c.cb, 0, none⟩ = some (.int .i64 i)) := Hid.mk (fun w8 ho8 => by
        have : w8.heap[c.cb]? = Wd.heap[c.cb]? := ho8.block c.cb hcb3 (by
          rintro (e | e)
          · exact hne1 (.bf c.buf) _ ⟨x2, hx3, rfl⟩ ⟨fun e => (by cases e), fun e => (by cases e), fun e => (by cases e)⟩ (.inl e)
          · exact hne1 (.bl c.buf) _ ⟨x2, hx3, e⟩ ⟨fun e => (by cases e), fun e => (by cases e), fun e => (by cases e)⟩ (.inl rfl))
        exact (blk_cell (this.trans hcc3) 0).trans rfl)
      clear hg3 hx3 hc3 ha3 hp3 ho3 hcc3 hst3 hn7 hne1 hon n1 n2 hcb3 h70
      go_wp2_with (go_at_call 38; refine HSIZE.out.mono ?_; rintro e w7 ⟨rfl, hw7⟩; subst hw7)
      refine wp_region_held_drew (S := fun W' => W'.cell? ⟨c.cb, 0, none⟩ = some (.int .i64 i)) (by kernel_rfl) HS8.out (fun hH => ?_)
      change wpAnyH Try.prog Region.Mode.any _ _ _ 8 _ _ _
      refine takeH 0 62 (.pointer (some ⟨x2.bb, 0, none⟩)) rfl (by kernel_rfl) (by kernel_rfl) (by kernel_rfl) (by kernel_rfl) (fun _ _ _ h => h) (by kernel_rfl) (fun w hw => by kernel_rfl) hH ?_
      simp only [List.setIfInBounds_toArray, List.set_cons_zero, List.set_cons_succ]
      refine takeH 1 63 (.pointer (some ⟨x2.bb, 0, none⟩)) rfl (by kernel_rfl) (by kernel_rfl) (by kernel_rfl) (by kernel_rfl) (fun _ _ _ h => h) (by kernel_rfl) (fun w hw => by (try dsimp only at hw); go_simp) hH ?_
      simp only [List.setIfInBounds_toArray, List.set_cons_zero, List.set_cons_succ]
      refine takeH 2 64 (.pointer (some ⟨x2.bb, 1, none⟩)) rfl (by kernel_rfl) (by kernel_rfl) (by kernel_rfl) (by kernel_rfl) (fun _ _ _ h => h) (by kernel_rfl) (fun w hw => by (try dsimp only at hw); go_simp) hH ?_
      simp only [List.setIfInBounds_toArray, List.set_cons_zero, List.set_cons_succ]
      refine takeH 3 65 (.pointer (some ⟨c.cb, 0, none⟩)) rfl (by kernel_rfl) (by kernel_rfl) (by kernel_rfl) (by kernel_rfl) (fun _ _ _ h => h) (by kernel_rfl) (fun w hw => by kernel_rfl) hH ?_
      simp only [List.setIfInBounds_toArray, List.set_cons_zero, List.set_cons_succ]
      refine takeH 4 66 (.pointer (some ⟨c.cb, 0, none⟩)) rfl (by kernel_rfl) (by kernel_rfl) (by kernel_rfl) (by kernel_rfl) (fun _ _ _ h => h) (by kernel_rfl) (fun w hw => by (try dsimp only at hw); go_simp) hH ?_
      simp only [List.setIfInBounds_toArray, List.set_cons_zero, List.set_cons_succ]
      refine takeH 5 67 (.pointer (some ⟨c.cb, 0, none⟩)) rfl (by kernel_rfl) (by kernel_rfl) (by kernel_rfl) (by kernel_rfl) (fun _ _ _ h => h) (by kernel_rfl) (fun w hw => by (try dsimp only at hw); go_simp) hH ?_
      simp only [List.setIfInBounds_toArray, List.set_cons_zero, List.set_cons_succ]
      refine takeH 6 68 (.int .i64 i) rfl (by kernel_rfl) (by kernel_rfl) (by kernel_rfl) (by kernel_rfl) (fun _ _ _ h => h) (by kernel_rfl) (fun w hw => by (try dsimp only at hw); go_simp) hH ?_
      simp only [List.setIfInBounds_toArray, List.set_cons_zero, List.set_cons_succ]
      refine stepH_call 7 69 rfl (by kernel_rfl) (by kernel_rfl) (by kernel_rfl) 47 #[.tmp 64, .tmp 68] #[64, 3] (by kernel_rfl) (enters_of Try.func47 (by kernel_rfl) rfl) #[.pointer (some ⟨x2.bb, 1, none⟩), .int .i64 i] (by kernel_rfl) HADD.out ?_
      rintro e w8 ⟨r8, rfl, nm', hg8, _, ho8⟩
      have hc8 := HC8.out w8 ho8
      have HG8 := Hid.mk hg8
      have HO8 := Hid.mk ho8
      clear hg8 ho8
      refine ⟨_, rfl, hc8, ?_⟩
      simp only [List.setIfInBounds_toArray, List.set_cons_zero, List.set_cons_succ]
      refine wpAnyH_done (by kernel_rfl) ?_ _
      go_wp2
      go_end0
      exact ⟨rfl, HFN.out w8 nm' HG8.out HO8.out⟩
end
end Go.Proofs.Ythmbhcmicebcpaa
