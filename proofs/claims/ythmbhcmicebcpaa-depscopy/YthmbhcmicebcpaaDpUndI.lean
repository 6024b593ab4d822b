/-
  under's iterator.
-/
import Derived.Test.YthmbhcmicebcpaaLayUd
namespace Go.Proofs.Ythmbhcmicebcpaa
open Go Go.Proofs Go.RowKit Go.Shelf Go.Maps
attribute [local go_sem] Oper.semAt_some
section
variable {F : Fence} {n : Nat} {ops : Array Oper} {Q : Exit → Act → World → Prop} {a : Act} {o : Oper} {rest : List Oper} {w : World}
theorem wpLIn_append (hgd : o.guard = none) (s x : Operand) (t : TypeId) (ho : o.op = .call { callee := .builtin .append, args := #[s, x], argTypes := #[t, t] }) (v vx v' : Value) (w' : World) (hs : a.eval s = v) (hx : a.eval x = vx)
    (hrun : (Builtin.append_ #[t, t] o.type #[v, vx]).run Try.prog w = .ok v' w') (h : wpListIn F n Try.prog ops Q rest (a.put o.dst v') w') : wpListIn F n Try.prog ops Q (o :: rest) a w := by
  refine wpListIn_plain hgd fun K hK => ?_
  unfold Oper.wpIn
  refine ⟨?_, ?_⟩
  · simp [Oper.about, ho, resolve, Target.leads, Sem.run_pure]
  · rw [Oper.semAt_plain F _ _ (by rw [ho]; intro c hc; cases hc)]
    simp [execOp, ho, resolve, invoke, builtin, hs, hx, hrun, Result.andThen]
    exact hK _ _ h
end
theorem UnS.drop {J : List Int → (Nat → Prop) → World → Prop} {R : Nat → Prop} {bs : Nat} {S L ys : List Int} {tv : Value} {W : World} (h : UnS J R bs S L ys tv W) : UnS J (fun _ => False) bs S L ys tv W := by
  obtain ⟨It, om, h1, h2, h3, h4, h5, h6, h7, h8⟩ := h
  exact ⟨It, om, h1, h2, h3, h4, h5, h6, h7, fun _ q => q.elim⟩
theorem UnS.rl {J : List Int → (Nat → Prop) → World → Prop} {R : Nat → Prop} {bs : Nat} {S L ys : List Int} {tv : Value} {W : World} (h : UnS J R bs S L ys tv W) : ∀ k, R k → k < W.heap.size := by
  obtain ⟨It, om, h1, h2, h3, h4, h5, h6, h7, h8⟩ := h
  exact fun k q => (h8 k q).2.2.2.2
theorem un_mono {G : Gp} {xs S L ys : List Int} {i : Int} {P P' : Int → Prop} (h : UnP G xs S L ys i P) (hP : ∀ z, hng G i z → P' z → P z) : UnP G xs S L ys i P' :=
  ⟨h.nd, h.ld, h.ls, h.yu, h.all, h.xs', fun y hy z hz hp => h.cl y hy z hz (fun e => hP z (e ▸ hz) (hp e)), h.re, h.ii, h.ln⟩
theorem un_last {L : List Int} (h : 0 < L.length) : ∃ L' x, L = L' ++ [x] := ⟨L.dropLast, L.getLast (List.ne_nil_of_length_pos h), (List.dropLast_concat_getLast _).symm⟩
theorem UnS.yield {J : List Int → (Nat → Prop) → World → Prop} {R : Nat → Prop} {bs : Nat} {S L ys : List Int} {tv : Value} {W : World} (h : UnS J R bs S L ys tv W) : ∃ It, J ys It W ∧ ∀ W' ys', J ys' (fun k => It k ∧ k < W.heap.size) W' → (∀ k, It k → k < W.heap.size → W'.heap[k]? = W.heap[k]?) → W.heap.size ≤ W'.heap.size → UnS J R bs S L ys' tv W' := by
  obtain ⟨It, om, h1, h2, h3, h4, h5, h6, h7, h8⟩ := h
  have hlm : ∀ q, om = some q → q < W.heap.size := fun q e => by subst e; exact h4.lt
  refine ⟨It, h1, fun W' ys' hJ hk hs => ⟨_, om, hJ, ⟨⟨h2.1, h2.2⟩, by omega⟩, (hk bs h2.1 h2.2).trans h3, h4.kept (fun q e => hk q (h5 q e).1 (hlm q e)), fun q e => ⟨⟨(h5 q e).1, hlm q e⟩, (h5 q e).2⟩, own_same h6 (fun q e => hk q (h7 q e).1 (owns_lt h6 e)), fun q e => ⟨⟨(h7 q e).1, owns_lt h6 e⟩, (h7 q e).2⟩, fun k q => ?_⟩⟩
  obtain ⟨a1, a2, a3, a4, a5⟩ := h8 k q
  exact ⟨⟨a1, a5⟩, a2, a3, a4, by omega⟩
set_option maxRecDepth 100000 in
set_option maxHeartbeats 8000000 in
theorem under1_in (n : Nat) (hn : 1 ≤ n) (l B g : Nat) (ao : Option Addr) (m cc : Nat) (xs : List Int) (hm : m ≤ 100000) (hw : ∀ x ∈ xs, (Lit.int .i64 x).wf = true) {F : Nat → Prop} {D : Gd} {G : Gp} (hR : Rel G D.abs) (hGn : G.n ≤ 100000)
    (J : List Int → (Nat → Prop) → World → Prop) (W : World)
    (hc : ∀ ys It A, J ys It A → A.cell? ⟨B, 0, none⟩ = some (ptV g) ∧ A.cell? ⟨B + 1, 0, none⟩ = some (.slice ao m cc) ∧ LAt A ao m xs ∧ GrAt F A g D ∧ ∀ k, F k → ¬ It k)
    (hst : ∀ ys It It' A B, J ys It A → Only It A B → (∀ k, It' k → It k ∨ A.heap.size ≤ k) → J ys It' B)
    (hY : ∀ ys i c It A, J ys It A → D.ch i = some c → i ∉ ys → YieldAt Fence.wide (n - 1) Try.prog l #[ptV c.cb] A fun e W' => e = .returned (.bool true) ∧ (∀ k, It k → k < A.heap.size → W'.heap[k]? = A.heap[k]?) ∧ A.heap.size ≤ W'.heap.size ∧ J (ys ++ [i]) (fun k => It k ∧ k < A.heap.size) W')
    (h0 : J [] (fun _ => False) W) :
    CallsIn Fence.wide n Try.prog 53 #[.func (.yield l) #[] #[], ptV (B + 1), ptV B] W fun e W' => (∃ v, e = .returned v) ∧ ∃ ys It, UnEnd G xs ys ∧ J ys It W' := by
  have HC := Hid.mk hc
  have HST := Hid.mk hst
  have HY := Hid.mk hY
  have HM : Hid (m ≤ 100000 ∧ G.n ≤ 100000 ∧ xs.length = m) := Hid.mk ⟨hm, hGn, (hc _ _ _ h0).2.2.1.1⟩
  have HR := Hid.mk hR
  have hxl := (hc _ _ _ h0).2.2.1.1
  have HSO := Hid.mk (setof_any W ao m cc xs (hc _ _ _ h0).2.2.1 hw (by omega))
  have c1 := (hc _ _ _ h0).2.1
  have HRI : Hid (∀ W1 om, (StAt W1 om (setL xs) ∧ (∀ q, om = some q → W.heap.size ≤ q ∧ q < W1.heap.size) ∧ Below W.heap.size W W1) → Calls Try.prog 33 #[.pointer (some ⟨W1.heap.size, 0, none⟩)] (W1.alloc (.cells #[.map om] 64)) fun e W' => ∃ v, e = .returned v ∧ Hid (UnS J (fun _ => False) W1.heap.size (setL xs) (setL xs) [] v W')) := Hid.mk (fun W1 om h => by
    obtain ⟨q1, q2, q3⟩ := h
    have hlm : ∀ q, om = some q → q < W1.heap.size := fun q e => (q2 q e).2
    have hB1 : Below W1.heap.size W1 (W1.alloc (.cells #[.map om] 64)) := (Below.refl _ W1).alloc (Nat.le_refl _) _
    have hbx := blk_new W1 (.cells #[.map om] 64)
    refine (rising_any (W1.alloc (.cells #[.map om] 64)) W1.heap.size 0 om (setL xs) (by rw [blk_cell hbx]; rfl) (q1.kept (fun q e => hB1.block q (hlm q e))) (by have := setL_len xs; omega)).mono ?_
    rintro e W' ⟨v, rfl, a1, _, a3⟩
    have hs1 : (W1.alloc (.cells #[.map om] 64)).heap.size = W1.heap.size + 1 := by simp
    have hs3 := a3.size
    have hs0 := q3.size
    have hv : ∀ q, v.ownBlock = some q → W1.heap.size + 1 ≤ q := fun q e => by
      rcases a1.2 with ⟨rfl, _⟩ | ⟨g', cap, cur, rfl, hg', _⟩
      · cases e
      · have e' : g' = q := Option.some.inj e
        omega
    have hBW : Below W.heap.size W W' := q3.trans ((hB1.trans (a3.mono (by omega))).mono hs0)
    refine ⟨v, rfl, Hid.mk ⟨fun k => k = W1.heap.size ∨ om = some k ∨ v.ownBlock = some k, om, hst [] _ _ _ _ h0 (Only.of_new _ hBW) (fun k q => .inr ?_), ⟨.inl rfl, by omega⟩, (a3.block _ (by omega)).trans hbx, q1.kept (fun q e => by rw [a3.block q (by have := hlm q e; omega), hB1.block q (hlm q e)]), fun q e => ⟨.inr (.inl e), by have := hlm q e; omega⟩, owns_base a1 (Nat.zero_le _), fun q e => ⟨.inr (.inr e), by have := hv q e; omega, fun e2 => by have := hlm q e2; have := hv q e; omega⟩, fun k q => q.elim⟩⟩
    rcases q with q | q | q
    · omega
    · exact (q2 k q).1
    · have := hv k q; omega)
  have HUS := Hid.mk (un_start G xs (setL_pw xs))
  clear hc hst hY h0 hw hm hGn hR hxl
  refine callsIn_of_wp Try.func53 rfl trivial ?_ rfl
  simp only [Try.ntmps53, List.size_toArray, List.length_cons, List.length_nil, Nat.reduceAdd, Nat.reduceSub, Array.replicate_succ, Array.replicate_zero, List.push_toArray, List.append_toArray, List.nil_append, List.cons_append]
  gi_wp2_with (first
    | (refine ⟨trivial, ?_⟩; gi_at_call 54; refine (callsIn_wide.2 HSO.out).mono ?_; rintro e w1 ⟨om, rfl, H1⟩; clear HSO)
    | (gi_at_call 54; refine (callsIn_wide.2 HSO.out).mono ?_; rintro e w1 ⟨om, rfl, H1⟩; clear HSO)
    | (refine ⟨trivial, ?_⟩; gi_at_call 33; refine (callsIn_wide.2 (HRI.out _ _ H1.out)).mono ?_; rintro e w2 ⟨v, rfl, H2⟩; clear HRI)
    | (gi_at_call 33; refine (callsIn_wide.2 (HRI.out _ _ H1.out)).mono ?_; rintro e w2 ⟨v, rfl, H2⟩; clear HRI)
    | gi_in)
  obtain ⟨bs, hbs⟩ : ∃ bs, bs = w1.heap.size := ⟨_, rfl⟩
  rw [← hbs] at H2 ⊢
  clear hbs c1
  gi_loopw [5, 6, 7] (fun tv _ _ wr => ∃ S L ys, Hid (UnS J (fun _ => False) bs S L ys tv wr ∧ UnI G xs S L ys)) (fun tv _ _ wr => 2 * (200001 - setSz wr bs) + lenV tv)
  case atStart => exact ⟨_, _, _, Hid.mk ⟨H2.out, HUS.out⟩⟩
  case round =>
    obtain ⟨S, L, ys, HI⟩ := hrel
    clear H2 HUS H1
    rcases Nat.eq_zero_or_pos L.length with h0 | h0
    · obtain ⟨tao, tc, rfl⟩ := HI.out.1.len
      have HE : Hid (∃ ys It, UnEnd G xs ys ∧ J ys It wr) := Hid.mk (by
        obtain ⟨It, q, _⟩ := HI.out.1.jj
        have hl : L = [] := List.eq_nil_of_length_eq_zero h0
        have := HI.out.2
        rw [hl] at this
        exact ⟨ys, It, un_end this, q⟩)
      rw [h0]
      clear HI HC HST HY
      gi_wp2
      go_end0
      exact ⟨⟨_, rfl⟩, HE.out⟩
    · obtain ⟨L', x, rfl⟩ := un_last h0
      obtain ⟨gt, cap, rfl, hcap, cx, hun⟩ := HI.out.1.cut
      have HUN := Hid.mk hun
      have HUI := Hid.mk HI.out.2
      have HSZ : Hid (S.length ≤ 200000 ∧ L'.length + 1 ≤ S.length ∧ setSz wr bs = S.length) := Hid.mk ⟨by
        have := reach_len HI.out.1.pw.1 HI.out.2.re
        have := HM.out
        omega, by have := HI.out.2.ln; simp at this; exact this, setSz_eq HI.out.1⟩
      have hwx : (Lit.int .i64 x).wf = true := HI.out.1.pw.2 x (HI.out.2.ls x (by simp)).1
      obtain ⟨It, hJ, _⟩ := HUN.out.jj
      obtain ⟨c0, _, _, hgr, _⟩ := HC.out _ _ _ hJ
      obtain ⟨_, c2, _, _⟩ := hgr.cellsG
      have HLK : Hid (∀ q, (Instr.lookup 57 (.map D.lm) (.int .i64 x) false).run Try.prog (wr.drewN q) = .ok (optV ((D.ch x).map (·.cb))) (wr.drewN q)) := Hid.mk (fun q => by
        obtain ⟨It', hJ', _⟩ := (HUN.out.drew HST.out q).jj
        exact (HC.out _ _ _ hJ').2.2.2.1.lookC hwx)
      obtain ⟨k, hk⟩ : ∃ k, k = L'.length := ⟨_, rfl⟩
      rw [← hk] at cx hcap ⊢
      have HKE := Hid.mk hk
      have HHC := Hid.mk hcap
      obtain ⟨k1, hk1⟩ : ∃ k1, k1 = k + 1 := ⟨_, rfl⟩
      rw [← hk1]
      have HK1 := Hid.mk hk1
      have u1 : IntKind.i64.wrap (((k1 : Nat) : Int) - 1) = ((k : Nat) : Int) := by have := HSZ.out; rw [IntKind.wrap_i64]; omega
      have u2 : (0 : Int) < ((k1 : Nat) : Int) := by omega
      have u3 : (0 : Int) ≤ ((k : Nat) : Int) := by omega
      have u4 : ((k : Nat) : Int) < ((k1 : Nat) : Int) := by omega
      have u5 : ((k : Nat) : Int) ≤ ((cap : Nat) : Int) := by omega
      have u6 : wrap64 (((k1 : Nat) : Int) - 1) = ((k : Nat) : Int) := by have := HSZ.out; unfold wrap64; omega
      have e8 : (⟨gt, 0, none⟩ : Addr).add (k * 1) = ⟨gt, k, none⟩ := by rw [add_at]; simp
      have e8' : (⟨gt, 0, none⟩ : Addr).add k = ⟨gt, k, none⟩ := by rw [add_at]; simp
      generalize hlm : D.lm = lm at c2 HLK
      generalize hcb : (D.ch x).map (·.cb) = ob at HLK
      have HCB := Hid.mk hcb
      clear hk hlm hcb hJ hgr HI hun hcap hk1
      gi_wp2
      refine wpIn_region_quiet_lit rfl (by kernel_rfl) (by kernel_rfl) ?_
      repeat (gi_big_quiet_step (fail))
      refine BigFrame.wpQuietIn_want (BigFrame.askedIn_plain (fun _ h => nomatch h)) (by kernel_rfl) (fun K hK => ⟨optV ob, fun w1 hw1 => ?_, hK _ ?_⟩)
      · obtain ⟨q, rfl⟩ := hw1
        unfold Oper.quietAtIn
        rw [show (execOp _ _).run Try.prog (wr.drewN q) = .ok (.value (optV ob)) (wr.drewN q) from by
          simp [execOp, go_sem, HLK.out q]]
        exact ⟨rfl, rfl⟩
      simp only [Act.put, List.setIfInBounds_toArray, List.set_cons_zero, List.set_cons_succ]
      repeat (gi_big_quiet_step (fail))
      refine wpQuietIn_nil ?_
      intro _ hw'
      obtain ⟨nq, hw''⟩ := hw'
      subst hw''
      have HUD := Hid.mk (HUN.out.drew HST.out nq)
      clear c0 c2 cx e8 e8' u1 u6
      have u1 : IntKind.i64.wrap (((k1 : Nat) : Int) - 1) = ((k : Nat) : Int) := by have := HSZ.out; have := HK1.out; have := HKE.out; rw [IntKind.wrap_i64]; omega
      cases ob with
      | none =>
        have HNU : Hid (¬ und G x) := Hid.mk (fun q => by
          have h1 := (HR.out.h.ch x).2 q
          have h2 : (D.abs.ch x) = (D.ch x).map Cx.dat := rfl
          rw [h2, Option.isSome_map] at h1
          have h3 := HCB.out
          cases hd : D.ch x with
          | none => rw [hd] at h1; cases h1
          | some c => rw [hd] at h3; cases h3)
        simp only [optV]
        clear HLK HCB HY
        gi_wp2
        refine ⟨⟨S, L', ys, Hid.mk ⟨?_, un_skip HUI.out HNU.out⟩⟩, ?_⟩
        · have := HUD.out
          rw [← HKE.out] at this
          exact this
        · have h1 := setSz_eq HUD.out
          have h2 := HSZ.out.2.2
          have h3 := HK1.out
          simp only [lenV]
          omega
      | some cb =>
        obtain ⟨c, hch, hcc⟩ : ∃ c, D.ch x = some c ∧ c.cb = cb := by
          have h3 := HCB.out
          cases hd : D.ch x with
          | none => rw [hd] at h3; cases h3
          | some c => rw [hd] at h3; exact ⟨c, rfl, Option.some.inj h3⟩
        have HUX : Hid (und G x ∧ ∀ z, z ∈ c.on ↔ hng G x z) := Hid.mk (by
          have h2 : D.abs.ch x = some c.dat := by show (D.ch x).map Cx.dat = _; rw [hch]; rfl
          exact ⟨HR.out.h.of h2, (HR.out.h.on x c.dat h2).2⟩)
        have HUP := Hid.mk (un_take HUI.out HUX.out.1)
        obtain ⟨It, hJ, hnext⟩ := HUD.out.yield
        have h9 := HY.out ys x c It _ hJ hch (HUI.out.ls x (by simp)).2
        rw [hcc] at h9
        obtain ⟨fn, tmps, assign, body, hy, hRR⟩ := h9
        have HRR : Hid (RoundIn Fence.wide (n - 1) Try.prog l fn tmps assign body (wr.drewN nq) fun e W' => e = .returned (.bool true) ∧ Hid (UnS J (fun _ => False) bs S L' (ys ++ [x]) (.slice (some ⟨gt, 0, none⟩) k cap) W')) :=
          hRR.mono (fun e W' h => ⟨h.1, by
            have := hnext W' (ys ++ [x]) h.2.2.2 h.2.1 h.2.2.1
            rw [← HKE.out] at this
            exact this⟩)
        have HG4 : Hid (∀ {R : Nat → Prop} {S L : List Int} {tv : Value} W4, UnS J R bs S L (ys ++ [x]) tv W4 → W4.cell? ⟨cb, 2, none⟩ = some (.map c.om) ∧ StAt W4 c.om c.on) := Hid.mk (fun W4 h => by
          obtain ⟨It, q, _⟩ := h.jj
          have hg := (HC.out _ _ _ q).2.2.2.1
          obtain ⟨_, _, d2, _⟩ := hg.cellsC hch
          rw [hcc] at d2
          exact ⟨d2, hg.cont (.on x) c hch⟩)
        have HFB : Hid (∀ b, c.om = some b → F b) := Hid.mk (fun b e => (HC.out _ _ _ hJ).2.2.2.1.own (.on x) b ⟨c, hch, e⟩ |>.1)
        generalize hom : c.om = com at HG4 HFB
        generalize hon : c.on = con at HG4 HUX
        simp only [optV]
        clear HLK HCB HY hRR hJ hnext hch hcc hom hon HUN HUI HUD
        generalize ys ++ [x] = ys' at HRR HUP HG4
        cases com with
        | none =>
          have hrn := fun W4 : World => run_range_nilMap (P := Try.prog) W4 62 _ _ Try.underlying62
          have hnx : ∀ (W4 : World) ty, (Instr.next (.pointer (some ⟨W4.heap.size, 0, none⟩)) false ty).run Try.prog (W4.alloc (.mapIter none 0 #[] 0)) = _ := fun W4 ty => run_next_nilMap W4 ty 0 0 #[]
          have HNO : Hid (∀ W4, StAt W4 none con → ∀ z, ¬ hng G x z) := Hid.mk (fun W4 h z hz => by
            have hm := (HUX.out.2 z).2 hz
            have e : con = [] := h.2
            rw [e] at hm
            cases hm)
          gi_wp2_with (first
            | (refine HRR.out.mono ?_; rintro e W4 ⟨rfl, H4⟩; obtain ⟨d1, d2⟩ := HG4.out W4 H4.out; have hr4 := hrn W4; have hn4 := hnx W4; clear HRR hrn hnx)
            | (refine ⟨trivial, ?_⟩; refine HRR.out.mono ?_; rintro e W4 ⟨rfl, H4⟩; obtain ⟨d1, d2⟩ := HG4.out W4 H4.out; have hr4 := hrn W4; have hn4 := hnx W4; clear HRR hrn hnx)
            | gi_in)
          have HS5 : Hid (UnS J (fun _ => False) bs S L' ys' (.slice (some ⟨gt, 0, none⟩) k cap) (W4.alloc (.mapIter none 0 #[] 0)) ∧ UnI G xs S L' ys') := Hid.mk ⟨H4.out.more HST.out _ ⟨rfl, rfl, rfl, by simp, fun k hk _ => Below.heap_alloc _ _ _ hk⟩ (by simp) (fun k q => q.elim), un_done HUP.out (fun z hz => absurd hz (HNO.out W4 d2 z))⟩
          clear H4 HUP d1 d2
          gi_loopw [5, 7] (fun tv _ wr => tv = .slice (some ⟨gt, 0, none⟩) k cap ∧ wr = W4.alloc (.mapIter none 0 #[] 0)) (fun _ _ _ => 0)
          case atStart => exact ⟨rfl, rfl⟩
          case round =>
            obtain ⟨rfl, ew⟩ := hrel
            subst ew
            gi_wp2
            refine ⟨⟨S, L', ys', HS5⟩, ?_⟩
            have h1 := setSz_eq HS5.out.1
            have h2 := HSZ.out.2.2
            have h3 := HK1.out
            simp only [lenV]
            omega
        | some b =>
          gi_wp2_with (first
            | (refine HRR.out.mono ?_; rintro e W4 ⟨rfl, H4⟩; obtain ⟨d1, d2⟩ := HG4.out W4 H4.out; obtain ⟨Dm, hown, hsz, hD⟩ := d2.2; clear HRR)
            | (refine ⟨trivial, ?_⟩; refine HRR.out.mono ?_; rintro e W4 ⟨rfl, H4⟩; obtain ⟨d1, d2⟩ := HG4.out W4 H4.out; obtain ⟨Dm, hown, hsz, hD⟩ := d2.2; clear HRR)
            | (gi_at_range; refine wpListIn_range_own _ rfl _ 62 rfl 3 84 keyed3 Try.underlying62 rawE b _ Dm rfl hown ?_; intro w5 hrg hg5 hs5)
            | gi_in)
          simp only [Act.put, List.setIfInBounds_toArray, List.set_cons_zero, List.set_cons_succ]
          have HENT : Hid (∀ (y : Int) (cv : Value) (kl : Lit) (z : DataW Value × List MemPlace), keyOf Try.prog 3 (.int .i64 y) = some kl → rawE cv = some z → (∀ zd, Dm.atKey kl zd = z.1) → kl = .int .i64 y ∧ (Lit.int .i64 y).wf = true ∧ hng G x y) := Hid.mk (fun y cv kl z hk hr hat => by
            obtain ⟨y', ey, rfl, hwy⟩ := Maps.keyOf_int_inv Try.underlying3 hk
            cases ey
            refine ⟨rfl, hwy, (HUX.out.2 y).1 ?_⟩
            obtain ⟨h1, h2⟩ := hD _ _ hk
            rw [setF_int] at h1
            by_cases hm : y ∈ con
            · exact hm
            · rw [if_neg hm] at h1
              have a1 := hat (.held (.bool true))
              have a2 := hat (.held (.bool false))
              rw [Maps.atKey_of_not_has h1] at a1 a2
              rw [← a2] at a1
              cases a1)
          have HHAS : Hid (∀ z, hng G x z → ¬ Maps.has Dm (.int .i64 z) = false) := Hid.mk (fun z hz q => by
            have hm := (HUX.out.2 z).2 hz
            have h1 := (hD _ _ (key_int (d2.1.2 z hm))).1
            rw [setF_int, if_pos hm] at h1
            rw [q] at h1
            cases h1)
          obtain ⟨r, hr⟩ : ∃ r, r = W4.heap.size := ⟨_, rfl⟩
          have HS5 : Hid (UnS J (fun k => k = r) bs S L' ys' (.slice (some ⟨gt, 0, none⟩) k cap) w5 ∧ UnP G xs S L' ys' x (fun z => Maps.has Dm (.int .i64 z) = false)) := Hid.mk ⟨H4.out.more HST.out w5 hg5 hs5 (fun k q => by rw [q, hr]), un_mono HUP.out (fun z hz q => HHAS.out z hz q)⟩
          rw [← hr] at hrg ⊢
          have HBL : Hid (b < r) := Hid.mk (by rw [hr]; exact hown.lt)
          generalize hnn : con.length = nn at hrg
          obtain ⟨M0, hM0⟩ : ∃ M0, M0 = 2 * (200001 - setSz wr bs) + k1 := ⟨_, rfl⟩
          have HKM : Hid (2 * (200001 - S.length) + L'.length < M0) := Hid.mk (by have := HSZ.out; have := HK1.out; have := HKE.out; omega)
          have HM0 := Hid.mk hM0
          clear hM0
          have HKS := Hid.mk (And.intro HKE.out HSZ.out)
          clear H4 HUP hown hsz hD d1 d2 hg5 hs5 hnn hr HSZ HKE
          gi_loopw [5, 7] (fun tv _ wr => ∃ (S L : List Int) (left : Lit → Bool) (cnt : Nat), wr.ranges Try.prog 3 rawE b r nn Dm left cnt ∧ Hid (UnS J (fun k => k = r) bs S L ys' tv wr ∧ UnP G xs S L ys' x (fun z => left (.int .i64 z) = false) ∧ 2 * (200001 - S.length) + L.length < M0)) (fun _ _ wr => wr.rangeLeft b r)
          case atStart => exact ⟨S, L', _, _, hrg, Hid.mk ⟨HS5.out.1, HS5.out.2, HKM.out⟩⟩
          case round =>
            obtain ⟨S2, L2, left, cnt, hrg2, HI2⟩ := hrel
            clear hrg HS5 HKM
            have HRG := Hid.mk hrg2
            gi_wp2_with (first
              | (gi_at_next; refine wpListIn_next_ranges _ rfl _ rfl 3 keyed3 rawE (Value.int .i64) (fun v : Value => v) (fun key kl hk => by obtain ⟨y, rfl, _⟩ := Maps.keyOf_int_inv Try.underlying3 hk; exact ⟨y, rfl⟩) (fun v y _ => ⟨v, rfl⟩) b r nn _ _ _ rfl hrg2 ?_ ?_)
              | gi_in)
            · intro hc0 hl0
              have HEN : Hid (UnS J (fun _ => False) bs S2 L2 ys' u5 wr ∧ UnI G xs S2 L2 ys' ∧ 2 * (200001 - setSz wr bs) + lenV u5 < M0) := Hid.mk (by
                obtain ⟨ta, tc, rfl⟩ := HI2.out.1.len
                refine ⟨HI2.out.1.drop, un_done HI2.out.2.1 (fun z _ => hl0 _), ?_⟩
                rw [setSz_eq HI2.out.1]
                exact HI2.out.2.2)
              clear HI2 hrg2 HRG
              gi_wp2
              refine ⟨⟨S2, L2, ys', Hid.mk ⟨HEN.out.1, HEN.out.2.1⟩⟩, ?_⟩
              have := HEN.out.2.2
              have := HM0.out
              simp only [lenV] at *
              omega
            · intro y cv kl yd yp w6 cnt1 hky hly hry hat hrg3 hlt hg6 hs6 hen
              obtain ⟨rfl, hwy, hng⟩ := HENT.out y cv kl (yd, yp) hky hry hat
              have hU6 : UnS J (fun k => k = r) bs S2 L2 ys' u5 w6 := HI2.out.1.turn HST.out w6 ((Only.refl (fun k => k = r) wr).grown hg6 (fun k hk => by cases hk; exact .inl rfl)) (fun _ q => q)
              have hrl := hU6.rl r rfl
              have HBF : Hid (∀ W It, J ys' It W → ¬ It b) := Hid.mk (fun W It q => (HC.out _ _ _ q).2.2.2.2 b (HFB.out b rfl))
              have hsl : S2.length ≤ 200000 := by
                have := reach_len HI2.out.1.pw.1 HI2.out.2.1.re
                have := HM.out
                omega
              have hsame : ∀ z : Int, (left (.int .i64 z) && !(Lit.int .i64 z).sameKey (.int .i64 y)) = false → (left (.int .i64 z) = false ∨ z = y) := fun z => by
                by_cases e : z = y
                · exact fun _ => .inr e
                · have : (Lit.int .i64 z).sameKey (.int .i64 y) = false := Maps.sameKey_ne (fun h => e (by cases h; rfl))
                  simp [this, e]
              have hadd := hU6.add HST.out (by omega) y hwy
              have HLT : Hid (∀ (W : World) (left : Lit → Bool) (cnt' : Nat), W.ranges Try.prog 3 rawE b r nn Dm left cnt' → cnt' = cnt1 → W.rangeLeft b r < wr.rangeLeft b r) := Hid.mk (fun W left cnt' q e => by rw [q.left_eq, HRG.out.left_eq, e]; exact hlt)
              by_cases hm : y ∈ S2
              · have HADD : Hid (Calls Try.prog 47 #[.pointer (some ⟨bs, 0, none⟩), .int .i64 y] w6 fun e W' => e = .returned (.bool false) ∧ Hid (W'.ranges Try.prog 3 rawE b r nn Dm (fun z => left z && !z.sameKey (.int .i64 y)) cnt1 ∧ UnS J (fun k => k = r) bs S2 L2 ys' u5 W')) := Hid.mk (by
                  refine hadd.mono ?_
                  rintro e W' ⟨rfl, HQ⟩
                  obtain ⟨q1, q2, It, q3, q4⟩ := HQ.out
                  rw [ins_same hU6.pw.1 hm] at q1
                  exact ⟨by simp [hm], Hid.mk ⟨ranges_at hrg3 (q4 b (HBF.out _ _ q3) (by have := HBL.out; omega)) (q2 r rfl), q1⟩⟩)
                have HUQ := Hid.mk (un_seen HI2.out.2.1 hm hsame)
                have HMM := Hid.mk HI2.out.2.2
                clear hadd hU6 hrg3 hg6 hs6 hky hly hry hat hlt hrg2 HI2 hsame hm
                gi_wp2_with (first
                  | (refine ⟨trivial, ?_⟩; gi_at_call 47; refine (callsIn_wide.2 HADD.out).mono ?_; rintro e w7 ⟨rfl, H7⟩; clear HADD)
                  | (gi_at_call 47; refine (callsIn_wide.2 HADD.out).mono ?_; rintro e w7 ⟨rfl, H7⟩; clear HADD)
                  | gi_in)
                refine ⟨⟨S2, L2, _, cnt1, H7.out.1, Hid.mk ⟨H7.out.2, HUQ.out, HMM.out⟩⟩, HLT.out _ _ _ H7.out.1 rfl⟩
              · have HADD : Hid (Calls Try.prog 47 #[.pointer (some ⟨bs, 0, none⟩), .int .i64 y] w6 fun e W' => e = .returned (.bool true) ∧ Hid (∃ tv' W8, (Builtin.append_ #[23, 23] 23 #[u5, .slice (some ⟨W'.heap.size, 0, none⟩) 1 1]).run Try.prog (W'.alloc (.cells #[.int .i64 y] 3)) = .ok tv' W8 ∧ W8.ranges Try.prog 3 rawE b r nn Dm (fun z => left z && !z.sameKey (.int .i64 y)) cnt1 ∧ UnS J (fun k => k = r) bs (insS y S2) (L2 ++ [y]) ys' tv' W8)) := Hid.mk (by
                  refine hadd.mono ?_
                  rintro e W' ⟨rfl, HQ⟩
                  obtain ⟨q1, q2, It, q3, q4⟩ := HQ.out
                  have hr7 := ranges_at hrg3 (q4 b (HBF.out _ _ q3) (by have := HBL.out; omega)) (q2 r rfl)
                  obtain ⟨tv', W8, p1, HP⟩ := q1.app HST.out (by have := HI2.out.2.1.ln; omega) y
                  obtain ⟨p2, p3, It8, p4, p5⟩ := HP.out
                  exact ⟨by simp [hm], Hid.mk ⟨tv', W8, p1, ranges_at hr7 (p5 b (HBF.out _ _ p4) (by have := HBL.out; have := q1.rl r rfl; omega)) (p3 r rfl), p2⟩⟩)
                have HUQ := Hid.mk (un_add HI2.out.2.1 hng hm hsame)
                have HMM : Hid (2 * (200001 - (insS y S2).length) + (L2 ++ [y]).length < M0) := Hid.mk (by
                  have := HI2.out.2.2
                  rw [ins_length hm, List.length_append]
                  simp
                  omega)
                clear hadd hU6 hrg3 hg6 hs6 hky hly hry hat hlt hrg2 HI2 hsame hm
                gi_wp2_with (first
                  | (refine ⟨trivial, ?_⟩; gi_at_call 47; refine (callsIn_wide.2 HADD.out).mono ?_; rintro e w7 ⟨rfl, H7⟩; obtain ⟨tv', W8, p1, p2, p3⟩ := H7.out; have HP1 := Hid.mk p1; have HP2 := Hid.mk (And.intro p2 p3); clear HADD H7 p1 p2 p3)
                  | (gi_at_call 47; refine (callsIn_wide.2 HADD.out).mono ?_; rintro e w7 ⟨rfl, H7⟩; obtain ⟨tv', W8, p1, p2, p3⟩ := H7.out; have HP1 := Hid.mk p1; have HP2 := Hid.mk (And.intro p2 p3); clear HADD H7 p1 p2 p3)
                  | (gi_at_builtin; refine wpLIn_append rfl (.tmp 48) (.tmp 50) 23 rfl _ _ _ _ rfl rfl HP1.out ?_; simp only [Act.put, List.setIfInBounds_toArray, List.set_cons_zero, List.set_cons_succ])
                  | gi_in)
                refine ⟨⟨_, _, _, cnt1, HP2.out.1, Hid.mk ⟨HP2.out.2, HUQ.out, HMM.out⟩⟩, HLT.out _ _ _ HP2.out.1 rfl⟩
end Go.Proofs.Ythmbhcmicebcpaa
