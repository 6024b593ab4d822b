/-
  The changes that have bytes, by where they begin: rising.
-/
import Derived.Test.YtjljklfahmjngaaPaSortF
import Derived.Laws.MakeOwn
import Derived.LoopIn
import Derived.BigRegionIn
import Derived.BigFrameIn
namespace Go.Proofs.Ytjljklfahmjngaa
open Go Go.Proofs Go.RowKit Go.Shelf
attribute [local go_sem] Oper.semAt_some
section
variable {F : Fence} {n : Nat} {ops : Array Oper} {Q : Exit → Act → World → Prop} {a : Act} {o : Oper} {rest : List Oper} {w : World}
theorem wpLIn_known (hp : ∀ c, o.op ≠ .defer c) (ha : o.about Try.prog w a.eval = none) (hw : Region.wanted o (yielded ops a.tmps) = true) (v : Value) (w' : World) (hrun : (execOp a.eval o).run Try.prog w = .ok (.value v) w') (h : wpListIn F n Try.prog ops Q rest (a.put o.dst v) w') : wpListIn F n Try.prog ops Q (o :: rest) a w := by
  refine BigFrame.wpListIn_want hw fun K hK => ?_
  unfold Oper.wpIn
  refine ⟨fun f hf => (by rw [ha] at hf; cases hf), ?_⟩
  rw [Oper.semAt_plain F _ _ hp, hrun, Oper.uponIn_value]
  exact hK _ _ h
theorem wpLIn_make (l c : Operand) (t : TypeId) (ho : o.op = .makeSlice t l c) (hw : Region.wanted o (yielded ops a.tmps) = true) (vl vc v' : Value) (w' : World) (hl : a.eval l = vl) (hc : a.eval c = vc) (hrun : (Instr.makeSlice t vl vc).run Try.prog w = .ok v' w') (h : wpListIn F n Try.prog ops Q rest (a.put o.dst v') w') : wpListIn F n Try.prog ops Q (o :: rest) a w :=
  wpLIn_known (by rw [ho]; intro c hc; cases hc) (by simp [Oper.about, ho]) hw _ _ (by unfold execOp; simp only [ho, Sem.run_bind, Sem.run_pure, Result.andThen_ok, hl, hc, hrun]) h
theorem wpLIn_append (hgd : o.guard = none) (s x : Operand) (t : TypeId) (ho : o.op = .call { callee := .builtin .append, args := #[s, x], argTypes := #[t, t] }) (v vx v' : Value) (w' : World) (hs : a.eval s = v) (hx : a.eval x = vx)
    (hrun : (Builtin.append_ #[t, t] o.type #[v, vx]).run Try.prog w = .ok v' w') (h : wpListIn F n Try.prog ops Q rest (a.put o.dst v') w') : wpListIn F n Try.prog ops Q (o :: rest) a w := by
  refine wpListIn_plain hgd fun K hK => ?_
  unfold Oper.wpIn
  refine ⟨?_, ?_⟩
  · simp [Oper.about, ho, resolve, Target.leads, Sem.run_pure]
  · rw [Oper.semAt_plain F _ _ (by rw [ho]; intro c hc; cases hc)]
    simp [execOp, ho, resolve, invoke, builtin, hs, hx, hrun, Result.andThen]
    exact hK _ _ h
end
/-- What the iterator hands over. -/
def riV (L : List Pt) (s : Nat) : Array Value := #[.int .i64 ((ordL L).getD s 0 : Nat), paV (L.getD ((ordL L).getD s 0) noP).id (L.getD ((ordL L).getD s 0) noP).at' (L.getD ((ordL L).getD s 0) noP).val]
def risingV (bl : Nat) : Value := .func (.func 33) #[] #[.pointer (some ⟨bl, 0, none⟩)]
set_option maxRecDepth 100000 in
theorem rising_any (w : World) (ao : Option Addr) (m c : Nat) : Calls Try.prog 25 #[.slice ao m c] w fun e w' => e = .returned (risingV w.heap.size) ∧ w' = w.alloc (.cells #[.slice ao m c] 23) := by
  go_enter Try.func25, Try.ntmps25
  go_wp2
  go_ret
  exact ⟨rfl, rfl⟩
/-- A number more in the iterator's row. -/
theorem appn_run (W : World) (B : Nat) (v : Value) (n : Nat) (xs : List Nat) (k : Nat) (hown : W.ownsRow B 3 1 v n (Iy (natI xs))) (hB : B ≤ W.heap.size) (hn : n ≤ 1000000) (hv : v ≠ .slice none 0 0) :
    ∃ v' W', (Builtin.append_ #[24, 24] 24 #[v, .slice (some ⟨W.heap.size, 0, none⟩) 1 1]).run Try.prog (W.alloc (.cells #[.int .i64 (k : Nat)] 3)) = .ok v' W' ∧ v' ≠ .slice none 0 0 ∧ Hid (W'.ownsRow B 3 1 v' (n + 1) (Iy (natI (xs ++ [k]))) ∧ Below B W W') := by
  obtain ⟨i0, hi, hz0, hz1, hz2⟩ := info3p
  have hnew := blk_new W (.cells #[.int .i64 (k : Nat)] 3)
  obtain ⟨v3, W3, hr, hown3, hg3, hno⟩ := run_append_own (P := Try.prog) (W.alloc (.cells #[.int .i64 (k : Nat)] 3)) B 24 24 3 i0 (.int .i64 0) 1 8 Try.underlying24 hi hz0 hz1 hz2 rfl (by decide) v n (Iy (natI xs)) (hown.alloc _) ⟨W.heap.size, 0, none⟩ 1 1 [.int .i64 (k : Nat)] rfl (fun j u hj => by
    match j, hj with
    | 0, hj => cases hj; rw [add_at, blk_cell hnew]; rfl) (fun u hu => by
    rw [List.mem_singleton.1 hu]; rfl) (by unfold maxLen; omega) (by omega) (by simp; omega)
  refine ⟨v3, W3, hr, fun e => hv (hno.1 e).1, Hid.mk ⟨?_, ?_⟩⟩
  · have e : Iy (natI xs) ++ [.int .i64 (k : Nat)] = Iy (natI (xs ++ [k])) := by simp [Iy, natI]
    rw [← e]
    exact hown3
  · exact ((Below.refl B W).alloc hB _).grown hg3 (by simp; omega) (fun j hj => (hown.lt j hj).1)
theorem make_order (W : World) (m : Nat) (hm : m ≤ 1000000) : ∃ W', (Instr.makeSlice 24 (.int .i64 0) (.int .i64 m)).run Try.prog W = .ok (.slice (some ⟨W.heap.size, 0, none⟩) 0 m) W' ∧ Hid (W'.ownsRow W.heap.size 3 1 (.slice (some ⟨W.heap.size, 0, none⟩) 0 m) 0 (Iy (natI [])) ∧ Below W.heap.size W W') := by
  obtain ⟨i0, hi, hz0, hz1, hz2⟩ := info3p
  have := run_make_own (P := Try.prog) (w := W) W.heap.size 24 3 i0 (.int .i64 0) 1 Try.underlying24 hi hz0 hz1 .i64 .i64 m (by rw [hz2]; omega) (by unfold maxLen; omega) (Nat.le_refl _)
  obtain ⟨W', h1, h2, h3⟩ := this
  exact ⟨W', h1, Hid.mk ⟨h2, h3.os, h3.tape, h3.output, h3.size, fun k hk => h3.block k hk (by simp)⟩⟩
structure RiS (W : World) (J : Nat → (Nat → Prop) → World → Prop) (L : List Pt) (v : Value) (s : Nat) (A : World) : Prop where
  le : s ≤ (ordL L).length
  j : ∃ It, J s It A ∧ ∀ k, v.ownBlock = some k → It k
  row : A.ownsRow W.heap.size 3 1 v (ordL L).length (Iy (natI (ordL L)))
theorem nat_get (l : List Nat) (k : Nat) : (natI l).getD k 0 = ((l.getD k 0 : Nat) : Int) := by
  unfold natI
  simp only [List.getD_eq_getElem?_getD, List.getElem?_map]
  cases l[k]? <;> rfl
theorem owns_nat {w : World} {base : Nat} {v : Value} {l : List Nat} (h : w.ownsRow base 3 1 v l.length (Iy (natI l))) (hv : v ≠ .slice none 0 0) : ∃ g cap, v = .slice (some ⟨g, 0, none⟩) l.length cap ∧ base ≤ g ∧ g < w.heap.size ∧ ∀ k, k < l.length → w.cell? ⟨g, k, none⟩ = some (.int .i64 (l.getD k 0 : Nat)) := by
  rcases h.2 with ⟨e, -⟩ | ⟨g, cap, cur, e, hg, hh, hnc, hm, hsz, ht⟩
  · exact absurd e hv
  · refine ⟨g, cap, e, hg, lt_of_block hh, fun k hk => ?_⟩
    rw [blk_cell hh]
    have e1 : (cur.toList.take (l.length * 1))[k]? = cur[k]? := by
      rw [List.getElem?_take_of_lt (by omega), Array.getElem?_toList]
    rw [← e1, ht, Iy_get _ k (by simp [natI]; exact hk), nat_get]
theorem ord_lt {L : List Pt} {s : Nat} (hs : s < (ordL L).length) : (ordL L).getD s 0 < L.length ∧ (ordL L).getD s 0 ∈ ordL L := by
  have hm : (ordL L).getD s 0 ∈ ordL L := by
    rw [List.getD_eq_getElem?_getD, List.getElem?_eq_getElem hs]
    exact List.getElem_mem _
  exact ⟨(ix_lt ((ord_perm L).mem_iff.1 hm)).1, hm⟩
set_option maxRecDepth 100000 in
set_option maxHeartbeats 4000000 in
theorem rising1_in (n : Nat) (hn : 1 ≤ n) (l bl : Nat) (ao : Option Addr) (m c : Nat) (L : List Pt) (hm : m ≤ 1000) (J : Nat → (Nat → Prop) → World → Prop) (Jx : World → Prop) (W : World)
    (hc : ∀ s It A, J s It A → A.cell? ⟨bl, 0, none⟩ = some (.slice ao m c) ∧ bl < A.heap.size ∧ PcAt A ao m L)
    (hJ : ∀ s It It' A B, J s It A → Only It A B → (∀ k, It' k → It k ∨ A.heap.size ≤ k) → J s It' B)
    (hY : ∀ s It A, J s It A → s < (ordL L).length → YieldAt Fence.wide (n - 1) Try.prog l (riV L s) A fun e W' => (∀ k, It k → k < A.heap.size → W'.heap[k]? = A.heap[k]?) ∧ A.heap.size ≤ W'.heap.size ∧ ((e = .returned (.bool true) ∧ J (s + 1) (fun k => It k ∧ k < A.heap.size) W') ∨ (e = .returned (.bool false) ∧ Jx W'))) (h0 : J 0 (fun _ => False) W) :
    CallsIn Fence.wide n Try.prog 33 #[.func (.yield l) #[] #[], .pointer (some ⟨bl, 0, none⟩)] W fun e W' => (∃ v, e = .returned v) ∧ ((∃ s It, s = (ordL L).length ∧ J s It W') ∨ Jx W') := by
  obtain ⟨c0, hbl, hpc⟩ := hc 0 _ W h0
  have hLm : L.length = m := hpc.1
  obtain ⟨W1, hmk, HMK⟩ := make_order W m (by omega)
  have HMR := Hid.mk hmk
  have HC := Hid.mk hc
  have HJ := Hid.mk hJ
  have HY := Hid.mk hY
  have HM := Hid.mk hm
  have H0 := Hid.mk h0
  have HBL := Hid.mk hbl
  have HPC : Hid (∀ A, Below W.heap.size W A → A.cell? ⟨bl, 0, none⟩ = some (.slice ao m c) ∧ PcAt A ao m L) := Hid.mk (fun A hB => ⟨(World.cell?_of_block (w := W) (hB.block bl hbl)).trans c0, hpc.below hB⟩)
  have HLM := Hid.mk hLm
  have c1 := (HPC.out W1 HMK.out.2).1
  clear hc hJ hY hm h0 hbl hpc hLm hmk
  refine callsIn_of_wp Try.func33 rfl trivial ?_ rfl
  simp only [Try.ntmps33, List.size_toArray, List.length_cons, List.length_nil, Nat.reduceAdd, Nat.reduceSub, Array.replicate_succ, Array.replicate_zero, List.push_toArray, List.append_toArray, List.nil_append, List.cons_append]
  gi_wp2_with (first
    | (refine wpLIn_make (.const (.int .i64 0)) (.tmp 9) 24 rfl rfl _ _ _ _ rfl rfl HMR.out ?_; simp only [Act.put, List.setIfInBounds_toArray, List.set_cons_zero, List.set_cons_succ])
    | gi_in)
  gi_loopw [3, 4, 5, 13] (fun v _ _ q wr => ∃ k : Nat, q = .int .i64 k ∧ Hid (k ≤ m ∧ v ≠ .slice none 0 0 ∧ wr.ownsRow W.heap.size 3 1 v (ixL L k).length (Iy (natI (ixL L k))) ∧ Below W.heap.size W wr)) (fun _ _ _ q _ => m - (intOf q).toNat)
  case atStart => exact ⟨0, rfl, Hid.mk ⟨Nat.zero_le _, by simp, HMK.out.1, HMK.out.2⟩⟩
  case round =>
    obtain ⟨k, rfl, HK⟩ := hrel
    clear HMK HMR c0 c1
    by_cases hlt : k < m
    · have hlt' : (k : Int) < (m : Int) := by omega
      have hlt0 : (0 : Int) ≤ (k : Int) := by omega
      have u1 : IntKind.i64.wrap ((k : Int) + 1) = ((k + 1 : Nat) : Int) := by have := HM.out; rw [IntKind.wrap_i64]; omega
      obtain ⟨a, rfl, x0, x1, x2⟩ := (HPC.out wr HK.out.2.2.2).2.load k hlt
      obtain ⟨p, hp⟩ : ∃ p, p = L.getD k noP := ⟨_, rfl⟩
      rw [← hp] at x0 x1 x2
      have HLT := Hid.mk hlt
      have HP := Hid.mk hp
      clear hp
      have hB2 : Below W.heap.size W (wr.alloc (.cells #[.int .i64 p.id, .int .i64 p.at', .slice p.ao p.n p.c] 31)) := HK.out.2.2.2.trans (((Below.refl _ wr).alloc (Nat.le_refl _) _).mono HK.out.2.2.2.size)
      have hrow2 := HK.out.2.2.1.alloc (.cells #[.int .i64 p.id, .int .i64 p.at', .slice p.ao p.n p.c] 31)
      by_cases hpn : 0 < p.n
      · have hpn' : (0 : Int) < (p.n : Int) := by omega
        obtain ⟨v', W3, hr, hv3, H3⟩ := appn_run _ W.heap.size u3 (ixL L k).length (ixL L k) k hrow2 hB2.size (by have := ix_len L k; have := HM.out; omega) HK.out.2.1
        rw [World.size_alloc] at hr
        have HR3 := Hid.mk hr
        have HNX : Hid (k + 1 ≤ m ∧ v' ≠ .slice none 0 0 ∧ W3.ownsRow W.heap.size 3 1 v' (ixL L (k + 1)).length (Iy (natI (ixL L (k + 1)))) ∧ Below W.heap.size W W3) := Hid.mk ⟨hlt, hv3, by
          rw [ix_yes (by rw [← HP.out]; exact hpn), List.length_append]
          exact H3.out.1, hB2.trans H3.out.2⟩
        clear hr hv3 H3 hB2 hrow2 hlt
        gi_wp2_with (first
          | (gi_at_builtin; refine wpLIn_append rfl (.tmp 22) (.tmp 24) 24 rfl _ _ _ _ rfl rfl HR3.out ?_; simp only [Act.put, List.setIfInBounds_toArray, List.set_cons_zero, List.set_cons_succ])
          | gi_in)
        refine ⟨⟨k + 1, rfl, HNX⟩, ?_⟩
        have := HLT.out
        simp [intOf]
        omega
      · have hpn' : ¬ (0 : Int) < (p.n : Int) := by omega
        have h0' : p.n = 0 := by omega
        have HNX : Hid (k + 1 ≤ m ∧ u3 ≠ .slice none 0 0 ∧ (wr.alloc (.cells #[.int .i64 p.id, .int .i64 p.at', .slice p.ao p.n p.c] 31)).ownsRow W.heap.size 3 1 u3 (ixL L (k + 1)).length (Iy (natI (ixL L (k + 1)))) ∧ Below W.heap.size W (wr.alloc (.cells #[.int .i64 p.id, .int .i64 p.at', .slice p.ao p.n p.c] 31))) := Hid.mk ⟨hlt, HK.out.2.1, by
          rw [ix_no (by rw [← HP.out]; exact hpn)]
          exact hrow2, hB2⟩
        clear hB2 hrow2 hlt h0'
        gi_wp2
        refine ⟨⟨k + 1, rfl, HNX⟩, ?_⟩
        have := HLT.out
        simp [intOf]
        omega
    · have hkm : k = m := by have := HK.out.1; omega
      have hlt' : ¬ (k : Int) < (m : Int) := by omega
      obtain ⟨hk1, hk2, hk3, hk4⟩ := HK.out
      rw [hkm] at hk3
      obtain ⟨g, cap, rfl, hgb, hgl, -⟩ := owns_nat hk3 hk2
      have HSO : Hid (Calls Try.prog 34 #[.slice (some ⟨g, 0, none⟩) (ixL L m).length cap, .func (.func 35) #[] #[.pointer (some ⟨bl, 0, none⟩)]] wr fun e w' => e = .returned (.tuple #[]) ∧ Hid (Only (fun k => k = g) wr w' ∧ w'.ownsRow W.heap.size 3 1 (.slice (some ⟨g, 0, none⟩) (ixL L m).length cap) (ordL L).length (Iy (natI (ordL L))))) := Hid.mk (by
        have hol : (ordL L).length = (ixL L m).length := by rw [ord_len, HLM.out]
        rw [hol]
        obtain ⟨mm, hmm⟩ | h0 : (∃ mm, m = mm + 1) ∨ m = 0 := by
          cases m with
          | zero => exact .inr rfl
          | succ mm => exact .inl ⟨mm, rfl⟩
        · subst hmm
          refine (sortf_some wr bl ao mm c L (HPC.out wr hk4).1 (by have := HBL.out; have := hk4.size; omega) (HPC.out wr hk4).2 (by have := HM.out; omega) W.heap.size g _ cap rfl hk3 (by have := HBL.out; omega) (fun a ea => ?_)).mono ?_
          · obtain ⟨a', ea', hl, _⟩ := (HPC.out W (Below.refl _ W)).2.2 (by omega)
            rw [ea] at ea'
            cases ea'
            omega
          · rintro e w' ⟨rfl, h1, h2⟩
            exact ⟨rfl, Hid.mk ⟨(Only.refl (fun k => k = g) wr).grown h1 (fun k e => by cases e; exact .inl rfl), h2⟩⟩
        · subst h0
          have hix : ixL L 0 = [] := rfl
          have hor : ordL L = [] := List.eq_nil_of_length_eq_zero (by rw [hol, hix]; rfl)
          rw [hor, hix]
          rw [hix] at hk3
          refine (sortf_none wr g cap _).mono ?_
          rintro e w' ⟨rfl, rfl⟩
          exact ⟨rfl, Hid.mk ⟨Only.refl _ _, hk3⟩⟩)
      have HGB : Hid (W.heap.size ≤ g ∧ g < wr.heap.size ∧ Below W.heap.size W wr) := Hid.mk ⟨hgb, hgl, hk4⟩
      have HOL : Hid ((ordL L).length = (ixL L m).length ∧ (ixL L m).length ≤ 1000) := Hid.mk ⟨by rw [ord_len, HLM.out], by have := ix_len L m; have := HM.out; omega⟩
      obtain ⟨N, hN⟩ : ∃ N, N = (ixL L m).length := ⟨_, rfl⟩
      rw [← hN] at HSO HOL
      rw [← hN]
      clear hk1 hk2 hk3 hk4 hkm HK hgb hgl hN
      gi_wp2_with (first
        | (refine ⟨trivial, ?_⟩; gi_at_call 34; refine (callsIn_wide.2 HSO.out).mono ?_; rintro e w3 ⟨rfl, H3⟩; clear HSO)
        | (gi_at_call 34; refine (callsIn_wide.2 HSO.out).mono ?_; rintro e w3 ⟨rfl, H3⟩; clear HSO)
        | gi_in)
      have HJ3 : Hid (RiS W J L (.slice (some ⟨g, 0, none⟩) N cap) 0 w3) := Hid.mk ⟨Nat.zero_le _, ⟨fun k => W.heap.size ≤ k, HJ.out 0 _ _ W w3 H0.out (Only.of_new _ (HGB.out.2.2.trans (H3.out.1.below (by have := HGB.out.2.2.size; omega) (fun k e => by have e : k = g := e; have := HGB.out.1; omega)))) (fun k q => .inr q), fun k e => by cases e; exact HGB.out.1⟩, by rw [HOL.out.1] at *; exact H3.out.2⟩
      gi_loopw [7, 32] (fun _ q wr => ∃ s : Nat, q = .int .i64 s ∧ Hid (RiS W J L (.slice (some ⟨g, 0, none⟩) N cap) s wr)) (fun _ q _ => N - (intOf q).toNat)
      case atStart => exact ⟨0, rfl, HJ3⟩
      case round =>
        obtain ⟨s, rfl, HS⟩ := hrel
        clear HJ3 H3
        by_cases hlt : s < N
        · have hlt' : (s : Int) < (N : Int) := by omega
          have s0 : (0 : Int) ≤ (s : Int) := by omega
          have u1 : IntKind.i64.wrap ((s : Int) + 1) = ((s + 1 : Nat) : Int) := by have := HOL.out; rw [IntKind.wrap_i64]; omega
          have hso : s < (ordL L).length := by rw [HOL.out.1]; exact hlt
          have hrow := HS.out.row
          rw [← HOL.out.1] at hrow
          obtain ⟨g', cap', e, -, -, hcs⟩ := owns_nat hrow (by simp)
          cases e
          have c0 := hcs s hso
          obtain ⟨hiL, -⟩ := ord_lt hso
          obtain ⟨It, hj, hit⟩ := HS.out.j
          obtain ⟨cb, hbl, hpc⟩ := HC.out _ _ _ hj
          have him : (ordL L).getD s 0 < m := by have := HLM.out; omega
          obtain ⟨a, rfl, x0, x1, x2⟩ := hpc.load _ him
          obtain ⟨i, hi⟩ : ∃ i, i = (ordL L).getD s 0 := ⟨_, rfl⟩
          obtain ⟨p, hp⟩ : ∃ p, p = L.getD i noP := ⟨_, rfl⟩
          rw [← hi] at c0 x0 x1 x2 him
          rw [← hp] at x0 x1 x2
          have x2' : wr.cell? ⟨(a.add (i * 3)).block, (a.add (i * 3)).off + 2, none⟩ = some (.slice p.ao p.n p.c) := x2
          have him' : (i : Int) < (m : Int) := by omega
          have i0 : (0 : Int) ≤ (i : Int) := by omega
          have e9 : (⟨g, 0, none⟩ : Addr).add s = ⟨g, s, none⟩ := by rw [add_at, Nat.zero_add]
          have h9 := HY.out s It wr hj hso
          unfold riV at h9
          rw [← hi, ← hp] at h9
          unfold paV Pt.val at h9
          have HYK : Hid (YieldAt Fence.wide (n - 1) Try.prog l #[.int .i64 i, .agg #[.int .i64 p.id, .int .i64 p.at', .slice p.ao p.n p.c]] wr fun e W' => ∃ b : Bool, e = .returned (.bool b) ∧ Hid ((b = true ∧ RiS W J L (.slice (some ⟨g, 0, none⟩) N cap) (s + 1) W') ∨ (b = false ∧ Jx W'))) := Hid.mk (YieldAt.mono h9 (fun e W' h => by
            obtain ⟨hfr, hsz, h⟩ := h
            rcases h with ⟨rfl, hj2⟩ | ⟨rfl, hx⟩
            · refine ⟨true, rfl, Hid.mk (.inl ⟨rfl, hso, ⟨_, hj2, fun k e => ⟨hit k e, (HS.out.row.lt k e).2⟩⟩, owns_at HS.out.row (fun k e => hfr k (hit k e) (HS.out.row.lt k e).2)⟩)⟩
            · exact ⟨false, rfl, Hid.mk (.inr ⟨rfl, hx⟩)⟩))
          have HLT := Hid.mk hlt
          clear HY HS hcs hrow hj hit hbl hpc hi hp hiL hso him h9 x2 hlt
          obtain ⟨fn, tmps, assign, body, hy, hR⟩ := HYK.out
          have HR := Hid.mk hR
          clear hR HYK
          gi_wp2_with (first
            | (refine HR.out.mono ?_; rintro e W4 ⟨b, rfl, HCC⟩) | (refine ⟨trivial, ?_⟩; refine HR.out.mono ?_; rintro e W4 ⟨b, rfl, HCC⟩))
          · have hb : b = false := by
              rename_i h
              simpa using h
            have hx : Jx W4 := by simpa [Hid, hb] using HCC
            refine bodyPost_ret (results_none rfl _ _ _) rfl ?_
            exact ⟨⟨_, rfl⟩, .inr hx⟩
          · have hb : b = true := by
              rename_i h
              simpa using h
            have hj : RiS W J L (.slice (some ⟨g, 0, none⟩) N cap) (s + 1) W4 := by simpa [Hid, hb] using HCC
            refine ⟨⟨s + 1, rfl, Hid.mk hj⟩, ?_⟩
            have := HLT.out
            simp [intOf]
            omega
        · have hlt' : ¬ (s : Int) < (N : Int) := by omega
          have HF : Hid (∃ s It, s = (ordL L).length ∧ J s It wr) := Hid.mk (by
            obtain ⟨It, hj, -⟩ := HS.out.j
            exact ⟨s, It, by have := HS.out.le; have := HOL.out; omega, hj⟩)
          clear HY HS HC hlt
          gi_wp2
          go_end0
          exact ⟨⟨_, rfl⟩, .inl (by
            obtain ⟨s', It, e, h⟩ := HF.out
            subst e
            exact ⟨It, h⟩)⟩
end Go.Proofs.Ytjljklfahmjngaa
