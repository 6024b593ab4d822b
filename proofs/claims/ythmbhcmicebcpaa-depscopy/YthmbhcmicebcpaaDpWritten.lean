/-
  A buffer is written: Written.
-/
import Derived.Test.YthmbhcmicebcpaaDpAdd
namespace Go.Proofs.Ythmbhcmicebcpaa
open Go Go.Proofs Go.RowKit Go.Shelf
attribute [local go_sem] Oper.semAt_some
/-- The graph behind the first k of these are done. -/
noncomputable def Ga.fins (A : Ga) (S : List Int) : Ga := S.foldl Ga.finish A
/-- Between two rounds of Written. -/
structure WrI (F : Nat → Prop) (w w5 : World) (q g : Nat) (D : Gd) (v : Value) (S : List Int) (k : Nat) (A : World) : Prop where
  b0 : A.heap[w.heap.size]? = some (.cells #[ptV g] 26 (0, 0))
  o0 : A.heap[q]? = some (.cells #[ptV g] 26 (0, 0))
  o1 : A.heap[q + 1]? = some (.cells #[v] 23 (0, 0))
  row : A.ownsRow w.heap.size 3 1 v S.length (Iy S)
  sz : w5.heap.size ≤ A.heap.size
  on : Only F w A
  gr : ∃ Dk, GrAt (fun k => (F k ∧ k < w.heap.size) ∨ w5.heap.size + 2 ≤ k) A g Dk ∧ Dk.abs = D.abs.fins (S.take k) ∧ ∀ y, y ∉ S.take k → (Dk.ch y).map (·.cb) = (D.ch y).map (·.cb)
theorem own_same {W W' : World} {B : Nat} {v : Value} {n : Nat} {xs : List Value} (h : W.ownsRow B 3 1 v n xs) (hk : ∀ k, v.ownBlock = some k → W'.heap[k]? = W.heap[k]?) : W'.ownsRow B 3 1 v n xs := by
  refine ⟨h.1, ?_⟩
  rcases h.2 with h2 | ⟨g', cap', cur, hv, hg, hh, hr⟩
  · exact .inl h2
  · subst hv
    exact .inr ⟨g', cap', cur, rfl, hg, (hk g' rfl).trans hh, hr⟩
section
variable {F : Nat → Prop} {w w5 A B : World} {q g : Nat} {D : Gd} {v : Value} {S : List Int} {k : Nat}
theorem WrI.others {T : Nat → Prop} (h : WrI F w w5 q g D v S k A) (hO : Only T A B) (hT : ∀ k, k < A.heap.size → T k → w5.heap.size ≤ k ∧ k < w5.heap.size + 2) (hq : q + 1 < w5.heap.size) (hw : w.heap.size + 1 ≤ q) (hv : ∀ k, v.ownBlock = some k → k < q) : WrI F w w5 q g D v S k B := by
  have keep : ∀ k, k < w5.heap.size → B.heap[k]? = A.heap[k]? := fun k hk => hO.block k (by have := h.sz; omega) (fun hs => by have := hT k (by have := h.sz; omega) hs; omega)
  refine ⟨(keep _ (by omega)).trans h.b0, (keep _ (by omega)).trans h.o0, (keep _ hq).trans h.o1, own_same h.row (fun k hk => keep k (by have := hv k hk; omega)), Nat.le_trans h.sz hO.size, ?_, ?_⟩
  · exact h.on.trans (T := fun k => T k ∧ k < A.heap.size) (hO.mono (fun k hk hs => ⟨hs, hk⟩)) (fun k hs => .inr (by have := hT k hs.2 hs.1; omega))
  · obtain ⟨Dk, h1, h2⟩ := h.gr
    refine ⟨Dk, h1.only hO (fun k hk hlt hs => ?_), h2⟩
    have := hT k hlt hs
    rcases hk with hk | hk
    · have := hk.2; omega
    · omega
set_option maxRecDepth 100000 in
set_option maxHeartbeats 8000000 in
theorem written_any (h : GrAt F w g D) {buf : Int} (hwb : (Lit.int .i64 buf).wf = true) (hS : ((D.bf buf).map (·.nx)).getD [] = S) (hr : S.Pairwise (· < ·)) (hSl : S.length ≤ 1000000) (hdom : ∀ j, j < S.length → (D.ch (S.getD j 0)).isSome = true)
    (hst : ∀ k, k < S.length → (D.abs.fins (S.take k)).Ok ∧ ∃ c, (D.abs.fins (S.take k)).ch (S.getD k 0) = some c ∧ (∀ y ∈ c.ab, y ≠ S.getD k 0 ∧ ((D.abs.fins (S.take k)).ch y).isSome = true) ∧ c.ab.length ≤ 1000000000) :
    Calls Try.prog 25 #[ptV g, .int .i64 buf] w fun e w' => ∃ v, e = .returned v ∧ w'.ownsRow w.heap.size 3 1 v S.length (Iy S) ∧ ∃ D', GrAt (Grown F w) w' g D' ∧ D'.abs = D.abs.fins S ∧ (∀ n k, Own g D' n k → v.ownBlock ≠ some k) ∧ Only F w w' := by
  have hnd : S.Nodup := hr.imp (fun h => Int.ne_of_lt h)
  obtain ⟨w0, hw0⟩ : ∃ w0, w0 = w.alloc (.cells #[ptV g] 26) := ⟨_, rfl⟩
  have hB0 : Below w.heap.size w w0 := by rw [hw0]; exact (Below.refl _ w).alloc (Nat.le_refl _) _
  have hx0 : w0.heap[w.heap.size]? = some (.cells #[ptV g] 26 (0, 0)) := by rw [hw0]; exact blk_new w _
  have hs0 : w0.heap.size = w.heap.size + 1 := by rw [hw0]; simp
  have HNX : Hid (Calls Try.prog 16 #[ptV g, .int .i64 buf] w0 fun e w' => ∃ v, e = .returned v ∧ w'.ownsRow w0.heap.size 3 1 v S.length (Iy S) ∧ Below w0.heap.size w0 w') := Hid.mk (by
    have h9 := next_any (h.grow hB0) hwb (fun x hx => by
      have : ((D.bf buf).map (·.nx)).getD [] = x.nx := by rw [hx]; rfl
      rw [← this, hS]
      exact hSl)
    rw [hS] at h9
    exact h9)
  have HH := Hid.mk h
  have HB0 := Hid.mk hB0
  have HX0 := Hid.mk hx0
  have HS0 := Hid.mk hs0
  have HST := Hid.mk hst
  have HND := Hid.mk hnd
  have HR := Hid.mk hr
  have HALL : Hid (∀ j, j < S.length → ∀ P : Nat → Option Nat, P = (fun j => (D.ch (S.getD j 0)).map (·.cb)) → ∃ b, P j = some b) := Hid.mk (fun j hj P hP => by
    have h9 : (D.ch (S.getD j 0)).isSome = true := hdom j hj
    rw [hP]
    show ∃ b, (D.ch (S.getD j 0)).map (·.cb) = some b
    cases hc : D.ch (S.getD j 0) with
    | none => rw [hc] at h9; cases h9
    | some c => exact ⟨_, rfl⟩)
  have HSL := Hid.mk hSl
  have HW0 := Hid.mk hw0
  have e0 : w0.cell? ⟨w.heap.size, 0, none⟩ = some (ptV g) := by rw [blk_cell hx0]; rfl
  clear hst h hB0 hx0 hs0 hnd hSl hr hS hw0 hdom
  refine (callsIn_wide (n := 6)).1 ?_
  refine callsIn_of_wp_marks Try.func25 rfl trivial ?_ rfl
  simp only [Try.ntmps25, List.size_toArray, List.length_cons, List.length_nil, Nat.reduceAdd, Nat.reduceSub, Array.replicate_succ, Array.replicate_zero, List.push_toArray, List.append_toArray, List.nil_append, List.cons_append]
  gi_wp2_with (first
    | (refine ⟨trivial, ?_⟩; gi_at_call 16; rw [← HW0.out]; refine (callsIn_wide.2 HNX.out).mono ?_; rintro e w1 ⟨v, rfl, hrow1, hB1⟩; have H1 := Hid.mk (And.intro hrow1 hB1); have e1 : w1.cell? ⟨w.heap.size, 0, none⟩ = some (ptV g) := (by rw [World.cell?_of_block (w := w0) (hB1.block w.heap.size (by have := HS0.out; omega))]; exact e0); clear hrow1 hB1)
    | (refine ⟨trivial, ?_⟩; gi_at_call 41; refine (callsIn_wide.2 (open_any w1 g v (by obtain ⟨ao, c', hv, _⟩ := owns_lat H1.out.1; exact ⟨_, _, _, hv⟩))).mono ?_; rintro e w5 ⟨rfl, hw5⟩; have HW5 := Hid.mk hw5; clear hw5))
  obtain ⟨q, hq⟩ : ∃ q, q = w1.heap.size := ⟨_, rfl⟩
  rw [← hq]
  have hs5 : w5.heap.size = q + 2 := by rw [HW5.out, hq]; simp
  have hB1 := H1.out.2
  have hs1 := hB1.size
  have hs0 := HS0.out
  have hB5 : Below w1.heap.size w1 w5 := by rw [HW5.out]; exact ((Below.refl _ _).alloc (Nat.le_refl _) _).alloc (by simp) _
  have hB : Below w.heap.size w w5 := HB0.out.trans ((hB1.mono (by omega)).trans (hB5.mono (by omega)))
  have hvb : ∀ k, v.ownBlock = some k → w.heap.size + 1 ≤ k ∧ k < q := fun k hk => by have := H1.out.1.lt k hk; omega
  have hI0 : WrI F w w5 q g D v S 0 w5 := by
    refine ⟨(hB5.block _ (by omega)).trans ((hB1.block _ (by omega)).trans HX0.out), ?_, ?_, own_same (owns_base H1.out.1 (by omega)) (fun k hk => hB5.block k (by have := hvb k hk; omega)), Nat.le_refl _, Only.of_new F hB, D, (HH.out.tight.grow hB).mono (fun k _ hk => ?_), rfl, fun _ _ => rfl⟩
    · rw [HW5.out, Below.heap_alloc _ _ _ (by rw [hq]; simp), hq]
      exact blk_new w1 _
    · rw [HW5.out]
      have := blk_new (w1.alloc (.cells #[ptV g] 26)) (.cells #[v] 23)
      rw [World.size_alloc] at this
      rw [hq]
      exact this
    · obtain ⟨n, hn⟩ := hk
      exact .inl (HH.out.own n k hn)
  have HI0 := Hid.mk hI0
  have HSZ : Hid (q + 1 < w5.heap.size ∧ w.heap.size + 1 ≤ q ∧ (∀ k, v.ownBlock = some k → w.heap.size + 1 ≤ k ∧ k < q) ∧ w5.heap.size = q + 2) := Hid.mk ⟨by omega, by omega, hvb, hs5⟩
  clear hI0 hB hB5 hB1 hs1 hs0 hs5 hq hvb
  obtain ⟨P, hP⟩ : ∃ P : Nat → Option Nat, P = fun j => (D.ch (S.getD j 0)).map (·.cb) := ⟨_, rfl⟩
  have hgt : ∀ j, j < S.length → S.getD j 0 ∉ S.take j := fun j hj hm => by
    rw [List.getD_eq_getElem?_getD, List.getElem?_eq_getElem hj] at hm
    obtain ⟨k, hk, e⟩ := List.mem_take_iff_getElem.1 hm
    have h8 := List.pairwise_iff_getElem.1 HR.out k j (by omega) hj (by omega)
    have h9 : S[j] = S[k] := by simpa using e.symm
    omega
  have hoth : ∀ k A B (T : Nat → Prop), WrI F w w5 q g D v S k A → Only T A B → (∀ k, k < A.heap.size → T k → w5.heap.size ≤ k ∧ k < w5.heap.size + 2) → WrI F w w5 q g D v S k B := fun k A B T hA hO hT => hA.others hO hT HSZ.out.1 HSZ.out.2.1 (fun k hk => (HSZ.out.2.2.1 k hk).2)
  have hall : ∀ j, j < S.length → ∃ b, P j = some b := fun j hj => HALL.out j hj P hP
  obtain ⟨hlen, hat⟩ := all_open hall
  obtain ⟨pl, hpl⟩ : ∃ pl : Nat → Nat, pl = fun k => ((List.range S.length).filterMap P).getD k 0 := ⟨_, rfl⟩
  refine wpIn_range_stop (gf := 55) (lb := #[ptV (q + 1), ptV q]) rfl (enters_of Try.func55 (by kernel_rfl) rfl) S.length (fun k => #[ptV (pl k)]) (fun _ => rfl)
    (WrI F w w5 q g D v S) (fun _ => False)
    (fun k A B row hA hg hr => hoth _ A B (fun k => row = some k) hA ⟨hg.os, hg.tape, hg.output, hg.size, fun j hj hs => hg.block j hj (fun e => hs e.symm)⟩ (fun j _ hj => by have := hr j hj; omega)) (fun A B row hA _ _ => hA) HI0.out ?hit
    (fun k => { tmps := #[ptV g, .int .i64 buf, ptV w.heap.size, undef, .slice none 0 0, v, ptV (pl k), ptV g, .int .i64 buf, v, ptV g, v, openV q, ptV (pl k), undef, undef, undef, undef], defers := [] }) ?assign ?body ?done ?stop
  case hit =>
    intro l J Jx W hJI hg hY h0
    obtain ⟨ao, cc, hav, _⟩ := owns_lat HI0.out.row
    have := open1_in 5 (by omega) l q g ao S.length cc S (by have := HSL.out; omega) P J Jx W ?_ ?_ ?_ h0
    · rw [hlen] at this; exact this
    · rw [blk_cell ((hg.block (q + 1) HSZ.out.1 (by simp)).trans HI0.out.o1), ← hav]; rfl
    · intro k A hJ
      have hA := hJI k A hJ
      obtain ⟨Dk, hgk, _, hpk⟩ := hA.gr
      refine ⟨by rw [blk_cell hA.o0]; rfl, Dk.lm, hgk.cellsG.2.1, fun j hj hkj => ?_⟩
      obtain ⟨ao', cc', hav', hl'⟩ := owns_lat hA.row
      rw [hav] at hav'
      cases hav'
      obtain ⟨a, ha, hca⟩ := hl'.at j hj
      refine ⟨a, ha, hca, ?_⟩
      obtain ⟨hok, c, hc, _⟩ := HST.out j hj
      have hw := wf_small (hok.chs _ c hc).1 hok.big
      rw [(hat j hj).2] at hkj
      rw [hgk.lookC hw, hpk _ (fun hm => hgt j hj ((List.take_subset_take_left S hkj) hm)), hP]
    · intro k A hJ hk
      rw [hlen] at hk
      have := hY k A hJ hk
      rw [hpl] at this
      exact this
  case assign =>
    intro l k W K hK
    generalize pl k = p at *
    gi_wp2
    exact hK
  case body =>
    rintro l k W hWr hk hW2
    obtain ⟨Dk, hgk, habs, hpk⟩ := hWr.gr
    obtain ⟨hok, ca, hca, hab, hbig⟩ := HST.out k hk
    rw [← habs] at hok hca hab
    obtain ⟨y, hy⟩ : ∃ y, y = S.getD k 0 := ⟨_, rfl⟩
    rw [← hy] at hca hab
    obtain ⟨c, hc, hcd⟩ : ∃ c, Dk.ch y = some c ∧ c.dat = ca := by
      have h9 : (Dk.ch y).map Cx.dat = some ca := hca
      cases hh : Dk.ch y with
      | none => rw [hh] at h9; cases h9
      | some z => rw [hh] at h9; exact ⟨z, rfl, Option.some.inj h9⟩
    have hcb : pl k = c.cb := by
      have h1 := (hat k hk).1
      have h2 := hpk y (by rw [hy]; exact hgt k hk)
      rw [hc] at h2
      rw [hP] at h1
      have h3 : (D.ch y).map (·.cb) = some (pl k) := by rw [hy, hpl]; simpa [hP] using h1
      rw [h3] at h2
      exact (Option.some.inj h2).symm
    rw [hcb]
    have HFIN0 := Hid.mk (finish_any hgk hok hc (fun z hz => by
      have h9 := hab z (by rw [← hcd]; exact hz)
      refine ⟨h9.1, ?_⟩
      have h10 : ((Dk.ch z).map Cx.dat).isSome = true := h9.2
      cases hh : Dk.ch z with
      | none => rw [hh] at h10; cases h10
      | some _ => rfl) (by have : c.ab = ca.ab := by rw [← hcd]; rfl
                           rw [this]; exact hbig))
    have htk : D.abs.fins (S.take (k + 1)) = (D.abs.fins (S.take k)).finish y := by
      unfold Ga.fins
      rw [List.take_add_one, List.foldl_append, hy, List.getD_eq_getElem?_getD, List.getElem?_eq_getElem hk]
      rfl
    have bx : W.cell? ⟨w.heap.size, 0, none⟩ = some (ptV g) := by rw [blk_cell hWr.b0]; rfl
    have HNX2 : Hid (∀ w6 D', GrAt (Grown (fun k => (F k ∧ k < w.heap.size) ∨ w5.heap.size + 2 ≤ k) W) w6 g D' → D'.abs = Dk.abs.finish y → (∀ z, z ≠ y → (D'.ch z).map (·.cb) = (Dk.ch z).map (·.cb)) → Only (fun k => (F k ∧ k < w.heap.size) ∨ w5.heap.size + 2 ≤ k) W w6 → WrI F w w5 q g D v S (k + 1) w6 ∧ w6.heap[w5.heap.size]? = W.heap[w5.heap.size]? ∧ w6.heap[w5.heap.size + 1]? = W.heap[w5.heap.size + 1]?) := Hid.mk (fun w6 D' hg6 ha6 hp6 ho6 => by
      obtain ⟨s1, s2, s3, s4⟩ := HSZ.out
      have keep : ∀ k, w.heap.size ≤ k → k < w5.heap.size + 2 → w6.heap[k]? = W.heap[k]? := fun k h1 h2 => ho6.block k (by omega) (by
        rintro (h' | h')
        · have := h'.2; omega
        · omega)
      refine ⟨⟨(keep _ (Nat.le_refl _) (by omega)).trans hWr.b0, (keep _ (by omega) (by omega)).trans hWr.o0, (keep _ (by omega) (by omega)).trans hWr.o1, own_same hWr.row (fun k hk => keep k (by have := s3 k hk; omega) (by have := s3 k hk; omega)), Nat.le_trans hWr.sz ho6.size, ?_, D', hg6.mono (fun k _ hk => ?_), ?_, ?_⟩, keep _ (by omega) (by omega), keep _ (by omega) (by omega)⟩
      · exact hWr.on.trans ho6 (fun k hk => hk.elim (fun h' => .inl h'.1) (fun h' => .inr (by omega)))
      · rcases hk with hk | hk
        · exact hk
        · exact .inr (by omega)
      · rw [ha6, htk, habs]
      · intro z hz
        rw [List.take_add_one, List.mem_append] at hz
        have hz1 : z ∉ S.take k := fun h' => hz (.inl h')
        have hz2 : z ≠ y := fun e => hz (.inr (by rw [List.getElem?_eq_getElem hk, e, hy, List.getD_eq_getElem?_getD, List.getElem?_eq_getElem hk]; simp))
        rw [hp6 z hz2, hpk z hz1])
    clear hWr hgk habs hpk hok hca hab hbig hc hcd hcb htk hy
    gi_wp2_with (refine ⟨trivial, ?_⟩; gi_at_call 42; refine (callsIn_round HFIN0.out).mono ?_; rintro e w6 ⟨rfl, D', hg6, ha6, hp6, ho6⟩; have HZ := Hid.mk (HNX2.out w6 D' hg6 ha6 hp6 ho6); clear hg6 ha6 hp6 ho6)
    first | exact ⟨HZ.out.2.1, HZ.out.2.2, .inl ⟨rfl, HZ.out.1⟩⟩ | exact ⟨HZ.out.2.1, HZ.out.2.2, HZ.out.1⟩
  case done =>
    rintro D9 W9 hD9 hWr hKD
    subst hD9
    obtain ⟨Dk, hgk, habs, hpk⟩ := hWr.gr
    rw [List.take_length] at habs
    obtain ⟨s1, s2, s3, s4⟩ := HSZ.out
    have hgp := grownBy_putObj' W9 w5.heap.size (.deferred none)
    have t2 : Only (fun k => k = w5.heap.size) W9 (W9.putObj w5.heap.size (.deferred none)) := ⟨hgp.os, hgp.tape, hgp.output, hgp.size, fun j hj hs => hgp.block j hj (fun e => hs (by cases e; rfl))⟩
    have HF : Hid ((W9.putObj w5.heap.size (.deferred none)).ownsRow w.heap.size 3 1 v S.length (Iy S) ∧ ∃ D', GrAt (Grown F w) (W9.putObj w5.heap.size (.deferred none)) g D' ∧ D'.abs = D.abs.fins S ∧ (∀ n k, Own g D' n k → v.ownBlock ≠ some k) ∧ Only F w (W9.putObj w5.heap.size (.deferred none))) := Hid.mk (by
      refine ⟨own_same hWr.row (fun k hk => t2.block k (by have := s3 k hk; have := hWr.sz; omega) (by have := s3 k hk; omega)), Dk, (hgk.only t2 (fun k hk _ e => ?_)).mono (fun k _ hk => ?_), habs, fun n k hn e => ?_, hWr.on.trans t2 (fun k hk => .inr (by omega))⟩
      · rcases hk with h' | h'
        · have := h'.2; omega
        · omega
      · rcases hk with h' | h'
        · exact .inl h'.1
        · exact .inr (by omega)
      · have := s3 k e
        rcases (hgk.own n k hn).1 with h' | h'
        · have := h'.2; omega
        · omega)
    have HKD := Hid.mk hKD
    clear hWr hgk habs hpk hgp t2 hKD
    gi_wp2
    refine ⟨by simp, .inl ⟨_, _, rfl, run_takeDeferred HKD.out, ?_⟩⟩
    exact ⟨_, results_tmp rfl _ _ _, v, rfl, HF.out⟩
  case stop =>
    rintro D9 W9 _ hX
    exact hX.elim
end
end Go.Proofs.Ythmbhcmicebcpaa
