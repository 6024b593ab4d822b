/-
  Need.
-/
import Derived.Test.YthmbhcmicebcpaaDpUndI
namespace Go.Proofs.Ythmbhcmicebcpaa
open Go Go.Proofs Go.RowKit Go.Shelf
attribute [local go_sem] Oper.semAt_some
def underV (q : Nat) : Value := .func (.func 53) #[] #[ptV (q + 1), ptV q]
theorem under_any (w : World) (g : Nat) (ao : Option Addr) (m cc : Nat) : Calls Try.prog 40 #[ptV g, .slice ao m cc] w fun e w' => e = .returned (underV w.heap.size) ∧ w' = (w.alloc (.cells #[ptV g] 26)).alloc (.cells #[.slice ao m cc] 23) := by
  go_enter Try.func40, Try.ntmps40
  go_wp2
  go_ret
  exact ⟨rfl, rfl⟩
open Classical in
noncomputable def needL (G : Gp) (xs : List Int) : List Int := pick (fun j => decide (und G j ∧ Reach G xs j)) G.n
open Classical in
theorem need_mem {G : Gp} {xs : List Int} {x : Int} : x ∈ needL G xs ↔ und G x ∧ Reach G xs x := by
  unfold needL
  rw [pick_mem]
  constructor
  · rintro ⟨j, rfl, _, h⟩
    exact of_decide_eq_true h
  · intro h
    have hx := h.1.1
    have e : ((x.toNat : Nat) : Int) = x := by omega
    exact ⟨x.toNat, e.symm, by omega, by rw [e]; exact decide_eq_true h⟩
theorem need_pw (G : Gp) (xs : List Int) : (needL G xs).Pairwise (· < ·) := pick_pw _ _
/-- Between two rounds of Need. w: where it began; q: where the range did. -/
structure NdI (F : Nat → Prop) (w : World) (q g bl : Nat) (D : Gd) (ao : Option Addr) (m cc : Nat) (xs : List Int) (ys : List Int) (It : Nat → Prop) (A : World) : Prop where
  gr : GrAt F A g D
  row : LAt A ao m xs
  b0 : A.heap[bl + 1]? = some (.cells #[ptV g] 26 (0, 0))
  b1 : A.heap[bl + 2]? = some (.cells #[.slice ao m cc] 23 (0, 0))
  box : ∃ lv, A.heap[bl]? = some (.cells #[lv] 23 (0, 0)) ∧ A.ownsRow 0 3 1 lv ys.length (Iy ys) ∧ ∀ k, lv.ownBlock = some k → q + 2 ≤ k ∧ ¬ It k
  yu : ys.Nodup ∧ ∀ y ∈ ys, (D.ch y).isSome = true
  it : ∀ k, It k → q ≤ k
  sz : q ≤ A.heap.size
  bel : Below w.heap.size w A
theorem NdI.stay {F : Nat → Prop} {w : World} {q g bl : Nat} {D : Gd} {ao : Option Addr} {m cc : Nat} {xs ys : List Int} {It It' S : Nat → Prop} {A B : World} (hF : ∀ k, F k → k < w.heap.size) (hw : w.heap.size = bl) (hq : q = bl + 3) (hro : ∀ a, ao = some a → 0 < m → a.block < w.heap.size)
    (h : NdI F w q g bl D ao m cc xs ys It A) (hO : Only S A B) (hS : ∀ k, S k → It k ∨ k = q ∨ k = q + 1) (hI : ∀ k, It' k → It k ∨ A.heap.size ≤ k) : NdI F w q g bl D ao m cc xs ys It' B := by
  have hs := hO.size
  have hz := h.sz
  have hn : ∀ k, k < q → ¬ S k := fun k hk q' => by
    rcases hS k q' with e | e | e
    · have := h.it k e; omega
    · omega
    · omega
  refine ⟨h.gr.only hO (fun k hk _ => hn k (by have := hF k hk; omega)), lat_keep h.row (fun a e h0 => hO.block _ (by have := hro a e h0; have := h.sz; omega) (hn _ (by have := hro a e h0; omega))) hs, (hO.block _ (lt_of_block h.b0) (hn _ (by omega))).trans h.b0, (hO.block _ (lt_of_block h.b1) (hn _ (by omega))).trans h.b1, ?_, h.yu, fun k q' => ?_, by omega, h.bel.trans (hO.below h.bel.size (fun k q' => ?_))⟩
  · obtain ⟨lv, h1, h2, h3⟩ := h.box
    refine ⟨lv, (hO.block _ (lt_of_block h1) (hn _ (by omega))).trans h1, own_same h2 (fun k e => hO.block k (owns_lt h2 e) (fun s => ?_)), fun k e => ⟨(h3 k e).1, fun s => ?_⟩⟩
    · rcases hS k s with r | r | r
      · exact (h3 k e).2 r
      · have := (h3 k e).1; omega
      · have := (h3 k e).1; omega
    · rcases hI k s with r | r
      · exact (h3 k e).2 r
      · have := owns_lt h2 e; omega
  · rcases hI k q' with r | r
    · exact h.it k r
    · omega
  · rcases hS k q' with e | e | e
    · have := h.it k e; omega
    · omega
    · omega
theorem setL_nd {ys : List Int} (h : ys.Nodup) : (setL ys).length = ys.length := by
  have gen : ∀ (ys S : List Int), ys.Nodup → (∀ y ∈ ys, y ∉ S) → (ys.foldl (fun S x => insS x S) S).length = S.length + ys.length := by
    intro ys
    induction ys with
    | nil => intro S _ _; simp
    | cons y r ih =>
      intro S hn hd
      have hn' := List.nodup_cons.1 hn
      rw [List.foldl_cons, ih (insS y S) hn'.2 (fun z hz q => ?_), ins_length (hd y (by simp))]
      · simp; omega
      · rcases mem_ins.1 q with q | q
        · exact hn'.1 (q ▸ hz)
        · exact hd z (by simp [hz]) q
  have := gen ys [] h (fun _ _ q => by cases q)
  simpa [setL] using this
def NdT (D : Gd) (ys ys' : List Int) (v : Array Value) : Prop := ∃ i c, D.ch i = some c ∧ i ∉ ys ∧ ys' = ys ++ [i] ∧ v = #[ptV c.cb]
section
variable {F : Nat → Prop} {w : World} {g : Nat} {D : Gd} {G : Gp}
set_option maxRecDepth 100000 in
set_option maxHeartbeats 8000000 in
theorem need_any (h : GrAt F w g D) (hF : ∀ k, F k → k < w.heap.size) (hR : Rel G D.abs) (hGn : G.n ≤ 100000) (ao : Option Addr) (m cc : Nat) (xs : List Int) (hx : LAt w ao m xs) (hw : ∀ x ∈ xs, (Lit.int .i64 x).wf = true) (hm : m ≤ 100000) :
    Calls Try.prog 23 #[ptV g, .slice ao m cc] w fun e w' => ∃ v, e = .returned v ∧ w'.ownsRow w.heap.size 3 1 v (needL G xs).length (Iy (needL G xs)) ∧ Below w.heap.size w w' := by
  obtain ⟨bl, hbl⟩ : ∃ bl, bl = w.heap.size := ⟨_, rfl⟩
  obtain ⟨w5, hw5⟩ : ∃ w5, w5 = ((w.alloc (.cells #[.slice none 0 0] 23)).alloc (.cells #[ptV g] 26)).alloc (.cells #[.slice ao m cc] 23) := ⟨_, rfl⟩
  have hB : Below w.heap.size w w5 := by rw [hw5]; exact ((((Below.refl _ w).alloc (Nat.le_refl _) _).alloc (by simp) _).alloc (by simp; omega) _)
  have hs5 : w5.heap.size = bl + 3 := by rw [hw5, hbl]; simp
  have HI0 : Hid (NdI F w (bl + 3) g bl D ao m cc xs [] (fun _ => False) w5) := Hid.mk (by
    have e0 := blk_new w (.cells #[.slice none 0 0] 23)
    have e1 := blk_new (w.alloc (.cells #[.slice none 0 0] 23)) (.cells #[ptV g] 26)
    have e2 := blk_new ((w.alloc (.cells #[.slice none 0 0] 23)).alloc (.cells #[ptV g] 26)) (.cells #[.slice ao m cc] 23)
    simp only [World.size_alloc] at e1 e2
    refine ⟨h.grow hB, hx.next hB, ?_, by rw [hw5, hbl]; exact e2, ⟨.slice none 0 0, ?_, own_nil0 _ _, fun k e => by cases e⟩, ⟨List.nodup_nil, fun y hy => (by cases hy)⟩, fun _ q => q.elim, by omega, hB⟩
    · rw [hw5, hbl, Below.heap_alloc _ _ _ (by simp)]; exact e1
    · rw [hw5, hbl, Below.heap_alloc _ _ _ (by simp; omega), Below.heap_alloc _ _ _ (by simp)]; exact e0)
  have hro : ∀ a, ao = some a → 0 < m → a.block < w.heap.size := fun a e h0 => by
    obtain ⟨a', e', hl, _⟩ := hx.2 h0
    rw [e] at e'
    cases e'
    exact hl
  have HRO := Hid.mk hro
  have HST : Hid (∀ ys It It' A B S, NdI F w (bl + 3) g bl D ao m cc xs ys It A → Only S A B → (∀ k, S k → It k ∨ k = bl + 3 ∨ k = bl + 3 + 1) → (∀ k, It' k → It k ∨ A.heap.size ≤ k) → NdI F w (bl + 3) g bl D ao m cc xs ys It' B) := Hid.mk (fun ys It It' A B S q1 q2 q3 q4 => NdI.stay hF hbl.symm rfl hro q1 q2 q3 q4)
  have HF := Hid.mk hF
  have HR := Hid.mk hR
  have HW := Hid.mk hw
  have HM : Hid (m ≤ 100000 ∧ G.n ≤ 100000 ∧ w5.heap.size = bl + 3) := Hid.mk ⟨hm, hGn, hs5⟩
  have HBE := Hid.mk hbl
  have HW5 := Hid.mk hw5
  clear h hx hw hm hGn hR hF hbl hw5 hB hs5 hro
  refine (callsIn_wide (n := 6)).1 ?_
  refine callsIn_of_wp_marks Try.func23 rfl trivial ?_ rfl
  simp only [Try.ntmps23, List.size_toArray, List.length_cons, List.length_nil, Nat.reduceAdd, Nat.reduceSub, Array.replicate_succ, Array.replicate_zero, List.push_toArray, List.append_toArray, List.nil_append, List.cons_append]
  gi_wp2_with (first
    | (refine ⟨trivial, ?_⟩; gi_at_call 40; refine (callsIn_wide.2 (under_any _ g ao m cc)).mono ?_; rintro e w6 ⟨rfl, hw6⟩; rw [← HW5.out] at hw6; have hw6' := hw6.symm; clear hw6; subst hw6')
    | gi_in)
  rw [← HBE.out]
  have hsz := HM.out.2.2
  refine wpIn_range_own (σ := List Int) (gf := 53) (lb := #[ptV (bl + 2), ptV (bl + 1)]) rfl (enters_of Try.func53 (by kernel_rfl) rfl) (NdT D) (fun s s' v q => by obtain ⟨i, c, _, _, _, rfl⟩ := q; rfl) (UnEnd G xs) [] (NdI F w (bl + 3) g bl D ao m cc xs)
    (fun s It It' A B S q1 q2 q3 q4 => HST.out s It It' A B S q1 q2 (fun k q => by have := q3 k q; rw [hsz] at this; exact this) q4) HI0.out ?hit
    (fun v => { tmps := #[ptV g, .slice ao m cc, undef, undef, .slice none 0 0, .pointer (some ⟨bl, 0, none⟩), v.getD 0 undef, ptV g, .slice ao m cc, underV (bl + 1), v.getD 0 undef, undef, undef, undef, undef, undef, undef, undef, undef, undef, undef], defers := [] }) ?assign ?body ?done
  case hit =>
    intro l J W hJI hJS hg hs hY h0
    refine under1_in (F := F) 5 (by omega) l (bl + 1) g ao m cc xs HM.out.1 HW.out HR.out HM.out.2.1 J W (fun ys It A hJ => ?_) hJS (fun ys i c It A hJ hc hn => ?_) h0
    · have hA := hJI ys It A hJ
      refine ⟨by rw [blk_cell hA.b0]; rfl, by rw [blk_cell hA.b1]; rfl, hA.row, hA.gr, fun k hk hi => ?_⟩
      have := HF.out k hk
      have := hA.it k hi
      have := HBE.out
      omega
    · exact hY ys (ys ++ [i]) #[ptV c.cb] It A hJ ⟨i, c, hc, hn, rfl, rfl⟩
  case assign =>
    rintro l s s' v W K ⟨i, c, _, _, _, rfl⟩ hK
    gi_wp2
    exact hK
  case body =>
    rintro l s s' v It W ⟨i, c, hc, hni, rfl, rfl⟩ hN hit hW2
    obtain ⟨lv, hb, ho, hlb⟩ := hN.box
    have hci := (hN.gr.cellsC hc).1
    have hFc := hN.gr.own (.ch i) c.cb ⟨c, hc, rfl⟩
    have hcl := HF.out _ hFc.1
    have hbe := HBE.out
    have hlen : s.length ≤ 100000 := by
      have h1 := setL_nd hN.yu.1
      have h2 := rise_len (setL_pw s) (n := G.n) (fun y hy => by
        have h3 := hN.yu.2 y (setL_mem.1 hy)
        have h4 : (D.abs.ch y).isSome = true := by show ((D.ch y).map Cx.dat).isSome = true; rw [Option.isSome_map]; exact h3
        exact ((HR.out.h.ch y).1 h4).1)
      have := HM.out
      omega
    obtain ⟨lv', W6, ap, ow, on, lb⟩ := app_at W.drew lv s (own_same ho (fun _ _ => rfl)) (by omega) i
    have HAP := Hid.mk ap
    have hos := on.size
    have hsd : W.drew.heap.size = W.heap.size := rfl
    have hlvb : lv.ownBlock ≠ some bl := fun e => by have := (hlb bl e).1; omega
    have hlvc : lv.ownBlock ≠ some c.cb := fun e => by have := (hlb _ e).1; omega
    have hb6 : W6.heap[bl]? = some (.cells #[lv] 23 (0, 0)) := (on.block bl (lt_of_block hb) hlvb).trans hb
    have hsb : (W.drew.alloc (.cells #[.int .i64 i] 3)).heap[bl]? = some (.cells #[lv] 23 (0, 0)) := (Below.heap_alloc _ _ _ (lt_of_block hb)).trans hb
    have hc6 : W6.cell? ⟨c.cb, 0, none⟩ = some (.int .i64 i) := by rw [World.cell?_of_block (w := W.drew) (on.block _ hFc.2 hlvc)]; exact hci
    have hH : (fun V : World => V.cell? ⟨bl, 0, none⟩ = some lv ∧ V.cell? ⟨c.cb, 0, none⟩ = some (.int .i64 i)) W.drew := ⟨by rw [blk_cell (w := W.drew) hb]; rfl, hci⟩
    have HS5 : Hid ((fun V : World => V.cell? ⟨bl, 0, none⟩ = some lv ∧ V.cell? ⟨c.cb, 0, none⟩ = some (.int .i64 i)) (W.drew.alloc (.cells #[.int .i64 i] 3))) := Hid.mk ⟨by rw [blk_cell hsb]; rfl, by rw [World.cell?_of_block (w := W.drew) (Below.heap_alloc _ _ _ hFc.2)]; exact hci⟩
    have HS6 : Hid ((fun V : World => V.cell? ⟨bl, 0, none⟩ = some lv ∧ V.cell? ⟨c.cb, 0, none⟩ = some (.int .i64 i)) W6) := Hid.mk ⟨by rw [blk_cell hb6]; rfl, hc6⟩
    have HFZ : Hid (W6.frozen? ⟨bl, 0, none⟩ = false) := Hid.mk (blk_free hb6 0)
    have HLV : Hid (∃ ao n c, lv = .slice ao n c) := Hid.mk (by obtain ⟨a, c, e, _⟩ := owns_lat ho; exact ⟨a, _, c, e⟩)
    have HLV2 : Hid (∃ ao n c, lv' = .slice ao n c) := Hid.mk (by obtain ⟨a, c, e, _⟩ := owns_lat ow; exact ⟨a, _, c, e⟩)
    have HFI : Hid ((W6.setCell ⟨bl, 0, none⟩ lv').heap[bl + 3]? = W.heap[bl + 3]? ∧ (W6.setCell ⟨bl, 0, none⟩ lv').heap[bl + 3 + 1]? = W.heap[bl + 3 + 1]? ∧ (∀ k, It k → k < W.heap.size → (W6.setCell ⟨bl, 0, none⟩ lv').heap[k]? = W.heap[k]?) ∧ W.heap.size ≤ (W6.setCell ⟨bl, 0, none⟩ lv').heap.size ∧ NdI F w (bl + 3) g bl D ao m cc xs (s ++ [i]) (fun k => It k ∧ k < W.heap.size) (W6.setCell ⟨bl, 0, none⟩ lv')) := Hid.mk (by
      have hO : Only (fun k => k = bl ∨ lv.ownBlock = some k) W (W6.setCell ⟨bl, 0, none⟩ lv') := (show Only (fun k => k = bl ∨ lv.ownBlock = some k) W W6 from ⟨on.os, on.tape, on.output, on.size, fun k hk hn => on.block k hk (fun e => hn (.inr e))⟩).setCell (p := ⟨bl, 0, none⟩) (.inl (.inl rfl)) _
      have hos7 := hO.size
      have hnb : ∀ k, k < bl + 5 → k ≠ bl → ¬ (k = bl ∨ lv.ownBlock = some k) := fun k h1 h2 q => q.elim h2 (fun e => by have := (hlb k e).1; omega)
      have hlb' : ∀ k, lv'.ownBlock = some k → bl + 5 ≤ k ∧ ¬ (It k ∧ k < W.heap.size) := fun k e => by
        rcases lb k e with e | e
        · exact ⟨(hlb k e).1, fun q => (hlb k e).2 q.1⟩
        · exact ⟨by omega, fun q => by have := q.2; omega⟩
      refine ⟨hO.block _ (by omega) (hnb _ (by omega) (by omega)), hO.block _ (by omega) (hnb _ (by omega) (by omega)), fun k q hk => hO.block k hk (fun e => ?_), hos7, ?_⟩
      · rcases e with e | e
        · have := hN.it k q; omega
        · exact (hlb k e).2 q
      · refine ⟨hN.gr.only hO (fun k hk _ q => ?_), lat_keep hN.row (fun a e h0 => hO.block _ ?_ ?_) hos7, (hO.block _ (lt_of_block hN.b0) (hnb _ (by omega) (by omega))).trans hN.b0, (hO.block _ (lt_of_block hN.b1) (hnb _ (by omega) (by omega))).trans hN.b1, ⟨lv', ?_, own_same ow (fun k e => Below.heap_setCell _ _ _ _ (show k ≠ bl by have := (hlb' k e).1; omega)), hlb'⟩, ⟨List.nodup_append.2 ⟨hN.yu.1, by simp, fun a ha b hb' e => hni (by rw [← List.mem_singleton.1 hb', ← e]; exact ha)⟩, fun y hy => ?_⟩, fun k q => hN.it k q.1, by omega, hN.bel.trans (hO.below hN.bel.size (fun k q => ?_))⟩
        · have := HF.out k hk
          exact hnb k (by omega) (by omega) q
        · obtain ⟨a', e', hl, _⟩ := hN.row.2 h0
          rw [e] at e'
          cases e'
          exact hl
        · have := HRO.out a e h0
          exact hnb _ (by omega) (by omega)
        · rw [blk_set hb6]; rfl
        · rcases List.mem_append.1 hy with q | q
          · exact hN.yu.2 y q
          · rw [List.mem_singleton.1 q, hc]; rfl
        · rcases q with q | q
          · omega
          · have := (hlb k q).1; omega)
    generalize hcb : c.cb = cb at hH HS5 HS6
    clear hN hb ho hlb hci hFc hcl hbe hlen ap ow on lb hos hsd hlvb hlvc hb6 hsb hc6 hcb hc hni
    gi_wp2
    refine round_region_but 7 (fun V : World => V.cell? ⟨bl, 0, none⟩ = some lv ∧ V.cell? ⟨cb, 0, none⟩ = some (.int .i64 i)) (by kernel_rfl) (by kernel_rfl) hH (fun hH => ?_)
    change Butt Try.prog Region.Mode.any _ _ _ 7 8 _ _ _
    refine takeL 0 11 (lv) rfl (by kernel_rfl) (by kernel_rfl) (by kernel_rfl) (by kernel_rfl) (by kernel_rfl) (fun _ _ _ h => h) (by kernel_rfl) (fun w hw => exec_loadV (p := .tmp 5) (a := ⟨bl, 0, none⟩) (by kernel_rfl) (by kernel_rfl) HLV.out hw.1) hH ?_
    simp only [List.setIfInBounds_toArray, List.set_cons_zero, List.set_cons_succ]
    refine takeL 1 12 (ptV cb) rfl (by kernel_rfl) (by kernel_rfl) (by kernel_rfl) (by kernel_rfl) (by kernel_rfl) (fun _ _ _ h => h) (by kernel_rfl) (fun w hw => by kernel_rfl) hH ?_
    simp only [List.setIfInBounds_toArray, List.set_cons_zero, List.set_cons_succ]
    refine takeL 2 13 (.pointer (some ⟨cb, 0, none⟩)) rfl (by kernel_rfl) (by kernel_rfl) (by kernel_rfl) (by kernel_rfl) (by kernel_rfl) (fun _ _ _ h => h) (by kernel_rfl) (fun w hw => by go_simp) hH ?_
    simp only [List.setIfInBounds_toArray, List.set_cons_zero, List.set_cons_succ]
    refine takeL 3 14 (.pointer (some ⟨cb, 0, none⟩)) rfl (by kernel_rfl) (by kernel_rfl) (by kernel_rfl) (by kernel_rfl) (by kernel_rfl) (fun _ _ _ h => h) (by kernel_rfl) (fun w hw => by go_simp) hH ?_
    simp only [List.setIfInBounds_toArray, List.set_cons_zero, List.set_cons_succ]
    refine takeL 4 15 (.int .i64 i) rfl (by kernel_rfl) (by kernel_rfl) (by kernel_rfl) (by kernel_rfl) (by kernel_rfl) (fun _ _ _ h => h) (by kernel_rfl) (fun w hw => by (try dsimp only at hw); obtain ⟨hw1, hw2⟩ := hw; go_simp) hH ?_
    simp only [List.setIfInBounds_toArray, List.set_cons_zero, List.set_cons_succ]
    refine stepL_run 5 16 (.slice (some ⟨W.drew.heap.size, 0, none⟩) 1 1) (W.drew.alloc (.cells #[.int .i64 i] 3)) rfl (by kernel_rfl) (by kernel_rfl) (by kernel_rfl) (by go_simp) HS5.out ?_
    simp only [List.setIfInBounds_toArray, List.set_cons_zero, List.set_cons_succ]
    refine stepL_run 6 17 (lv') (W6) rfl (by kernel_rfl) (by kernel_rfl) (by kernel_rfl) (exec_append (s := .tmp 11) (x := .tmp 16) (by kernel_rfl) (by kernel_rfl) (by kernel_rfl) HAP.out) HS6.out ?_
    simp only [List.setIfInBounds_toArray, List.set_cons_zero, List.set_cons_succ]
    refine lastL (W6.setCell ⟨bl, 0, none⟩ lv') rfl (by kernel_rfl) (by kernel_rfl) (by kernel_rfl) (exec_storeV (p := .tmp 5) (x := .tmp 17) (a := ⟨bl, 0, none⟩) (by kernel_rfl) (by kernel_rfl) (by kernel_rfl) HLV2.out HS6.out.1 HFZ.out) (by kernel_rfl) ?_
    dsimp only [Norm]
    gi_wp2
    exact ⟨HFI.out.1, HFI.out.2.1, HFI.out.2.2.1, by have := HFI.out.2.2.2.1; simpa using this, HFI.out.2.2.2.2⟩
  case done =>
    rintro D9 ys It W9 hD9 hfin hN hKD
    subst hD9
    rw [hsz] at hKD ⊢
    obtain ⟨lv, hb, ho, hlb⟩ := hN.box
    obtain ⟨la, lc, rfl, _⟩ := owns_lat ho
    have hbe := HBE.out
    have hlen : ys.length ≤ 100000 := by
      have h1 := setL_nd hN.yu.1
      have h2 := rise_len (setL_pw ys) (n := G.n) (fun y hy => ((hfin.2 y).1 (setL_mem.1 hy)).1.1)
      have := HM.out
      omega
    have hkl := lt_of_block hKD
    have ho5 : W9.ownsRow (bl + 4) 3 1 (.slice la ys.length lc) ys.length (Iy ys) := by
      refine ⟨ho.1, ?_⟩
      rcases ho.2 with q | ⟨g', cap, cur, e, _, rest⟩
      · exact .inl q
      · exact .inr ⟨g', cap, cur, e, by have := (hlb g' (by rw [e]; rfl)).1; omega, rest⟩
    have hsort : ys.mergeSort (fun x y => decide (x ≤ y)) = needL G xs := perm_rise hfin.1 (need_pw G xs) (fun x => by rw [hfin.2 x, need_mem])
    have hnl : ys.length = (needL G xs).length := by rw [← hsort]; simp
    have HSORT := Hid.mk (sort_row W9 (bl + 4) (.slice la ys.length lc) ys ho5 (by omega) (by omega))
    rw [hsort] at HSORT
    have HEND : Hid (∀ W10, W10.ownsRow (bl + 4) 3 1 (.slice la ys.length lc) ys.length (Iy (needL G xs)) ∧ Below (bl + 4) W9 W10 → W10.cell? ⟨bl, 0, none⟩ = some (.slice la ys.length lc) ∧ W10.heap[bl + 3]? = some (.deferred (some [])) ∧ (W10.putObj (bl + 3) (.deferred none)).ownsRow w.heap.size 3 1 (.slice la ys.length lc) (needL G xs).length (Iy (needL G xs)) ∧ Below w.heap.size w (W10.putObj (bl + 3) (.deferred none))) := Hid.mk (fun W10 hq => by
      obtain ⟨q1, q2⟩ := hq
      have hgp := grownBy_putObj' W10 (bl + 3) (.deferred none)
      have t2 : Only (fun k => k = bl + 3) W10 (W10.putObj (bl + 3) (.deferred none)) := ⟨hgp.os, hgp.tape, hgp.output, hgp.size, fun j hj hs => hgp.block j hj (fun e => hs (by cases e; rfl))⟩
      have hs9 := q2.size
      refine ⟨by rw [blk_cell ((q2.block bl (by omega)).trans hb)]; rfl, (q2.block _ (by omega)).trans hKD, ?_, ?_⟩
      · rw [← hnl]
        refine own_same (owns_base q1 (by omega)) (fun k e => t2.block k (owns_lt q1 e) ?_)
        have : bl + 4 ≤ k := by
          rcases q1.2 with ⟨q, _⟩ | ⟨g', cap, cur, q, hg', _⟩
          · rw [q] at e; cases e
          · rw [q] at e; cases e; exact hg'
        omega
      · have hb9 : Below w.heap.size w W10 := hN.bel.trans (q2.mono (by omega))
        exact hb9.trans (t2.below hb9.size (fun k q => by omega)))
    have c9 : W9.cell? ⟨bl, 0, none⟩ = some (.slice la ys.length lc) := by rw [blk_cell hb]; rfl
    generalize ys.length = yl at c9 HSORT HEND
    clear hN hb ho hlb hKD hkl ho5 hsort hnl hlen hbe hfin
    gi_wp2_with (first
      | (refine ⟨trivial, ?_⟩; gi_at_call 39; refine (callsIn_wide.2 HSORT.out).mono ?_; rintro e W10 ⟨rfl, h10⟩; obtain ⟨d1, d2, d3⟩ := HEND.out W10 h10; have HKD := Hid.mk d2; have HF9 := Hid.mk d3; clear h10 d2 d3)
      | gi_in)
    refine ⟨by simp, .inl ⟨_, _, rfl, run_takeDeferred HKD.out, ?_⟩⟩
    exact ⟨_, results_tmp rfl _ _ _, .slice la yl lc, rfl, HF9.out⟩
end
end Go.Proofs.Ythmbhcmicebcpaa
