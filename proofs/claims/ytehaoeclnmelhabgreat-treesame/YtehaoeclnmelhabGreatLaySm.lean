/-
  TreeSame: the tree, and what its calls answer.
-/
import Derived.Test.YtehaoeclnmelhabGreatTrCl
import Derived.Test.YtehaoeclnmelhabGreatLayTop
import Derived.Test.YtehaoeclnmelhabGreatLayRn
import Derived.Test.YtehaoeclnmelhabGreatTrLink
import Derived.Test.YtehaoeclnmelhabGreatTrRdDo
import Derived.Test.YtehaoeclnmelhabGreatTrRmS
namespace Go.Proofs.YtehaoeclnmelhabGreat
open Go Go.Proofs Go.RowKit Go.Shelf Go.Sort

/-- A node that has grown with k calls. -/
def NdB (k : Nat) : Nd → Prop
  | .file _ _ p => p = []
  | .dir _ z s => 0 ≤ z ∧ z ≤ 1024 * ((k : Int) + 1) ∧ s.length ≤ 32 * (k + 1)
theorem NdB.ok {k : Nat} (hk : k ≤ 200) {x : Nd} (h : NdB k x) : x.Ok := by
  cases x with
  | file l z p =>
    obtain rfl : p = [] := h
    exact ⟨⟨List.Pairwise.nil, fun x h => (List.not_mem_nil h).elim⟩, by simp⟩
  | dir l z s => obtain ⟨h1, h2, h3⟩ := h; exact ⟨h1, by omega, by omega⟩
theorem NdB.up {k : Nat} {x : Nd} (h : NdB k x) : NdB (k + 1) x := by
  cases x with
  | file l z p => exact h
  | dir l z s => obtain ⟨h1, h2, h3⟩ := h; exact ⟨h1, by omega, by omega⟩
theorem NdB.add {k : Nat} (hk : k ≤ 200) {x : Nd} (h : NdB k x) (p : List UInt8) (j : Nat) : NdB (k + 1) (x.add p j) := by
  cases x with
  | file l z p => exact h
  | dir l z s =>
    obtain ⟨h1, h2, h3⟩ := h
    simp only [Nd.add]
    split
    · exact ⟨h1, by omega, by simp; omega⟩
    · have : w64 (z + 1024) = z + 1024 := by unfold w64 wrap64; omega
      rw [this]
      exact ⟨by omega, by omega, by simp; omega⟩
theorem NdB.more {k : Nat} {x : Nd} (h : NdB k x) (n : Int) : NdB k (x.more n) := by
  cases x <;> exact h
def smA : Slt := some (1, [111, 110, 101])
def smB : Slt := some (1, [116, 119, 111])
/-- The tree of TreeSame behind k calls. -/
structure SmOk (k : Nat) (σ : Tr) : Prop where
  all : ∀ x ∈ σ.nodes, NdB k x
  form : ∃ l z s R, σ.nodes = .dir l z (smA :: smB :: s) :: .file 2 0 [] :: R
theorem add_form (l z : Int) (s : List Slt) (p : List UInt8) (j : Nat) : ∃ z' s', (Nd.dir l z (smA :: smB :: s)).add p j = .dir l z' (smA :: smB :: s') := by
  have hf : freeAt (smA :: smB :: s) = freeAt s + 2 := by
    unfold freeAt
    rw [List.findIdx_cons, List.findIdx_cons]
    simp [smA, smB]
  simp only [Nd.add]
  rw [hf]
  split
  · exact ⟨z, s.set (freeAt s) (some (j, p)), by simp⟩
  · exact ⟨w64 (z + 1024), (s ++ List.replicate 32 none).set s.length (some (j, p)), by simp⟩
theorem sm_enterT {k : Nat} {σ : Tr} (h : SmOk k σ) (hk : k ≤ 200) (d : Nat) (p : List UInt8) (n : Nd) (hn : NdB 0 n) (hd : (nodeAt σ.nodes d).isDir = true) : SmOk (k + 1) (enterT σ d p n) := by
  have hn' : NdB (k + 1) n := by
    cases n with
    | file => exact hn
    | dir l z s => obtain ⟨h1, h2, h3⟩ := hn; exact ⟨h1, by omega, by omega⟩
  obtain ⟨l, z, s, R, hf⟩ := h.form
  refine ⟨fun x hx => ?_, ?_⟩
  · unfold enterT at hx
    obtain ⟨i, hi, e⟩ := List.getElem_of_mem hx
    have e2 : ((σ.nodes ++ [n]).modify d (fun x => if n.isDir = true then (x.add p σ.nodes.length).more 1 else x.add p σ.nodes.length))[i]? = some x := by rw [List.getElem?_eq_getElem hi, e]
    rw [List.getElem?_modify] at e2
    cases hy : (σ.nodes ++ [n])[i]? with
    | none => rw [hy] at e2; cases e2
    | some y =>
      rw [hy] at e2
      have hym := List.mem_of_getElem? hy
      simp at e2
      rcases List.mem_append.1 hym with hm | hm
      · have hb := h.all y hm
        split at e2
        · subst e2
          split
          · exact (hb.add hk _ _).more 1
          · exact hb.add hk _ _
        · subst e2; exact hb.up
      · obtain rfl : y = n := List.mem_singleton.1 hm
        split at e2
        · subst e2
          have hb : NdB (k + 1) (y.add p σ.nodes.length) := by
            cases y with
            | file => exact hn
            | dir l z s =>
              have := NdB.add (k := 0) (by omega) hn p σ.nodes.length
              generalize (Nd.dir l z s).add p σ.nodes.length = q at this
              cases q with
              | file => exact this
              | dir l z s => obtain ⟨h1, h2, h3⟩ := this; exact ⟨h1, by omega, by omega⟩
          split
          · exact hb.more 1
          · exact hb
        · subst e2; exact hn'
  · unfold enterT
    simp only
    rw [hf]
    match d with
    | 0 =>
      obtain ⟨z', s', e⟩ := add_form l z s p (Nd.dir l z (smA :: smB :: s) :: Nd.file 2 0 [] :: R).length
      simp only [List.cons_append, List.modify_zero_cons, e]
      split
      · exact ⟨_, _, _, _, rfl⟩
      · exact ⟨_, _, _, _, rfl⟩
    | 1 => rw [hf] at hd; exact Bool.noConfusion (show false = true from hd)
    | d + 2 => exact ⟨l, z, s, _, by simp only [List.cons_append, List.modify_succ_cons]; rfl⟩
theorem spot_dir {N : List Nd} {L : List (List UInt8)} {p : List UInt8} {e : Int} {sp : Sp} (h : spotE N L p = (e, some sp)) : (nodeAt N sp.dir).isDir = true := by
  unfold spotE at h
  split at h
  · split at h
    · next h2 => cases h; exact h2
    · cases h
  · cases h
theorem sm_enter {k : Nat} {σ : Tr} (h : SmOk k σ) (hk : k ≤ 200) (s : List UInt8) (n : Nd) (hn : NdB 0 n) : SmOk (k + 1) (enterS σ s n).2 := by
  have up : SmOk (k + 1) σ := ⟨fun x hx => (h.all x hx).up, h.form⟩
  unfold enterS
  split
  · exact up
  · split
    · exact up
    · split
      · next sp he =>
        split
        · simp only
          split
          · exact sm_enterT h hk _ _ n hn (spot_dir he)
          · exact up
        · exact up
      · exact up
def sm1 : Tr := (enterS (newT 1 1 60) [47, 111, 110, 101] newF).2
def smT : Tr := ⟨1, 1, 60, 2, 1, [.dir 2 1024 (smA :: smB :: List.replicate 28 none), .file 2 0 []]⟩
theorem sm1_is : enterS (newT 1 1 60) (ofS ⟨#[47, 111, 110, 101]⟩) newF = (0, sm1) := Prod.ext (by decide +kernel) rfl
theorem sm1_nodes : sm1.nodes = [.dir 2 1024 (smA :: List.replicate 29 none), .file 1 0 []] := by kernel_rfl
theorem sm2_is : linkT sm1 0 [116, 119, 111] 1 = smT := by kernel_rfl
theorem sm1_ok : ∀ x ∈ sm1.nodes, x.Ok := by
  rw [sm1_nodes]
  intro x hx
  simp only [List.mem_cons, List.not_mem_nil, or_false] at hx
  rcases hx with rfl | rfl
  · exact ⟨by omega, by omega, by simp⟩
  · exact ⟨⟨List.Pairwise.nil, fun x h => (List.not_mem_nil h).elim⟩, by simp⟩
theorem smT_ok : SmOk 0 smT := by
  refine ⟨fun x hx => ?_, ⟨2, 1024, _, [], rfl⟩⟩
  simp only [smT, List.mem_cons, List.not_mem_nil, or_false] at hx
  rcases hx with rfl | rfl
  · exact ⟨by omega, by omega, by simp⟩
  · rfl
theorem SmOk.ok {k : Nat} {σ : Tr} (h : SmOk k σ) (hk : k ≤ 200) : ∀ x ∈ σ.nodes, x.Ok := fun x hx => (h.all x hx).ok hk
theorem smA_look (s : List Slt) : lookS (smA :: smB :: s) [111, 110, 101] = some 1 := by
  unfold lookS nameAt
  rw [List.findIdx_cons]
  rfl
theorem smB_look (s : List Slt) : lookS (smA :: smB :: s) [116, 119, 111] = some 1 := by
  unfold lookS nameAt
  rw [List.findIdx_cons, List.findIdx_cons]
  rfl
theorem sm_rename {k : Nat} {σ : Tr} (h : SmOk k σ) : renameS σ (ofS ⟨#[47, 111, 110, 101]⟩) (ofS ⟨#[47, 116, 119, 111]⟩) = (0, σ) := by
  obtain ⟨l, z, s, R, hf⟩ := h.form
  have e1 : splitL (ofS ⟨#[47, 111, 110, 101]⟩) = some [[111, 110, 101]] := by decide
  have e2 : splitL (ofS ⟨#[47, 116, 119, 111]⟩) = some [[116, 119, 111]] := by decide
  have hn : nodeAt σ.nodes 0 = .dir l z (smA :: smB :: s) := by rw [hf]; rfl
  have hw : wayE σ.nodes 0 [] = (some 0, 0) := rfl
  have s1 : spotE σ.nodes [] [111, 110, 101] = (0, some ⟨0, [111, 110, 101], some 1⟩) := by
    unfold spotE
    rw [hw]
    simp only
    rw [hn]
    simp only [Nd.isDir, Nd.slots, if_true, smA_look]
  have s2 : spotE σ.nodes [] [116, 119, 111] = (0, some ⟨0, [116, 119, 111], some 1⟩) := by
    unfold spotE
    rw [hw]
    simp only
    rw [hn]
    simp only [Nd.isDir, Nd.slots, if_true, smB_look]
  have ow : onWay σ.nodes [] 1 = false := rfl
  have o1 : ontoE σ 1 1 = 0 := by unfold ontoE; rw [if_pos rfl]
  have o2 : ontoR σ 0 [111, 110, 101] 1 0 [116, 119, 111] 1 = σ := by unfold ontoR; rw [if_pos (.inl rfl)]
  unfold renameS
  rw [e1, e2]
  show (if ([[111, 110, 101]] : List (List UInt8)) = [] ∨ ([[116, 119, 111]] : List (List UInt8)) = [] then _ else _) = _
  rw [if_neg (by simp)]
  show (match spotE σ.nodes [] [111, 110, 101] with
      | (e, none) => (e, σ)
      | (_, some ⟨_, _, none⟩) => (10, σ)
      | (_, some ⟨d, p, some j⟩) => match spotE σ.nodes [] [116, 119, 111] with
        | (e, none) => (e, σ)
        | (_, some ⟨d2, q, o⟩) =>
          if onWay σ.nodes [] j = true then (19, σ)
          else match o with
            | none => (moveE σ d j d2, moveR σ d p j d2 q)
            | some j2 => (ontoE σ j j2, ontoR σ d p j d2 q j2)) = _
  rw [s1]
  simp only [s2, ow]
  simp [o1, o2]
theorem sm_node {k : Nat} {σ : Tr} (h : SmOk k σ) : nodeE σ.nodes (ofS ⟨#[47, 111, 110, 101]⟩) = (some 1, 0) := by
  obtain ⟨l, z, s, R, hf⟩ := h.form
  have e1 : splitL (ofS ⟨#[47, 111, 110, 101]⟩) = some [[111, 110, 101]] := by decide
  unfold nodeE
  rw [e1]
  simp only
  unfold wayE
  rw [hf]
  have : downS (Nd.dir l z (smA :: smB :: s) :: Nd.file 2 0 [] :: R) 0 [[111, 110, 101]] = (0, 1) := by
    rw [downS]
    show (match lookS (smA :: smB :: s) [111, 110, 101] with
      | some j => downS (Nd.dir l z (smA :: smB :: s) :: Nd.file 2 0 [] :: R) j []
      | none => (10, 0)) = (0, 1)
    rw [smA_look]
    rfl
  rw [this]
  rfl
theorem sm_stat {k : Nat} {σ : Tr} (h : SmOk k σ) : statV σ.nodes (ofS ⟨#[47, 111, 110, 101]⟩) = .agg #[.int .i64 0, .slice none 0 0, .int .i64 1, .int .i64 0, .int .i64 2, .slice none 0 0, .int .i64 0] := by
  obtain ⟨l, z, s, R, hf⟩ := h.form
  unfold statV
  rw [sm_node h]
  simp only
  have : nodeAt σ.nodes 1 = .file 2 0 [] := by rw [hf]; rfl
  rw [this]
  rfl
theorem own_list {w W : World} {t : Nat} {σ : Tr} {B : Nat → Prop} (hOw : OwnT w W t σ B) (hBl : ∀ k, B k → k < W.heap.size) (hkd : (nodeAt σ.nodes 0).isDir = true) (hsl : (nodeAt σ.nodes 0).slots.length ≤ 16777216) (L : List (List UInt8)) (hL : L = listL (nodeAt σ.nodes 0).slots) :
    Calls Tryz.prog 12 #[ptrV t, callV 11 ⟨#[47]⟩ ⟨#[]⟩ 0 0 (.slice none 0 0)] W fun e w' => ∃ ao c, e = .returned (.agg #[.int .i64 0, .slice none 0 0, .int .i64 0, .int .i64 0, .int .i64 0, .slice ao L.length c, .int .i64 0]) ∧ SAt w' ao L.length L ∧ L.length ≤ c ∧ c ≤ 9223372036854775807 ∧ OwnT w w' t σ (fun k => B k ∨ ∃ a, ao = some a ∧ 0 < L.length ∧ k = a.block) ∧ (∀ k, B k → w'.heap[k]? = W.heap[k]?) ∧ W.heap.size ≤ w'.heap.size ∧ (∀ a, ao = some a → W.heap.size ≤ a.block) := by
  subst hL
  obtain ⟨hO, Ls, hT, hf⟩ := hOw
  refine (do_list W t σ Ls ⟨#[47]⟩ ⟨#[]⟩ 0 0 none 0 0 0 0 0 0 0 (fun x y X => NamesQ (W.heap.size + 2) (listL (nodeAt σ.nodes 0).slots) x y X ∧ TrAt X t σ Ls) (fun k hk => hT.lt k hk) (fun x y W1 W2 hh ho => ?_) (Hid.mk (fun X hB hsz => (list_dir X t σ Ls (hT.below rfl hB) 11 ⟨#[47]⟩ ⟨#[]⟩ 0 0 none 0 0 (by decide) 0 rfl hkd hsl).mono (fun e w' hh => ?_)))).mono ?_
  · obtain ⟨⟨h1, ao, c, h2, h3, h4, h5, h6⟩, h7⟩ := hh
    refine ⟨⟨h1, ao, c, h2, h3.only ho (fun a ha _ e => by have := h4 a ha; omega), h4, h5, h6⟩, h7.kept (fun k hk => ho.block k (h7.lt k hk) (fun e => by have := hT.lt k hk; omega))⟩
  · obtain ⟨ao, n, c, h1, h2, h3, h4, h5, h6, h7⟩ := hh
    subst h2
    exact ⟨none, 0, 0, ao, _, c, h1, Step.still (hT.below rfl hB) (fun k hk => hk) h7, ⟨rfl, ao, c, rfl, h3, fun a ha => by have := h4 a ha; omega, h5, h6⟩, (hT.below rfl hB).below rfl h7⟩
  · rintro e w' ⟨a1, n1, c1, a5, n5, c5, rfl, hst, ⟨h1, ao, c, h2, h3, h4, h5, h6⟩, h7⟩
    cases h1; cases h2
    have hk : ∀ k, k < W.heap.size → k ∉ feet t Ls → w'.heap[k]? = W.heap[k]? := fun k h1 h2 => hst.only.block k h1 h2
    have hB : ∀ k, B k → k ∉ feet t Ls := fun k h1 h2 => (hf k h2).2 h1
    refine ⟨_, _, rfl, h3, h5, h6, ⟨?_, Ls, h7, fun k hkf => ⟨(hf k hkf).1, ?_⟩⟩, fun k e => hk k (hBl k e) (hB k e), hst.only.size, fun a ha => by have := h4 a ha; omega⟩
    · exact ((Only.of_below (S := fun _ => False) hO (fun k h1 h2 => by omega)).trans hst.only (fun i hi => .inr (hf i hi).1)).below (Nat.le_refl _) (fun _ h => h.elim)
    · rintro (e | ⟨a, ha, -, e⟩)
      · exact (hf k hkf).2 e
      · have := h4 a ha; have := hT.lt k hkf; omega
end Go.Proofs.YtehaoeclnmelhabGreat
namespace Go.Proofs.YtehaoeclnmelhabGreat
open Go Go.Proofs Go.RowKit Go.Shelf Go.Sort

theorem SAt.kept {W W' : World} {ao : Option Addr} {n : Nat} {L : List (List UInt8)} (h : SAt W ao n L) (hs : W.heap.size ≤ W'.heap.size) (hk : ∀ a, ao = some a → 0 < n → W'.heap[a.block]? = W.heap[a.block]?) : SAt W' ao n L := by
  refine ⟨h.1, fun hn => ?_⟩
  obtain ⟨a, ea, hlt, hc⟩ := h.2 hn
  refine ⟨a, ea, Nat.lt_of_lt_of_le hlt hs, fun k hk2 => ?_⟩
  exact (World.cell?_of_block (w := W) (w' := W') (a := a.add k) (by rw [add_block]; exact hk a ea hn)).trans (hc k hk2)
theorem wpList_it {P : Program} {w : World} {ops : Array Oper} {l : List Oper} {a : Act} {Q : Exit → Act → World → Prop} (h : wpList P ops Q l a w) : wpList P ops Q l a w := h
set_option maxRecDepth 100000 in
set_option maxHeartbeats 4000000 in
theorem samer_yes (w : World) (e k z l n : Int) (da db : Option Addr) (dn dc dd : Nat) (xs : List Int) (hA : BAt w da dn xs) (hB : BAt w db dn xs) (na nb : Option Addr) (nn nc nd : Nat) (L : List (List UInt8)) (hN : SAt w na nn L) (hM : SAt w nb nn L) (hnn : nn ≤ 9223372036854775807) :
    Calls Tryz.prog 20 #[.agg #[.int .i64 e, .slice da dn dc, .int .i64 k, .int .i64 z, .int .i64 l, .slice na nn nc, .int .i64 n], .agg #[.int .i64 e, .slice db dn dd, .int .i64 k, .int .i64 z, .int .i64 l, .slice nb nn nd, .int .i64 n]] w fun x w' => x = .returned (.bool true) ∧ Below w.heap.size w w' := by
  obtain ⟨ST, hST⟩ : ∃ ST, ST = strOfNums xs := ⟨_, rfl⟩
  have HC : Hid (∀ W, Below w.heap.size w W → (convert 29 9 (.slice da dn dc)).run Tryz.prog W = .ok (.string ST) W ∧ (convert 29 9 (.slice db dn dd)).run Tryz.prog W = .ok (.string ST) W) := Hid.mk (fun W hW => by
    rw [hST]
    exact ⟨conv_bytes W da dn dc xs (hA.only (Only.of_new (fun _ => False) hW) (fun _ _ _ h => h)), conv_bytes W db dn dd xs (hB.only (Only.of_new (fun _ => False) hW) (fun _ _ _ h => h))⟩)
  have HS : Hid (∀ W, Below w.heap.size w W → SAt W na nn L ∧ SAt W nb nn L) := Hid.mk (fun W hW => ⟨hN.only (Only.of_new (fun _ => False) hW) (fun _ _ _ h => h), hM.only (Only.of_new (fun _ => False) hW) (fun _ _ _ h => h)⟩)
  have HNN := Hid.mk hnn
  clear hA hB hN hM hST hnn
  go_enter Tryz.func20, Tryz.ntmps20
  go_upto_region 1 with fail
  obtain ⟨X, hX⟩ : ∃ X, X = (w.alloc (.cells #[.int .i64 e, .slice da dn dc, .int .i64 k, .int .i64 z, .int .i64 l, .slice na nn nc, .int .i64 n] 32)).alloc (.cells #[.int .i64 e, .slice db dn dd, .int .i64 k, .int .i64 z, .int .i64 l, .slice nb nn nd, .int .i64 n] 32) := ⟨_, rfl⟩
  have hXB : Below w.heap.size w X := by rw [hX]; exact ((Below.refl _ w).alloc (Nat.le_refl _) _).alloc (by simp) _
  have hX0 : X.heap[w.heap.size]? = some (.cells #[.int .i64 e, .slice da dn dc, .int .i64 k, .int .i64 z, .int .i64 l, .slice na nn nc, .int .i64 n] 32 (0, 0)) := by rw [hX, Below.heap_alloc _ _ _ (by simp)]; exact blk_new w _
  have hX1 : X.heap[w.heap.size + 1]? = some (.cells #[.int .i64 e, .slice db dn dd, .int .i64 k, .int .i64 z, .int .i64 l, .slice nb nn nd, .int .i64 n] 32 (0, 0)) := by
    rw [hX]
    have := blk_new (w.alloc (.cells #[.int .i64 e, .slice da dn dc, .int .i64 k, .int .i64 z, .int .i64 l, .slice na nn nc, .int .i64 n] 32)) (.cells #[.int .i64 e, .slice db dn dd, .int .i64 k, .int .i64 z, .int .i64 l, .slice nb nn nd, .int .i64 n] 32)
    rwa [World.size_alloc] at this
  rw [← hX]
  clear hX
  have a0 := blk_cell hX0 0
  have b0 := blk_cell hX1 0
  have a1 := blk_cell hX0 1
  have b1 := blk_cell hX1 1
  have a2 := blk_cell hX0 2
  have b2 := blk_cell hX1 2
  have a3 := blk_cell hX0 3
  have b3 := blk_cell hX1 3
  have a4 := blk_cell hX0 4
  have b4 := blk_cell hX1 4
  have a5 := blk_cell hX0 5
  have b5 := blk_cell hX1 5
  have a6 := blk_cell hX0 6
  have b6 := blk_cell hX1 6
  simp at a0 b0 a1 b1 a2 b2 a3 b3 a4 b4 a5 b5 a6 b6
  have HXB := Hid.mk hXB
  have HX0 := Hid.mk hX0
  have HX1 := Hid.mk hX1
  have HC1 := Hid.mk (HC.out X hXB).1
  have HC2 := Hid.mk (HC.out X hXB).2
  clear hXB hX0 hX1 HC
  go_upto_region 4 with (first
    | (with_reducible refine wpList_it ?_; refine wpList_knownR (by kernel_rfl) (.string ST) _ (exec_convert (x := .tmp 13) rfl (by kernel_rfl) HC1.out) ?_; simp only [Act.put, List.setIfInBounds_toArray, List.set_cons_zero, List.set_cons_succ])
    | (with_reducible refine wpList_it ?_; refine wpList_knownR (by kernel_rfl) (.string ST) _ (exec_convert (x := .tmp 16) rfl (by kernel_rfl) HC2.out) ?_; simp only [Act.put, List.setIfInBounds_toArray, List.set_cons_zero, List.set_cons_succ]))
  go_wp2_with fail
  go_loopw [5] (fun i wr => ∃ j : Nat, i = .int .i64 j ∧ Hid (Below X.heap.size X wr ∧ j ≤ nn)) (fun i _ => nn - (intOf i).toNat)
  case atStart => exact ⟨0, rfl, Hid.mk ⟨Below.refl _ _, Nat.zero_le _⟩⟩
  case round =>
    obtain ⟨j, rfl, HK⟩ := hrel
    clear HC1 HC2 a0 b0 a1 b1 a2 b2 a3 b3 a4 b4 a5 b5 a6 b6
    have hq0 := (HK.out.1.block _ (lt_of_block HX0.out)).trans HX0.out
    have hq1 := (HK.out.1.block _ (lt_of_block HX1.out)).trans HX1.out
    have a5 := blk_cell hq0 5
    have b5 := blk_cell hq1 5
    simp at a5 b5
    have HBW : Hid (Below w.heap.size w wr) := Hid.mk (HXB.out.trans (HK.out.1.mono HXB.out.size))
    clear hq0 hq1
    by_cases hlt : (j : Int) < (nn : Int)
    · have hj : j < nn := by omega
      have hw1 : IntKind.i64.wrap ((j : Int) + 1) = ((j + 1 : Nat) : Int) := by rw [IntKind.wrap_i64]; have := HNN.out; omega
      obtain ⟨s1, s2⟩ := HS.out wr HBW.out
      obtain ⟨aa, rfl, hl1, c1⟩ := s1.2 (by omega)
      obtain ⟨ab, rfl, hl2, c2⟩ := s2.2 (by omega)
      have c1 := c1 j hj
      have c2 := c2 j hj
      unfold strV at c1 c2
      generalize mkS (L.getD j []) = sj at *
      have HJ := Hid.mk hj
      have HKB := Hid.mk HK.out.1
      clear s1 s2 hl1 hl2 hj HK
      go_wp2_with fail
      go_region
      go_wp2_with fail
      go_roundw
      case rel => exact ⟨j + 1, rfl, Hid.mk ⟨HKB.out.drew, HJ.out⟩⟩
      case measure => have := HJ.out; simp [intOf]; omega
    · go_wp2_with fail
      go_ret
      exact ⟨rfl, HBW.out⟩
end Go.Proofs.YtehaoeclnmelhabGreat
namespace Go.Proofs.YtehaoeclnmelhabGreat
open Go Go.Proofs Go.RowKit Go.Shelf Go.Sort

theorem sm1_links : (nodeAt sm1.nodes 1).links < 32000 := by
  have h : (nodeAt sm1.nodes 1).links = 1 := by kernel_rfl
  omega
theorem sm_dir {k : Nat} {σ : Tr} (h : SmOk k σ) (hk : k ≤ 200) : (nodeAt σ.nodes 0).isDir = true ∧ (nodeAt σ.nodes 0).slots.length ≤ 16777216 := by
  obtain ⟨l, z, s, R, hf⟩ := h.form
  have hn : nodeAt σ.nodes 0 = .dir l z (smA :: smB :: s) := by rw [hf]; rfl
  have := h.all (.dir l z (smA :: smB :: s)) (by rw [hf]; simp)
  rw [hn]
  exact ⟨rfl, by have := this.2.2; show (smA :: smB :: s).length ≤ _; omega⟩
set_option maxRecDepth 100000 in
set_option maxHeartbeats 4000000 in
theorem same_law (w : World) (ao : Option Addr) (n cc : Nat) (V : Nat → ClV) (hV : ClAt w ao n V) (hn : n ≤ 9223372036854775807) : Calls Tryz.prog 7 #[.slice ao n cc] w fun e w' => e = .returned (.bool true) ∧ Below w.heap.size w w' := by
  have HA := Hid.mk (alive_any w)
  have HV := Hid.mk hV
  have HN := Hid.mk hn
  have HBIG : Hid (∀ W, Below w.heap.size w W → _) := Hid.mk (fun W (hB : Below w.heap.size w W) => big_any W ao n cc V (fun h0 => by
    obtain ⟨ab, o, e, hl, hc⟩ := hV h0
    refine ⟨ab, o, e, Nat.lt_of_lt_of_le hl hB.size, fun j hj => ?_⟩
    obtain ⟨ab', o', e', hl', h1, h2, h3⟩ := cl_at hV hB hj
    rw [e] at e'
    cases e'
    exact ⟨h1, h2, h3⟩) hn)
  clear hV hn
  go_enter Tryz.func7, Tryz.ntmps7
  go_upto_region 3 with (first
    | (go_at_call 9; refine HA.out.mono ?_; rintro e W0 ⟨rfl, hw⟩; have HB := Hid.mk hw; clear hw)
    | (go_at_call 19; refine (HBIG.out _ HB.out).mono ?_; rintro e W1 ⟨⟨b, rfl, hb⟩, hB1⟩; have HBB := Hid.mk (HB.out.trans (hB1.mono HB.out.size)); have HBT := Hid.mk hb; clear hB1 hb HB HA HBIG))
  cases b with
  | true =>
    go_wp2_with fail
    go_ret
    exact ⟨rfl, HBB.out⟩
  | false =>
    have HBF := Hid.mk (HBT.out rfl)
    clear HBT
    go_upto_region 6 with (first
      | (go_at_call 11; refine (lG_any _ _).mono ?_; rintro e W2 ⟨rfl, hB1⟩; have B1 := Hid.mk (HBB.out.trans (hB1.mono HBB.out.size)); clear hB1)
      | (go_at_call 10; refine (new_any _ 1 1 60).mono ?_; rintro e W3 ⟨rfl, hT2, hB2⟩; have O : Hid (OwnT w W3 (W2.heap.size + 4) (newT 1 1 60) (fun _ => False)) := Hid.mk ⟨B1.out.trans (hB2.mono B1.out.size), _, hT2, fun k hk => ⟨by simp [feet, Lay.foot] at hk; have := B1.out.size; omega, fun h => h⟩⟩; unfold ptrV; clear hT2 hB2))
    generalize W2.heap.size + 4 = t at *
    clear HBB B1
    go_upto_region 7 with (first
      | (go_at_call 13; refine (lC_any _ _ _).mono ?_; rintro e W4 ⟨rfl, hB3⟩; have O1 := Hid.mk (O.out.then hB3); unfold callV; clear hB3 O)
      | (go_at_call 12; refine (own_do (σ' := sm1) O1.out (fun k h => h.elim) (fun Ls hT => by have := doo_create _ t _ Ls hT (new_ok _ _ _) ⟨#[47, 111, 110, 101]⟩ ⟨#[]⟩ 0 0 none 0 0 (by decide); rw [sm1_is] at this; exact this)).mono ?_; rintro e W5 ⟨rfl, hO, -, -⟩; have O := Hid.mk hO; unfold errV; clear hO O1))
    go_upto_region 8 with (first
      | (go_at_call 17; refine (lTo_any _ _ _ _).mono ?_; rintro e W4 ⟨rfl, hB3⟩; have O1 := Hid.mk (O.out.then hB3); unfold callV; clear hB3 O)
      | (go_at_call 12; refine (own_do (σ' := smT) O1.out (fun k h => h.elim) (fun Ls hT => by have := doo_link _ t _ Ls hT sm1_ok ⟨#[47, 111, 110, 101]⟩ ⟨#[47, 116, 119, 111]⟩ 0 0 none 0 0 (by decide) (by decide) [[111, 110, 101]] [] [116, 119, 111] (by decide) (by decide) 1 0 (by kernel_rfl) (by kernel_rfl) (by kernel_rfl) sm1_links (by kernel_rfl); rw [sm2_is] at this; exact this)).mono ?_; rintro e W5 ⟨rfl, hO, -, -⟩; have O := Hid.mk hO; unfold errV; clear hO O1))
    go_wp2_with fail
    go_loopw [6] (fun i wr => ∃ (k : Nat) (σ : Tr), k ≤ n ∧ i = .int .i64 k ∧ OwnT w wr t σ (fun _ => False) ∧ SmOk k σ) (fun i _ => n - (intOf i).toNat)
    case atStart => exact ⟨0, smT, by omega, rfl, O.out, smT_ok⟩
    case round =>
      obtain ⟨k, σ, hk, rfl, hO, hS⟩ := hrel
      have O := Hid.mk hO
      have HS := Hid.mk hS
      have HK := Hid.mk hk
      clear hO hS hk
      by_cases hlt : (k : Int) < (n : Int)
      · have hk : k < n := by omega
        have hw1 : IntKind.i64.wrap ((k : Int) + 1) = (k : Int) + 1 := by rw [IntKind.wrap_i64]; have := HBF.out.1; omega
        obtain ⟨ab, o, rfl, hab, ⟨x0, x1, x2, x3, x4, x5⟩, -, hwf⟩ := cl_at HV.out O.out.below hk
        have hbg := HBF.out.2 k hk
        have hps : (V k).p.size ≤ 16777216 := by
          unfold ClV.big at hbg
          cases h : decide (1000 < (V k).p.size) with
          | true => rw [h] at hbg; simp at hbg
          | false => have := of_decide_eq_false h; omega
        have HPS := Hid.mk hps
        have HKL := Hid.mk (And.intro hk HBF.out.1)
        clear hbg hps hwf hk hab
        generalize (V k).kd = vk at *
        generalize (V k).p = vp at *
        generalize (V k).q = vq at *
        generalize (V k).off = vo at *
        generalize (V k).n = vn at *
        generalize (V k).ao = va at *
        generalize (V k).m = vm at *
        generalize (V k).cc = vc at *
        by_cases h1 : vk = 1
        · subst h1
          go_wp2_with (go_at_call 12; refine (own_do (σ' := (enterS σ (ofS vp) newF).2) O.out (fun k h => h.elim) (fun Ls hT => doo_create _ t σ Ls hT (HS.out.ok (by have := HKL.out; omega)) vp vq vo vn va vm vc HPS.out)).mono ?_; rintro e W5 ⟨rfl, hO, -, -⟩; have O2 := Hid.mk hO; unfold errV; clear hO)
          go_roundw
          case rel => exact ⟨k + 1, _, by have := HKL.out; omega, by go_num, O2.out, sm_enter HS.out (by have := HKL.out; omega) _ _ rfl⟩
          case measure => have := HKL.out; simp [intOf]; omega
        · by_cases h2 : vk = 2
          · subst h2
            go_wp2_with (go_at_call 12; refine (own_do (σ' := (enterS σ (ofS vp) newD).2) O.out (fun k h => h.elim) (fun Ls hT => doo_mkdir _ t σ Ls hT (HS.out.ok (by have := HKL.out; omega)) vp vq vo vn va vm vc HPS.out)).mono ?_; rintro e W5 ⟨rfl, hO, -, -⟩; have O2 := Hid.mk hO; unfold errV; clear hO)
            go_roundw
            case rel => exact ⟨k + 1, _, by have := HKL.out; omega, by go_num, O2.out, sm_enter HS.out (by have := HKL.out; omega) _ _ ⟨by omega, by omega, by simp⟩⟩
            case measure => have := HKL.out; simp [intOf]; omega
          · have h1b : (vk == 1) = false := by simp [h1]
            have h2b : (vk == 2) = false := by simp [h2]
            go_wp2_with fail
            go_roundw
            case rel => exact ⟨k + 1, σ, by have := HKL.out; omega, by go_num, O.out, ⟨fun x hx => (HS.out.all x hx).up, HS.out.form⟩⟩
            case measure => have := HKL.out; simp [intOf]; omega
      · have hkn : k ≤ 150 := by have := HK.out; have := HBF.out.1; omega
        have hdd := sm_dir HS.out (by omega)
        obtain ⟨L, hL⟩ : ∃ L, L = listL (nodeAt σ.nodes 0).slots := ⟨_, rfl⟩
        have HD := Hid.mk hdd
        have HL := Hid.mk hL
        have HKN := Hid.mk hkn
        have HLL : Hid (L.length ≤ 16777216) := Hid.mk (by
          rw [hL]
          exact Nat.le_trans (by unfold listL; exact List.length_filterMap_le _ _) hdd.2)
        clear hdd hL hkn HV HBF HK
        go_upto_region 14 with (first
          | (go_at_call 13; refine (lC_any _ _ _).mono ?_; rintro e W4 ⟨rfl, hB3⟩; have O1 := Hid.mk (O.out.then hB3); unfold callV; clear hB3 O)
          | (go_at_call 12; refine (own_list O1.out (fun k h => h.elim) HD.out.1 HD.out.2 L HL.out).mono ?_; rintro e W5 ⟨ao1, e1, rfl, hS1, -, -, hO, -, -, -⟩; have S1 := Hid.mk hS1; have O2 := Hid.mk hO; clear hO hS1 O1))
        obtain ⟨Y5, hY5⟩ : ∃ Y, Y = W5.alloc (.cells #[.int .i64 0, .slice none 0 0, .int .i64 0, .int .i64 0, .int .i64 0, .slice ao1 L.length e1, .int .i64 0] 32) := ⟨_, rfl⟩
        have Q5 : Hid (Y5.heap[W5.heap.size]? = some (.cells #[.int .i64 0, .slice none 0 0, .int .i64 0, .int .i64 0, .int .i64 0, .slice ao1 L.length e1, .int .i64 0] 32 (0, 0))) := Hid.mk (by rw [hY5]; exact blk_new W5 _)
        have S1b : Hid (SAt Y5 ao1 L.length L) := Hid.mk (by rw [hY5]; exact S1.out.kept (by simp) (fun a ha h0 => by obtain ⟨a', ea, hlt2, _⟩ := S1.out.2 h0; rw [ha] at ea; cases ea; exact Below.heap_alloc _ _ _ hlt2))
        have O3 : Hid (OwnT w Y5 t σ (fun k => k = W5.heap.size ∨ ∃ a, ao1 = some a ∧ 0 < L.length ∧ k = a.block)) := Hid.mk (by rw [hY5]; exact (O2.out.box (.cells #[.int .i64 0, .slice none 0 0, .int .i64 0, .int .i64 0, .int .i64 0, .slice ao1 L.length e1, .int .i64 0] 32)).less (fun k h => by rcases h with h | h; exact .inr h; exact .inl (.inr h)))
        have LT3 : Hid (∀ k, (k = W5.heap.size ∨ ∃ a, ao1 = some a ∧ 0 < L.length ∧ k = a.block) → k < Y5.heap.size) := Hid.mk (fun k h => by
          rcases h with h | ⟨a, ha, h0, h⟩
          · rw [h]; exact lt_of_block Q5.out
          · obtain ⟨a', ea, hlt2, _⟩ := S1b.out.2 h0
            rw [ha] at ea
            cases ea
            rw [h]; exact hlt2)
        rw [← hY5]
        generalize W5.heap.size = b7 at *
        clear hY5 O2 S1
        go_upto_region 15 with (first
          | (go_at_call 17; refine (lTo_any _ _ _ _).mono ?_; rintro e W6 ⟨rfl, hB3⟩; have O4 := Hid.mk (O3.out.then hB3); have K4 := Hid.mk hB3; unfold callV; clear hB3 O3)
          | (go_at_call 12; refine (own_do (σ' := σ) O4.out (fun k h => Nat.lt_of_lt_of_le (LT3.out k h) K4.out.size) (fun Ls hT => by have := doo_rename _ t σ Ls hT (HS.out.ok (by have := HKN.out; omega)) ⟨#[47, 111, 110, 101]⟩ ⟨#[47, 116, 119, 111]⟩ 0 0 none 0 0 (by decide) (by decide); rw [sm_rename HS.out] at this; exact this)).mono ?_; rintro e W7 ⟨rfl, hO, hkp, hsz⟩; have O5 := Hid.mk hO; have K5 := Hid.mk (fun k hk => (hkp k hk).trans (K4.out.block k (LT3.out k hk))); have Z5 := Hid.mk (Nat.le_trans K4.out.size hsz); unfold errV; clear hO hkp hsz O4 K4))
        obtain ⟨Y7, hY7⟩ : ∃ Y, Y = W7.alloc (.cells #[.int .i64 0, .slice none 0 0, .int .i64 0, .int .i64 0, .int .i64 0, .slice none 0 0, .int .i64 0] 32) := ⟨_, rfl⟩
        have Q7 : Hid (Y7.heap[W7.heap.size]? = some (.cells #[.int .i64 0, .slice none 0 0, .int .i64 0, .int .i64 0, .int .i64 0, .slice none 0 0, .int .i64 0] 32 (0, 0))) := Hid.mk (by rw [hY7]; exact blk_new W7 _)
        have K7 : Hid (∀ k, (k = b7 ∨ ∃ a, ao1 = some a ∧ 0 < L.length ∧ k = a.block) → Y7.heap[k]? = Y5.heap[k]?) := Hid.mk (fun k hk => by rw [hY7]; exact (Below.heap_alloc _ _ _ (Nat.lt_of_lt_of_le (LT3.out k hk) Z5.out)).trans (K5.out k hk))
        have Z7 : Hid (Y5.heap.size ≤ Y7.heap.size) := Hid.mk (by rw [hY7]; simp; have := Z5.out; omega)
        have O6 : Hid (OwnT w Y7 t σ (fun k => (k = b7 ∨ ∃ a, ao1 = some a ∧ 0 < L.length ∧ k = a.block) ∨ k = W7.heap.size)) := Hid.mk (by rw [hY7]; exact O5.out.box (.cells #[.int .i64 0, .slice none 0 0, .int .i64 0, .int .i64 0, .int .i64 0, .slice none 0 0, .int .i64 0] 32))
        rw [← hY7]
        generalize W7.heap.size = b8 at *
        have Q5b := Hid.mk ((K7.out b7 (.inl rfl)).trans Q5.out)
        have S7 := Hid.mk (S1b.out.kept Z7.out (fun a ha h0 => K7.out _ (.inr ⟨a, ha, h0, rfl⟩)))
        have LT7 : Hid (∀ k, ((k = b7 ∨ ∃ a, ao1 = some a ∧ 0 < L.length ∧ k = a.block) ∨ k = b8) → k < Y7.heap.size) := Hid.mk (fun k h => by
          rcases h with h | h
          · exact Nat.lt_of_lt_of_le (LT3.out k h) Z7.out
          · rw [h]; exact lt_of_block Q7.out)
        clear hY7 O5 K5 Z5 K7 Z7 Q5 S1b LT3
        obtain ⟨B, hBd⟩ : ∃ B : Nat → Prop, B = (fun k => (k = b7 ∨ ∃ a, ao1 = some a ∧ 0 < L.length ∧ k = a.block) ∨ k = b8) := ⟨_, rfl⟩
        have M7 : Hid (B b7) := Hid.mk (by rw [hBd]; exact .inl (.inl rfl))
        have M8 : Hid (B b8) := Hid.mk (by rw [hBd]; exact .inr rfl)
        have MS : Hid (∀ a, ao1 = some a → 0 < L.length → B a.block) := Hid.mk (fun a ha h0 => by rw [hBd]; exact .inl (.inr ⟨a, ha, h0, rfl⟩))
        rw [← hBd] at O6
        have LT7 : Hid (∀ k, B k → k < Y7.heap.size) := Hid.mk (by rw [hBd]; exact LT7.out)
        clear hBd
        go_upto_region 16 with (first
          | (go_at_call 13; refine (lC_any _ _ _).mono ?_; rintro e W8 ⟨rfl, hB3⟩; have O7 := Hid.mk (O6.out.then hB3); have K8 := Hid.mk hB3; unfold callV; clear hB3 O6)
          | (go_at_call 12; refine (own_list O7.out (fun k h => Nat.lt_of_lt_of_le (LT7.out k h) K8.out.size) HD.out.1 HD.out.2 L HL.out).mono ?_; rintro e W9 ⟨ao2, e2, rfl, hS1, -, -, hO, hkp, hsz, -⟩; have S2 := Hid.mk hS1; have O8 := Hid.mk hO; have K9 := Hid.mk (fun k hk => (hkp k hk).trans (K8.out.block k (LT7.out k hk))); have Z9 := Hid.mk (Nat.le_trans K8.out.size hsz); clear hO hS1 hkp hsz O7 K8))
        obtain ⟨Y9, hY9⟩ : ∃ Y, Y = W9.alloc (.cells #[.int .i64 0, .slice none 0 0, .int .i64 0, .int .i64 0, .int .i64 0, .slice ao2 L.length e2, .int .i64 0] 32) := ⟨_, rfl⟩
        have Q9 : Hid (Y9.heap[W9.heap.size]? = some (.cells #[.int .i64 0, .slice none 0 0, .int .i64 0, .int .i64 0, .int .i64 0, .slice ao2 L.length e2, .int .i64 0] 32 (0, 0))) := Hid.mk (by rw [hY9]; exact blk_new W9 _)
        have K10 : Hid (∀ k, B k → Y9.heap[k]? = Y7.heap[k]?) := Hid.mk (fun k hk => by rw [hY9]; exact (Below.heap_alloc _ _ _ (Nat.lt_of_lt_of_le (LT7.out k hk) Z9.out)).trans (K9.out k hk))
        have Z10 : Hid (Y7.heap.size ≤ Y9.heap.size) := Hid.mk (by rw [hY9]; simp; have := Z9.out; omega)
        have S9 : Hid (SAt Y9 ao2 L.length L) := Hid.mk (by rw [hY9]; exact S2.out.kept (by simp) (fun a ha h0 => by obtain ⟨a', ea, hlt2, _⟩ := S2.out.2 h0; rw [ha] at ea; cases ea; exact Below.heap_alloc _ _ _ hlt2))
        have O9 : Hid (OwnT w Y9 t σ (fun k => (B k ∨ ∃ a, ao2 = some a ∧ 0 < L.length ∧ k = a.block) ∨ k = W9.heap.size)) := Hid.mk (by rw [hY9]; exact O8.out.box (.cells #[.int .i64 0, .slice none 0 0, .int .i64 0, .int .i64 0, .int .i64 0, .slice ao2 L.length e2, .int .i64 0] 32))
        rw [← hY9]
        generalize W9.heap.size = b9 at *
        have P7 := Hid.mk ((K10.out b7 M7.out).trans Q5b.out)
        have P8 := Hid.mk ((K10.out b8 M8.out).trans Q7.out)
        have S1c := Hid.mk (S7.out.kept Z10.out (fun a ha h0 => K10.out _ (MS.out a ha h0)))
        obtain ⟨D, hDd⟩ : ∃ D : Nat → Prop, D = (fun k => (B k ∨ ∃ a, ao2 = some a ∧ 0 < L.length ∧ k = a.block) ∨ k = b9) := ⟨_, rfl⟩
        have N7 : Hid (D b7) := Hid.mk (by rw [hDd]; exact .inl (.inl M7.out))
        have N8 : Hid (D b8) := Hid.mk (by rw [hDd]; exact .inl (.inl M8.out))
        have N9 : Hid (D b9) := Hid.mk (by rw [hDd]; exact .inr rfl)
        have NS1 : Hid (∀ a, ao1 = some a → 0 < L.length → D a.block) := Hid.mk (fun a ha h0 => by rw [hDd]; exact .inl (.inl (MS.out a ha h0)))
        have NS2 : Hid (∀ a, ao2 = some a → 0 < L.length → D a.block) := Hid.mk (fun a ha h0 => by rw [hDd]; exact .inl (.inr ⟨a, ha, h0, rfl⟩))
        have LT9 : Hid (∀ k, D k → k < Y9.heap.size) := Hid.mk (by
          rw [hDd]
          rintro k ((h | ⟨a, ha, h0, h⟩) | h)
          · exact Nat.lt_of_lt_of_le (LT7.out k h) Z10.out
          · obtain ⟨a', ea, hlt2, _⟩ := S9.out.2 h0
            rw [ha] at ea
            cases ea
            rw [h]; exact hlt2
          · rw [h]; exact lt_of_block Q9.out)
        rw [← hDd] at O9
        clear hDd hY9 O8 K9 Z9 K10 Z10 S2 S7 LT7 M7 M8 MS Q5b Q7
        go_upto_region 17 with (first
          | (go_at_call 13; refine (lC_any _ _ _).mono ?_; rintro e WA ⟨rfl, hB3⟩; have OA := Hid.mk (O9.out.then hB3); have KA := Hid.mk hB3; unfold callV; clear hB3 O9)
          | (go_at_call 12; refine (own_do (σ' := σ) OA.out (fun k h => Nat.lt_of_lt_of_le (LT9.out k h) KA.out.size) (fun Ls hT => doo_stat _ t σ Ls hT ⟨#[47, 111, 110, 101]⟩ ⟨#[]⟩ 0 0 none 0 0 (by decide) 0 1 0 2 (sm_stat HS.out))).mono ?_; rintro e WB ⟨rfl, hO, hkp, hsz⟩; have OB := Hid.mk hO; have KB := Hid.mk (fun k hk => (hkp k hk).trans (KA.out.block k (LT9.out k hk))); have ZB := Hid.mk (Nat.le_trans KA.out.size hsz); clear hO hkp hsz OA KA))
        obtain ⟨Y, hY⟩ : ∃ Y, Y = WB.alloc (.cells #[.int .i64 0, .slice none 0 0, .int .i64 1, .int .i64 0, .int .i64 2, .slice none 0 0, .int .i64 0] 32) := ⟨_, rfl⟩
        have q10 : Y.heap[WB.heap.size]? = some (.cells #[.int .i64 0, .slice none 0 0, .int .i64 1, .int .i64 0, .int .i64 2, .slice none 0 0, .int .i64 0] 32 (0, 0)) := by rw [hY]; exact blk_new WB _
        have kk : ∀ k, D k → Y.heap[k]? = Y9.heap[k]? := fun k hk => by rw [hY]; exact (Below.heap_alloc _ _ _ (Nat.lt_of_lt_of_le (LT9.out k hk) ZB.out)).trans (KB.out k hk)
        have zz : Y9.heap.size ≤ Y.heap.size := by rw [hY]; simp; have := ZB.out; omega
        have PB : Hid (Below w.heap.size w Y) := Hid.mk (by rw [hY]; exact OB.out.below.alloc OB.out.below.size _)
        rw [← hY]
        generalize WB.heap.size = b10 at *
        have q7 := (kk b7 N7.out).trans P7.out
        have q8 := (kk b8 N8.out).trans P8.out
        have q9 := (kk b9 N9.out).trans Q9.out
        have T1 := Hid.mk (S1c.out.kept zz (fun a ha h0 => kk _ (NS1.out a ha h0)))
        have T2 := Hid.mk (S9.out.kept zz (fun a ha h0 => kk _ (NS2.out a ha h0)))
        clear hY kk zz OB KB ZB P7 P8 Q9 S1c S9 N7 N8 N9 NS1 NS2 LT9
        have a0 := blk_cell q7 0
        have a1 := blk_cell q7 1
        have a2 := blk_cell q7 2
        have a3 := blk_cell q7 3
        have a4 := blk_cell q7 4
        have a5 := blk_cell q7 5
        have a6 := blk_cell q7 6
        have b0 := blk_cell q9 0
        have b1 := blk_cell q9 1
        have b2 := blk_cell q9 2
        have b3 := blk_cell q9 3
        have b4 := blk_cell q9 4
        have b5 := blk_cell q9 5
        have b6 := blk_cell q9 6
        have c0 := blk_cell q8 0
        have t4 := blk_cell q10 4
        have HL10 : Hid (b10 < Y.heap.size) := Hid.mk (lt_of_block q10)
        simp at a0 a1 a2 a3 a4 a5 a6 b0 b1 b2 b3 b4 b5 b6 c0 t4
        clear q7 q8 q9 q10
        have HSR := Hid.mk (samer_yes Y 0 0 0 0 0 none none 0 0 0 [] ⟨rfl, fun h => absurd h (Nat.lt_irrefl 0)⟩ ⟨rfl, fun h => absurd h (Nat.lt_irrefl 0)⟩ ao1 ao2 L.length e1 e2 L T1.out T2.out (by have := HLL.out; omega))
        go_wp2_with (first
          | (go_at_call 14; refine (lnum_any _ _).mono ?_; rintro e W9 ⟨rfl, hw⟩; subst hw)
          | (go_at_call 20; refine HSR.out.mono ?_; rintro e WF ⟨rfl, hBF⟩; have PF := Hid.mk (PB.out.trans (hBF.mono PB.out.size)); have f4 := (World.cell?_of_block (w := W9) (w' := WF) (a := ⟨b10, 4, none⟩) (hBF.block b10 HL10.out)).trans t4; clear hBF))
        go_ret
        exact ⟨rfl, PF.out⟩
end Go.Proofs.YtehaoeclnmelhabGreat
