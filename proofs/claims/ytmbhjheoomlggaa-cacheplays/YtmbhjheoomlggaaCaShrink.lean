/-
  Idle blocks go while there are too many: shrink.
-/
import Derived.Test.YtmbhjheoomlggaaCaIter
namespace Go.Proofs.Ytmbhjheoomlggaa
open Go Go.Proofs Go.RowKit Go.Shelf
attribute [local go_sem] Oper.semAt_some
/-- The first n idle ones go. -/
def shrN : Nat → List Pl → List Pl
  | 0, L => L
  | _ + 1, [] => []
  | n + 1, x :: r => if x.idle = true then shrN n r else x :: shrN (n + 1) r
def shrL (size : Nat) (L : List Pl) : List Pl := shrN (L.length - size) L
theorem shrN_none {n : Nat} {L : List Pl} (h : idleN L = 0) : shrN n L = L := by
  induction L with
  | nil => cases n <;> rfl
  | cons x L ih =>
    cases n with
    | zero => rfl
    | succ n =>
      simp only [idleN, List.countP_cons] at h
      have h1 : ¬ x.idle = true := by intro e; rw [if_pos e] at h; omega
      rw [shrN, if_neg h1, ih (by unfold idleN; omega)]
theorem idleN_append (A B : List Pl) : idleN (A ++ B) = idleN A + idleN B := by simp [idleN, List.countP_append]
/-- Between two rounds: K has stayed, the k-th and those behind it are still to come. -/
def ShI (w : World) (F : Nat → Prop) (c m : Nat) (d : Value) (size : Nat) (reads : Int) (L : List Pl) (k : Nat) (W : World) : Prop :=
  W.heap[w.heap.size]? = some (.cells #[ptV c] 26 (0, 0)) ∧ w.heap.size + 2 ≤ W.heap.size ∧ Only F w W ∧ ∃ K, CaAt (fun j => F j ∧ j < w.heap.size) W c m d size reads (K ++ L.drop k) ∧ (K ++ L.drop k).length ≤ L.length ∧ shrL size L = K ++ shrN ((K ++ L.drop k).length - size) (L.drop k)
def ShX (w : World) (F : Nat → Prop) (c m : Nat) (d : Value) (size : Nat) (reads : Int) (L : List Pl) (W : World) : Prop :=
  Only F w W ∧ CaAt (fun j => F j ∧ j < w.heap.size) W c m d size reads (shrL size L)
/-- What the orders of a round lean on. -/
abbrev ShS (w : World) (c m n N size : Nat) (W : World) : Prop := W.cell? ⟨w.heap.size, 0, none⟩ = some (ptV c) ∧ W.cell? ⟨c, 6, none⟩ = some (.int .i64 ((n : Nat) : Int)) ∧ W.cell? ⟨c, 5, none⟩ = some (.map (some m)) ∧ W.cell? ⟨c, 1, none⟩ = some (.int .i64 ((size : Nat) : Int)) ∧ ∀ ty, (Builtin.len_ #[56] ty #[.map (some m)]).run Try.prog W = .ok (.int .i64 ((N : Nat) : Int)) W
section
variable {F : Nat → Prop} {w : World} {c m : Nat} {d : Value} {reads : Int}
theorem CaAt.grown {F : Nat → Prop} {B : Nat} {size : Int} {L : List Pl} {W W' : World} {row : Option Nat} (h : CaAt (fun j => F j ∧ j < B) W c m d size reads L) (hg : W.grownBy W' row) (hr : ∀ r, row = some r → B ≤ r) : CaAt (fun j => F j ∧ j < B) W' c m d size reads L :=
  h.keep (fun k hk hl => hg.block k hl (fun e => by have := hr k e.symm; omega))
theorem Only.grownNew {S : Nat → Prop} {a w w' : World} {row : Option Nat} (h : Only S a w) (hg : w.grownBy w' row) (hr : ∀ r, row = some r → a.heap.size ≤ r) : Only S a w' := h.grown hg (fun k e => .inr (hr k e))
theorem ShI_own (size : Nat) (L : List Pl) (k : Nat) (W W' : World) (row : Option Nat) (h : ShI w F c m d size reads L k W) (hg : W.grownBy W' row) (hr : ∀ r, row = some r → w.heap.size + 2 ≤ r) : ShI w F c m d size reads L k W' := by
  obtain ⟨h0, h1, h2, K, h3, h4⟩ := h
  exact ⟨(hg.block _ (by omega) (fun e => by have := hr _ e.symm; omega)).trans h0, Nat.le_trans h1 hg.size, h2.grownNew hg (fun r e => by have := hr r e; omega), K, h3.grown hg (fun r e => by have := hr r e; omega), h4⟩
theorem ShX_own (size : Nat) (L : List Pl) (W W' : World) (row : Option Nat) (h : ShX w F c m d size reads L W) (hg : W.grownBy W' row) (hr : ∀ r, row = some r → w.heap.size + 2 ≤ r) : ShX w F c m d size reads L W' :=
  ⟨h.1.grownNew hg (fun r e => by have := hr r e; omega), h.2.grown hg (fun r e => by have := hr r e; omega)⟩
theorem plV_next {L : List Pl} {k : Nat} : nxtV (L.drop k) niV = plV (L.map (·.p)) k := by
  unfold plV
  by_cases h : k < L.length
  · rw [if_pos (by simpa using h), List.drop_eq_getElem_cons h, nxtV_cons]
    simp [List.getD, h]
  · rw [if_neg (by simpa using h), List.drop_eq_nil_of_le (by omega)]
    rfl
set_option maxRecDepth 100000 in
set_option maxHeartbeats 4000000 in
theorem shrink_any (size : Nat) (L : List Pl) (h : CaAt F w c m d size reads L) (hl : L.length ≤ 1000000) :
    Calls Try.prog 31 #[ptV c] w fun e w' => e = .returned (.tuple #[]) ∧ CaAt F w' c m d size reads (shrL size L) ∧ Only F w w' := by
  have hb0 := blk_new w (.cells #[ptV c] 26)
  have e0 : (w.alloc (.cells #[ptV c] 26)).cell? ⟨w.heap.size, 0, none⟩ = some (ptV c) := by rw [blk_cell hb0]; rfl
  refine (callsIn_wide (n := 5)).1 ?_
  refine callsIn_of_wp_marks Try.func31 rfl trivial ?_ rfl
  simp only [Try.ntmps31, List.size_toArray, List.length_cons, List.length_nil, Nat.reduceAdd, Nat.reduceSub, Array.replicate_succ, Array.replicate_zero, List.push_toArray, List.append_toArray, List.nil_append, List.cons_append]
  gi_wp2_with (refine ⟨trivial, ?_⟩; gi_at_call 37; refine (callsIn_wide.2 (all_any _ c)).mono ?_; rintro e w3 ⟨rfl, rfl⟩)
  have hb1 := blk_new (w.alloc (.cells #[ptV c] 26)) (.cells #[.pointer (some ⟨c, 3, none⟩)] 86)
  rw [World.size_alloc] at hb1
  have hb2 : ((w.alloc (.cells #[ptV c] 26)).alloc (.cells #[.pointer (some ⟨c, 3, none⟩)] 86)).heap[w.heap.size]? = _ := (Below.heap_alloc _ _ _ (by simp)).trans hb0
  have hB : Below w.heap.size w ((w.alloc (.cells #[ptV c] 26)).alloc (.cells #[.pointer (some ⟨c, 3, none⟩)] 86)) := ((Below.refl _ w).alloc (Nat.le_refl _) _).alloc (by simp) _
  have hS : ((w.alloc (.cells #[ptV c] 26)).alloc (.cells #[.pointer (some ⟨c, 3, none⟩)] 86)).heap.size = w.heap.size + 2 := by simp
  have hI0 : ShI w F c m d size reads L 0 ((w.alloc (.cells #[ptV c] 26)).alloc (.cells #[.pointer (some ⟨c, 3, none⟩)] 86)) :=
    ⟨hb2, by omega, Only.of_new _ hB, [], (h.mono (fun k hk hl => ⟨hk, hl⟩)).below hB, by simp, by simp [shrL]⟩
  generalize (w.alloc (.cells #[ptV c] 26)).alloc (.cells #[.pointer (some ⟨c, 3, none⟩)] 86) = w3 at *
  clear hb0 e0 hb2 hB
  refine wpIn_range_stop (gf := 47) (lb := #[ptV (w.heap.size + 1)]) rfl (enters_of Try.func47 (by kernel_rfl) rfl) L.length (fun k => #[ptV ((L.map (·.p)).getD k 0)]) (fun _ => rfl)
    (ShI w F c m d size reads L) (ShX w F c m d size reads L) (fun k A B row h hg hr => ShI_own size L k A B row h hg (fun r e => by rw [← hS]; exact hr r e)) (fun A B row h hg hr => ShX_own size L A B row h hg (fun r e => by rw [← hS]; exact hr r e)) hI0 ?hit
    (fun k => { tmps := #[ptV c, ptV w.heap.size, ptV ((L.map (·.p)).getD k 0), ptV c, ptV c, .pointer (some ⟨c, 3, none⟩), allF (w.heap.size + 1), ptV ((L.map (·.p)).getD k 0), undef, undef, undef, undef, undef, undef, undef, undef, undef, undef, undef, undef, undef, undef, undef, undef, undef, undef, undef, undef, undef, undef, undef, undef, undef], defers := [] }) ?assign ?body ?done ?stop
  case hit =>
    intro l J Jx W hJI hg hY h0
    have hlen : (L.map (·.p)).length = L.length := by simp
    have := all1_in 4 (by omega) l (w.heap.size + 1) c (L.map (·.p)) h.ls.nd J Jx W ?_ ?_ ?_ (by rw [hlen]; exact hY) h0
    · rw [hlen] at this; exact this
    · rw [blk_cell ((hg.block _ (by omega) (by simp)).trans hb1)]; rfl
    · obtain ⟨_, _, _, K, hC, hK, _⟩ := hJI 0 W h0
      have hK0 : K = [] := by
        simp at hK
        exact List.eq_nil_of_length_eq_zero (by omega)
      rw [hK0] at hC
      rw [(ca_c hC.ls.blk).1, List.nil_append, plV_next]
    · intro k A hJ hk
      rw [hlen] at hk
      obtain ⟨_, _, _, K, hC, hK, _⟩ := hJI k A hJ
      rw [List.drop_eq_getElem_cons hk] at hC
      have hp := (hC.ls.seg.at).2.1
      have e : (L.map (·.p)).getD k 0 = L[k].p := by simp [List.getD, hk]
      rw [e, (pl_c1 hp).2.2.1, plV_next]
  case assign =>
    intro l k W K hK
    generalize (L.map (·.p)).getD k 0 = p at *
    gi_wp2
    exact hK
  case body =>
    rintro l k W ⟨hbox, hsz2, hO, K, hC, hK, hsh⟩ hk hW2
    have hd : L.drop k = L[k] :: L.drop (k + 1) := List.drop_eq_getElem_cons hk
    rw [hd] at hC hK hsh
    obtain ⟨x, hx⟩ : ∃ x, x = L[k] := ⟨_, rfl⟩
    rw [← hx] at hC hK hsh
    have hp : (L.map (·.p)).getD k 0 = x.p := by simp [List.getD, hk, hx]
    rw [hp]
    have hxm : x ∈ K ++ x :: L.drop (k + 1) := by simp
    obtain ⟨c0, c1, c2, c5, c6, f2, f6⟩ := ca_cells hC.ls.blk
    have p0 := (pl_c1 hC.ls.seg.at.2.1).1
    obtain ⟨a0, a1, a2, a3, a4, a5, a6⟩ := hd_cells (hC.held x hxm)
    have b0 : W.cell? ⟨w.heap.size, 0, none⟩ = some (ptV c) := by rw [blk_cell hbox]; rfl
    have hlen := hC.drew.map.len Try.underlying56
    have HC := Hid.mk hC
    have HO := Hid.mk hO
    have HBOX := Hid.mk hbox
    have HSZ2 := Hid.mk hsz2
    have hi1 : x.idle = (decide (x.pins = 0) && !x.dirty) := rfl
    have HID : Hid (∀ W1 : World, W1.heap = W.heap → Calls Try.prog 43 #[ptV x.h] W1 fun e w' => e = .returned (.bool x.idle) ∧ w' = W1) := Hid.mk (fun W1 e => isidle_raw W1 x.h x.pins x.dirty (by rw [World.cell?_of_block (w := W) (by rw [e])]; exact a1) (by rw [World.cell?_of_block (w := W) (by rw [e])]; exact a2))
    have HDR : Hid (∀ W1 : World, W1.heap = W.heap → x.idle = true → Calls Try.prog 44 #[ptV c, ptV x.p] W1 fun e w' => e = .returned (.tuple #[]) ∧ CaAt (fun j => F j ∧ j < w.heap.size) w' c m d size reads (K ++ L.drop (k + 1)) ∧ Only (fun j => F j ∧ j < w.heap.size) W1 w') := Hid.mk (fun W1 e hi => drop_any K (L.drop (k + 1)) x (hC.keep (fun _ _ _ => by rw [e])) hi (by omega))
    have KEEP : Hid (∀ W1 W' : World, W1.heap = W.heap → Only (fun j => F j ∧ j < w.heap.size) W1 W' → W'.heap[w3.heap.size]? = W.heap[w3.heap.size]? ∧ W'.heap[w3.heap.size + 1]? = W.heap[w3.heap.size + 1]? ∧ W'.heap[w.heap.size]? = some (.cells #[ptV c] 26 (0, 0)) ∧ w.heap.size + 2 ≤ W'.heap.size) := Hid.mk (fun W1 W' e ho => by
      have hs1 : W1.heap.size = W.heap.size := by rw [e]
      have hs2 := ho.size
      refine ⟨?_, ?_, ?_, by omega⟩
      · rw [ho.block _ (by omega) (fun h => by have := h.2; omega), e]
      · rw [ho.block _ (by omega) (fun h => by have := h.2; omega), e]
      · rw [ho.block _ (by omega) (fun h => by have := h.2; omega), e]; exact hbox)
    have HSH := Hid.mk hsh
    have HKL := Hid.mk hK
    obtain ⟨n, hn⟩ : ∃ n, n = idleN (K ++ x :: L.drop (k + 1)) := ⟨_, rfl⟩
    obtain ⟨N, hN⟩ : ∃ N, N = (K ++ x :: L.drop (k + 1)).length := ⟨_, rfl⟩
    rw [← hn] at c6
    rw [← hN] at hlen hsh
    have hnN : n ≤ N := by rw [hn, hN]; exact idleN_le _
    have hNb : N ≤ 1000000 := by omega
    have HNN := Hid.mk hn
    have HNL := Hid.mk hN
    clear hn hN hsh hK hC hO hbox hsz2 hd hp hx hi1 a0 a1 a2 a3 a4 a5 a6 f2 f6 c2 c0 hxm hI0 hb1 h
    have stay : Hid (∀ W' : World, W'.heap = W.heap → W'.os = W.os → W'.tape = W.tape → W'.output = W.output → Only F w W') := Hid.mk (fun W' e e1 e2 e3 => by
      have := HO.out
      exact ⟨e1.trans this.os, e2.trans this.tape, e3.trans this.output, by rw [e]; exact this.size, fun q hq hs => by rw [e]; exact this.block q hq hs⟩)
    have HS : Hid (ShS w c m n N size W.drew) := Hid.mk ⟨b0, c6, c5, c1, hlen⟩
    clear c6 c5 c1 hlen hS hW2
    have HSTAY : Hid (Only (fun j => F j ∧ j < w.heap.size) W.drew W.drew) := Hid.mk (Only.refl _ _)
    by_cases h0 : n = 0
    · have LEAVE : Hid (shrL size L = K ++ x :: L.drop (k + 1)) := Hid.mk (by
        rw [HSH.out]
        have e1 := HNN.out
        rw [h0, idleN_append] at e1
        rw [shrN_none (by omega)])
      subst h0
      gi_wp2_with fail
      refine round_region_held (S := ShS w c m 0 N size) (by kernel_rfl) (by kernel_rfl) HS.out (fun hH => ?_)
      change wpAnyH Try.prog Region.Mode.any _ _ _ 17 _ _ _
      refine takeH 0 8 (.pointer (some ⟨c, 0, none⟩)) rfl (by kernel_rfl) (by kernel_rfl) (by kernel_rfl) (by kernel_rfl) (fun _ _ _ h => h) (by kernel_rfl) (fun w hw => by (try dsimp only at hw); go_simp) hH ?_
      simp only [List.setIfInBounds_toArray, List.set_cons_zero, List.set_cons_succ]
      refine takeH 1 9 (.pointer (some ⟨c, 0, none⟩)) rfl (by kernel_rfl) (by kernel_rfl) (by kernel_rfl) (by kernel_rfl) (fun _ _ _ h => h) (by kernel_rfl) (fun w hw => by (try dsimp only at hw); go_simp) hH ?_
      simp only [List.setIfInBounds_toArray, List.set_cons_zero, List.set_cons_succ]
      refine takeH 2 10 (.pointer (some ⟨c, 6, none⟩)) rfl (by kernel_rfl) (by kernel_rfl) (by kernel_rfl) (by kernel_rfl) (fun _ _ _ h => h) (by kernel_rfl) (fun w hw => by (try dsimp only at hw); go_simp) hH ?_
      simp only [List.setIfInBounds_toArray, List.set_cons_zero, List.set_cons_succ]
      refine takeH 3 11 (.int .i64 ((0 : Nat) : Int)) rfl (by kernel_rfl) (by kernel_rfl) (by kernel_rfl) (by kernel_rfl) (fun _ _ _ h => h) (by kernel_rfl) (fun w hw => by (try dsimp only at hw); go_simp) hH ?_
      simp only [List.setIfInBounds_toArray, List.set_cons_zero, List.set_cons_succ]
      refine takeH 4 12 (.bool true) rfl (by kernel_rfl) (by kernel_rfl) (by kernel_rfl) (by kernel_rfl) (fun _ _ _ h => h) (by kernel_rfl) (fun w hw => by (try dsimp only at hw); go_simp) hH ?_
      simp only [List.setIfInBounds_toArray, List.set_cons_zero, List.set_cons_succ]
      refine takeH 5 13 (.bool true) rfl (by kernel_rfl) (by kernel_rfl) (by kernel_rfl) (by kernel_rfl) (fun _ _ _ h => h) (by kernel_rfl) (fun w hw => by kernel_rfl) hH ?_
      simp only [List.setIfInBounds_toArray, List.set_cons_zero, List.set_cons_succ]
      refine skipH 6 14 rfl (by kernel_rfl) (by kernel_rfl) (by kernel_rfl) (by kernel_rfl) (fun _ _ _ h => h) (by kernel_rfl) hH ?_
      simp only [List.setIfInBounds_toArray, List.set_cons_zero, List.set_cons_succ]
      refine skipH 7 15 rfl (by kernel_rfl) (by kernel_rfl) (by kernel_rfl) (by kernel_rfl) (fun _ _ _ h => h) (by kernel_rfl) hH ?_
      simp only [List.setIfInBounds_toArray, List.set_cons_zero, List.set_cons_succ]
      refine skipH 8 16 rfl (by kernel_rfl) (by kernel_rfl) (by kernel_rfl) (by kernel_rfl) (fun _ _ _ h => h) (by kernel_rfl) hH ?_
      simp only [List.setIfInBounds_toArray, List.set_cons_zero, List.set_cons_succ]
      refine skipH 9 17 rfl (by kernel_rfl) (by kernel_rfl) (by kernel_rfl) (by kernel_rfl) (fun _ _ _ h => h) (by kernel_rfl) hH ?_
      simp only [List.setIfInBounds_toArray, List.set_cons_zero, List.set_cons_succ]
      refine skipH 10 18 rfl (by kernel_rfl) (by kernel_rfl) (by kernel_rfl) (by kernel_rfl) (fun _ _ _ h => h) (by kernel_rfl) hH ?_
      simp only [List.setIfInBounds_toArray, List.set_cons_zero, List.set_cons_succ]
      refine skipH 11 19 rfl (by kernel_rfl) (by kernel_rfl) (by kernel_rfl) (by kernel_rfl) (fun _ _ _ h => h) (by kernel_rfl) hH ?_
      simp only [List.setIfInBounds_toArray, List.set_cons_zero, List.set_cons_succ]
      refine skipH 12 20 rfl (by kernel_rfl) (by kernel_rfl) (by kernel_rfl) (by kernel_rfl) (fun _ _ _ h => h) (by kernel_rfl) hH ?_
      simp only [List.setIfInBounds_toArray, List.set_cons_zero, List.set_cons_succ]
      refine skipH 13 21 rfl (by kernel_rfl) (by kernel_rfl) (by kernel_rfl) (by kernel_rfl) (fun _ _ _ h => h) (by kernel_rfl) hH ?_
      simp only [List.setIfInBounds_toArray, List.set_cons_zero, List.set_cons_succ]
      refine skipH 14 22 rfl (by kernel_rfl) (by kernel_rfl) (by kernel_rfl) (by kernel_rfl) (fun _ _ _ h => h) (by kernel_rfl) hH ?_
      simp only [List.setIfInBounds_toArray, List.set_cons_zero, List.set_cons_succ]
      refine skipH 15 23 rfl (by kernel_rfl) (by kernel_rfl) (by kernel_rfl) (by kernel_rfl) (fun _ _ _ h => h) (by kernel_rfl) hH ?_
      simp only [List.setIfInBounds_toArray, List.set_cons_zero, List.set_cons_succ]
      refine takeH 16 24 (.bool true) rfl (by kernel_rfl) (by kernel_rfl) (by kernel_rfl) (by kernel_rfl) (fun _ _ _ h => h) (by kernel_rfl) (fun w hw => by (try dsimp only at hw); go_simp) hH ?_
      simp only [List.setIfInBounds_toArray, List.set_cons_zero, List.set_cons_succ]
      refine wpAnyH_done (by kernel_rfl) ?_ _
      dsimp only [Norm]
      clear hH HS
      gi_wp2
      obtain ⟨g1, g2, _⟩ := KEEP.out W.drew W.drew rfl (Only.refl _ _)
      have hX : ShX w F c m d size reads L W.drew := ⟨stay.out _ rfl rfl rfl rfl, by rw [LEAVE.out]; exact HC.out.drew⟩
      first | exact ⟨g1, g2, .inr ⟨rfl, hX⟩⟩ | exact ⟨g1, g2, hX⟩
    · have hz : ¬ ((n : Nat) : Int) = 0 := by omega
      have hz2 : (((n : Nat) : Int) == 0) = false := by simpa using hz
      by_cases hle : N ≤ size
      · have LEAVE : Hid (shrL size L = K ++ x :: L.drop (k + 1)) := Hid.mk (by
          rw [HSH.out, ← HNL.out, Nat.sub_eq_zero_of_le hle]
          rfl)
        have hle2 : ((N : Nat) : Int) ≤ ((size : Nat) : Int) := by omega
        gi_wp2_with fail
        refine round_region_held (S := ShS w c m n N size) (by kernel_rfl) (by kernel_rfl) HS.out (fun hH => ?_)
        change wpAnyH Try.prog Region.Mode.any _ _ _ 17 _ _ _
        refine takeH 0 8 (.pointer (some ⟨c, 0, none⟩)) rfl (by kernel_rfl) (by kernel_rfl) (by kernel_rfl) (by kernel_rfl) (fun _ _ _ h => h) (by kernel_rfl) (fun w hw => by (try dsimp only at hw); go_simp) hH ?_
        simp only [List.setIfInBounds_toArray, List.set_cons_zero, List.set_cons_succ]
        refine takeH 1 9 (.pointer (some ⟨c, 0, none⟩)) rfl (by kernel_rfl) (by kernel_rfl) (by kernel_rfl) (by kernel_rfl) (fun _ _ _ h => h) (by kernel_rfl) (fun w hw => by (try dsimp only at hw); go_simp) hH ?_
        simp only [List.setIfInBounds_toArray, List.set_cons_zero, List.set_cons_succ]
        refine takeH 2 10 (.pointer (some ⟨c, 6, none⟩)) rfl (by kernel_rfl) (by kernel_rfl) (by kernel_rfl) (by kernel_rfl) (fun _ _ _ h => h) (by kernel_rfl) (fun w hw => by (try dsimp only at hw); go_simp) hH ?_
        simp only [List.setIfInBounds_toArray, List.set_cons_zero, List.set_cons_succ]
        refine takeH 3 11 (.int .i64 ((n : Nat) : Int)) rfl (by kernel_rfl) (by kernel_rfl) (by kernel_rfl) (by kernel_rfl) (fun _ _ _ h => h) (by kernel_rfl) (fun w hw => by (try dsimp only at hw); go_simp) hH ?_
        simp only [List.setIfInBounds_toArray, List.set_cons_zero, List.set_cons_succ]
        refine takeH 4 12 (.bool false) rfl (by kernel_rfl) (by kernel_rfl) (by kernel_rfl) (by kernel_rfl) (fun _ _ _ h => h) (by kernel_rfl) (fun w hw => by (try dsimp only at hw); go_simp) hH ?_
        simp only [List.setIfInBounds_toArray, List.set_cons_zero, List.set_cons_succ]
        refine takeH 5 13 (.bool false) rfl (by kernel_rfl) (by kernel_rfl) (by kernel_rfl) (by kernel_rfl) (fun _ _ _ h => h) (by kernel_rfl) (fun w hw => by kernel_rfl) hH ?_
        simp only [List.setIfInBounds_toArray, List.set_cons_zero, List.set_cons_succ]
        refine takeH 6 14 (.pointer (some ⟨c, 0, none⟩)) rfl (by kernel_rfl) (by kernel_rfl) (by kernel_rfl) (by kernel_rfl) (fun _ _ _ h => h) (by kernel_rfl) (fun w hw => by (try dsimp only at hw); go_simp) hH ?_
        simp only [List.setIfInBounds_toArray, List.set_cons_zero, List.set_cons_succ]
        refine takeH 7 15 (.pointer (some ⟨c, 0, none⟩)) rfl (by kernel_rfl) (by kernel_rfl) (by kernel_rfl) (by kernel_rfl) (fun _ _ _ h => h) (by kernel_rfl) (fun w hw => by (try dsimp only at hw); go_simp) hH ?_
        simp only [List.setIfInBounds_toArray, List.set_cons_zero, List.set_cons_succ]
        refine takeH 8 16 (.pointer (some ⟨c, 5, none⟩)) rfl (by kernel_rfl) (by kernel_rfl) (by kernel_rfl) (by kernel_rfl) (fun _ _ _ h => h) (by kernel_rfl) (fun w hw => by (try dsimp only at hw); go_simp) hH ?_
        simp only [List.setIfInBounds_toArray, List.set_cons_zero, List.set_cons_succ]
        refine takeH 9 17 (.map (some m)) rfl (by kernel_rfl) (by kernel_rfl) (by kernel_rfl) (by kernel_rfl) (fun _ _ _ h => h) (by kernel_rfl) (fun w hw => by (try dsimp only at hw); go_simp) hH ?_
        simp only [List.setIfInBounds_toArray, List.set_cons_zero, List.set_cons_succ]
        refine takeH 10 18 (.int .i64 ((N : Nat) : Int)) rfl (by kernel_rfl) (by kernel_rfl) (by kernel_rfl) (by kernel_rfl) (fun _ _ _ h => h) (by kernel_rfl) (fun w hw => by (try dsimp only at hw); go_simp) hH ?_
        simp only [List.setIfInBounds_toArray, List.set_cons_zero, List.set_cons_succ]
        refine takeH 11 19 (.pointer (some ⟨c, 0, none⟩)) rfl (by kernel_rfl) (by kernel_rfl) (by kernel_rfl) (by kernel_rfl) (fun _ _ _ h => h) (by kernel_rfl) (fun w hw => by (try dsimp only at hw); go_simp) hH ?_
        simp only [List.setIfInBounds_toArray, List.set_cons_zero, List.set_cons_succ]
        refine takeH 12 20 (.pointer (some ⟨c, 0, none⟩)) rfl (by kernel_rfl) (by kernel_rfl) (by kernel_rfl) (by kernel_rfl) (fun _ _ _ h => h) (by kernel_rfl) (fun w hw => by (try dsimp only at hw); go_simp) hH ?_
        simp only [List.setIfInBounds_toArray, List.set_cons_zero, List.set_cons_succ]
        refine takeH 13 21 (.pointer (some ⟨c, 1, none⟩)) rfl (by kernel_rfl) (by kernel_rfl) (by kernel_rfl) (by kernel_rfl) (fun _ _ _ h => h) (by kernel_rfl) (fun w hw => by (try dsimp only at hw); go_simp) hH ?_
        simp only [List.setIfInBounds_toArray, List.set_cons_zero, List.set_cons_succ]
        refine takeH 14 22 (.int .i64 ((size : Nat) : Int)) rfl (by kernel_rfl) (by kernel_rfl) (by kernel_rfl) (by kernel_rfl) (fun _ _ _ h => h) (by kernel_rfl) (fun w hw => by (try dsimp only at hw); go_simp) hH ?_
        simp only [List.setIfInBounds_toArray, List.set_cons_zero, List.set_cons_succ]
        refine takeH 15 23 (.bool true) rfl (by kernel_rfl) (by kernel_rfl) (by kernel_rfl) (by kernel_rfl) (fun _ _ _ h => h) (by kernel_rfl) (fun w hw => by (try dsimp only at hw); go_simp) hH ?_
        simp only [List.setIfInBounds_toArray, List.set_cons_zero, List.set_cons_succ]
        refine takeH 16 24 (.bool true) rfl (by kernel_rfl) (by kernel_rfl) (by kernel_rfl) (by kernel_rfl) (fun _ _ _ h => h) (by kernel_rfl) (fun w hw => by (try dsimp only at hw); go_simp) hH ?_
        simp only [List.setIfInBounds_toArray, List.set_cons_zero, List.set_cons_succ]
        refine wpAnyH_done (by kernel_rfl) ?_ _
        dsimp only [Norm]
        clear hH HS
        gi_wp2
        obtain ⟨g1, g2, _⟩ := KEEP.out W.drew W.drew rfl (Only.refl _ _)
        have hX : ShX w F c m d size reads L W.drew := ⟨stay.out _ rfl rfl rfl rfl, by rw [LEAVE.out]; exact HC.out.drew⟩
        first | exact ⟨g1, g2, .inr ⟨rfl, hX⟩⟩ | exact ⟨g1, g2, hX⟩
      · have hle2 : ¬ ((N : Nat) : Int) ≤ ((size : Nat) : Int) := by omega
        obtain ⟨q, hq⟩ : ∃ q, N - size = q + 1 := ⟨N - size - 1, by omega⟩
        have HQ := Hid.mk hq
        have hlt2 : ((size : Nat) : Int) < ((N : Nat) : Int) := by omega
        gi_wp2_with fail
        refine round_region_held (S := ShS w c m n N size) (by kernel_rfl) (by kernel_rfl) HS.out (fun hH => ?_)
        change wpAnyH Try.prog Region.Mode.any _ _ _ 17 _ _ _
        refine takeH 0 8 (.pointer (some ⟨c, 0, none⟩)) rfl (by kernel_rfl) (by kernel_rfl) (by kernel_rfl) (by kernel_rfl) (fun _ _ _ h => h) (by kernel_rfl) (fun w hw => by (try dsimp only at hw); go_simp) hH ?_
        simp only [List.setIfInBounds_toArray, List.set_cons_zero, List.set_cons_succ]
        refine takeH 1 9 (.pointer (some ⟨c, 0, none⟩)) rfl (by kernel_rfl) (by kernel_rfl) (by kernel_rfl) (by kernel_rfl) (fun _ _ _ h => h) (by kernel_rfl) (fun w hw => by (try dsimp only at hw); go_simp) hH ?_
        simp only [List.setIfInBounds_toArray, List.set_cons_zero, List.set_cons_succ]
        refine takeH 2 10 (.pointer (some ⟨c, 6, none⟩)) rfl (by kernel_rfl) (by kernel_rfl) (by kernel_rfl) (by kernel_rfl) (fun _ _ _ h => h) (by kernel_rfl) (fun w hw => by (try dsimp only at hw); go_simp) hH ?_
        simp only [List.setIfInBounds_toArray, List.set_cons_zero, List.set_cons_succ]
        refine takeH 3 11 (.int .i64 ((n : Nat) : Int)) rfl (by kernel_rfl) (by kernel_rfl) (by kernel_rfl) (by kernel_rfl) (fun _ _ _ h => h) (by kernel_rfl) (fun w hw => by (try dsimp only at hw); go_simp) hH ?_
        simp only [List.setIfInBounds_toArray, List.set_cons_zero, List.set_cons_succ]
        refine takeH 4 12 (.bool false) rfl (by kernel_rfl) (by kernel_rfl) (by kernel_rfl) (by kernel_rfl) (fun _ _ _ h => h) (by kernel_rfl) (fun w hw => by (try dsimp only at hw); go_simp) hH ?_
        simp only [List.setIfInBounds_toArray, List.set_cons_zero, List.set_cons_succ]
        refine takeH 5 13 (.bool false) rfl (by kernel_rfl) (by kernel_rfl) (by kernel_rfl) (by kernel_rfl) (fun _ _ _ h => h) (by kernel_rfl) (fun w hw => by kernel_rfl) hH ?_
        simp only [List.setIfInBounds_toArray, List.set_cons_zero, List.set_cons_succ]
        refine takeH 6 14 (.pointer (some ⟨c, 0, none⟩)) rfl (by kernel_rfl) (by kernel_rfl) (by kernel_rfl) (by kernel_rfl) (fun _ _ _ h => h) (by kernel_rfl) (fun w hw => by (try dsimp only at hw); go_simp) hH ?_
        simp only [List.setIfInBounds_toArray, List.set_cons_zero, List.set_cons_succ]
        refine takeH 7 15 (.pointer (some ⟨c, 0, none⟩)) rfl (by kernel_rfl) (by kernel_rfl) (by kernel_rfl) (by kernel_rfl) (fun _ _ _ h => h) (by kernel_rfl) (fun w hw => by (try dsimp only at hw); go_simp) hH ?_
        simp only [List.setIfInBounds_toArray, List.set_cons_zero, List.set_cons_succ]
        refine takeH 8 16 (.pointer (some ⟨c, 5, none⟩)) rfl (by kernel_rfl) (by kernel_rfl) (by kernel_rfl) (by kernel_rfl) (fun _ _ _ h => h) (by kernel_rfl) (fun w hw => by (try dsimp only at hw); go_simp) hH ?_
        simp only [List.setIfInBounds_toArray, List.set_cons_zero, List.set_cons_succ]
        refine takeH 9 17 (.map (some m)) rfl (by kernel_rfl) (by kernel_rfl) (by kernel_rfl) (by kernel_rfl) (fun _ _ _ h => h) (by kernel_rfl) (fun w hw => by (try dsimp only at hw); go_simp) hH ?_
        simp only [List.setIfInBounds_toArray, List.set_cons_zero, List.set_cons_succ]
        refine takeH 10 18 (.int .i64 ((N : Nat) : Int)) rfl (by kernel_rfl) (by kernel_rfl) (by kernel_rfl) (by kernel_rfl) (fun _ _ _ h => h) (by kernel_rfl) (fun w hw => by (try dsimp only at hw); go_simp) hH ?_
        simp only [List.setIfInBounds_toArray, List.set_cons_zero, List.set_cons_succ]
        refine takeH 11 19 (.pointer (some ⟨c, 0, none⟩)) rfl (by kernel_rfl) (by kernel_rfl) (by kernel_rfl) (by kernel_rfl) (fun _ _ _ h => h) (by kernel_rfl) (fun w hw => by (try dsimp only at hw); go_simp) hH ?_
        simp only [List.setIfInBounds_toArray, List.set_cons_zero, List.set_cons_succ]
        refine takeH 12 20 (.pointer (some ⟨c, 0, none⟩)) rfl (by kernel_rfl) (by kernel_rfl) (by kernel_rfl) (by kernel_rfl) (fun _ _ _ h => h) (by kernel_rfl) (fun w hw => by (try dsimp only at hw); go_simp) hH ?_
        simp only [List.setIfInBounds_toArray, List.set_cons_zero, List.set_cons_succ]
        refine takeH 13 21 (.pointer (some ⟨c, 1, none⟩)) rfl (by kernel_rfl) (by kernel_rfl) (by kernel_rfl) (by kernel_rfl) (fun _ _ _ h => h) (by kernel_rfl) (fun w hw => by (try dsimp only at hw); go_simp) hH ?_
        simp only [List.setIfInBounds_toArray, List.set_cons_zero, List.set_cons_succ]
        refine takeH 14 22 (.int .i64 ((size : Nat) : Int)) rfl (by kernel_rfl) (by kernel_rfl) (by kernel_rfl) (by kernel_rfl) (fun _ _ _ h => h) (by kernel_rfl) (fun w hw => by (try dsimp only at hw); go_simp) hH ?_
        simp only [List.setIfInBounds_toArray, List.set_cons_zero, List.set_cons_succ]
        refine takeH 15 23 (.bool false) rfl (by kernel_rfl) (by kernel_rfl) (by kernel_rfl) (by kernel_rfl) (fun _ _ _ h => h) (by kernel_rfl) (fun w hw => by (try dsimp only at hw); go_simp) hH ?_
        simp only [List.setIfInBounds_toArray, List.set_cons_zero, List.set_cons_succ]
        refine takeH 16 24 (.bool false) rfl (by kernel_rfl) (by kernel_rfl) (by kernel_rfl) (by kernel_rfl) (fun _ _ _ h => h) (by kernel_rfl) (fun w hw => by (try dsimp only at hw); go_simp) hH ?_
        simp only [List.setIfInBounds_toArray, List.set_cons_zero, List.set_cons_succ]
        refine wpAnyH_done (by kernel_rfl) ?_ _
        dsimp only [Norm]
        clear hH HS hq
        cases hidl : x.idle with
        | true =>
          rw [hidl] at HID
          have HDR2 := Hid.mk (HDR.out W.drew rfl hidl)
          have HIDL := Hid.mk hidl
          clear hidl HDR
          gi_wp2_with (first
            | (refine ⟨trivial, ?_⟩; gi_at_call 43; refine (callsIn_round (HID.out W.drew rfl)).mono ?_; rintro e w5 ⟨rfl, rfl⟩)
            | (refine ⟨trivial, ?_⟩; gi_at_call 44; refine (callsIn_round HDR2.out).mono ?_; rintro e w6 ⟨rfl, hC6, ho6⟩))
          obtain ⟨g1, g2, g3, g4⟩ := KEEP.out W.drew w6 rfl ho6
          have hI : ShI w F c m d size reads L (k + 1) w6 := by
           refine ⟨g3, g4, (stay.out W.drew rfl rfl rfl rfl).trans ho6 (fun j hj => .inl hj.1), K, hC6, ?_, ?_⟩
           · have := HKL.out
             simp at this ⊢
             omega
           · rw [HSH.out, ← HNL.out, HQ.out, shrN, if_pos HIDL.out]
             have e1 := HNL.out
             have e2 := HQ.out
             simp at e1
             rw [show (K ++ L.drop (k + 1)).length - size = q by simp; omega]
          first | exact ⟨g1, g2, .inl ⟨rfl, hI⟩⟩ | exact ⟨g1, g2, hI⟩
        | false =>
          rw [hidl] at HID
          have HIDL := Hid.mk hidl
          clear hidl HDR
          gi_wp2_with (refine ⟨trivial, ?_⟩; gi_at_call 43; refine (callsIn_round (HID.out W.drew rfl)).mono ?_; rintro e w5 ⟨rfl, rfl⟩)
          obtain ⟨g1, g2, g3, g4⟩ := KEEP.out W.drew W.drew rfl (Only.refl _ _)
          have hI : ShI w F c m d size reads L (k + 1) W.drew := by
           refine ⟨g3, g4, stay.out W.drew rfl rfl rfl rfl, K ++ [x], ?_, ?_, ?_⟩
           · rw [List.append_assoc]; exact HC.out.drew
           · rw [List.append_assoc]; exact HKL.out
           · rw [HSH.out, List.append_assoc, List.append_assoc, List.singleton_append, List.singleton_append, ← HNL.out, HQ.out, shrN, if_neg (by rw [HIDL.out]; simp)]
          first | exact ⟨g1, g2, .inl ⟨rfl, hI⟩⟩ | exact ⟨g1, g2, hI⟩
  case done =>
    rintro D W hD ⟨hbox, hsz2, hO, K, hC, hK, hsh⟩ hKD
    rw [List.drop_eq_nil_of_le (Nat.le_refl _), List.append_nil] at hC hsh
    have hfin : CaAt (fun j => F j ∧ j < w.heap.size) W c m d size reads (shrL size L) := by
      rw [hsh]
      cases K.length - size <;> simpa [shrN] using hC
    have HF := Hid.mk (And.intro hO hfin)
    have HD : Hid (w.heap.size + 2 ≤ D) := Hid.mk (by omega)
    clear hO hfin hC hK hsh hbox hsz2
    gi_wp2
    refine ⟨by simp, .inl ⟨_, _, rfl, run_takeDeferred hKD, ?_⟩⟩
    have hr : ∀ r, some D = some r → w.heap.size ≤ r := fun r e => by cases e; have := HD.out; omega
    exact ⟨.tuple #[], results_none rfl _ _ _, rfl, (HF.out.2.grown (grownBy_putObj' _ D (.deferred none)) hr).mono (fun _ h _ => h.1), HF.out.1.grownNew (grownBy_putObj' _ D (.deferred none)) hr⟩
  case stop =>
    rintro D W hD ⟨hO, hC⟩ hKD
    have HF := Hid.mk (And.intro hO hC)
    have HD : Hid (w.heap.size + 2 ≤ D) := Hid.mk (by omega)
    clear hO hC
    gi_wp2
    refine ⟨by simp, .inl ⟨_, _, rfl, run_takeDeferred hKD, ?_⟩⟩
    have hr : ∀ r, some D = some r → w.heap.size ≤ r := fun r e => by cases e; have := HD.out; omega
    exact ⟨.tuple #[], results_none rfl _ _ _, rfl, (HF.out.2.grown (grownBy_putObj' _ D (.deferred none)) hr).mono (fun _ h _ => h.1), HF.out.1.grownNew (grownBy_putObj' _ D (.deferred none)) hr⟩
end
end Go.Proofs.Ytmbhjheoomlggaa
