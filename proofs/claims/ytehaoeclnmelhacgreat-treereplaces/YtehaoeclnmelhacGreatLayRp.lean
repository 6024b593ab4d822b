/-
  A list and a read of a tree of one's own: what they answer stays beside the tree.
-/
import Derived.Test.YtehaoeclnmelhacGreatLayTop
import Derived.Test.YtehaoeclnmelhacGreatTrAlive
import Derived.Test.YtehaoeclnmelhacGreatTrRdDo
import Derived.Test.YtehaoeclnmelhacGreatLayRn
import Derived.Test.YtehaoeclnmelhacGreatTrNo
import Derived.Test.YtehaoeclnmelhacGreatTrLink
import Derived.Test.YtehaoeclnmelhacGreatTrWrDo
import Derived.Test.YtehaoeclnmelhacGreatTrHdL
namespace Go.Proofs.YtehaoeclnmelhacGreat
open Go Go.Proofs Go.RowKit Go.Shelf Go.Sort

theorem SAt.kept {W W' : World} {ao : Option Addr} {n : Nat} {L : List (List UInt8)} (h : SAt W ao n L) (hs : W.heap.size ≤ W'.heap.size) (hk : ∀ a, ao = some a → 0 < n → W'.heap[a.block]? = W.heap[a.block]?) : SAt W' ao n L := by
  refine ⟨h.1, fun hn => ?_⟩
  obtain ⟨a, ea, hlt, hc⟩ := h.2 hn
  refine ⟨a, ea, Nat.lt_of_lt_of_le hlt hs, fun k hk2 => ?_⟩
  exact (World.cell?_of_block (w := W) (w' := W') (a := a.add k) (by rw [add_block]; exact hk a ea hn)).trans (hc k hk2)
theorem own_list {w W : World} {t : Nat} {σ : Tr} {B : Nat → Prop} (hOw : OwnT w W t σ B) (hBl : ∀ k, B k → k < W.heap.size) (hkd : (nodeAt σ.nodes 0).isDir = true) (hsl : (nodeAt σ.nodes 0).slots.length ≤ 16777216) (L : List (List UInt8)) (hL : L = listL (nodeAt σ.nodes 0).slots) :
    Calls Tryz.prog 9 #[ptrV t, callV 11 ⟨#[47]⟩ ⟨#[]⟩ 0 0 (.slice none 0 0)] W fun e w' => ∃ ao c, e = .returned (.agg #[.int .i64 0, .slice none 0 0, .int .i64 0, .int .i64 0, .int .i64 0, .slice ao L.length c, .int .i64 0]) ∧ SAt w' ao L.length L ∧ L.length ≤ c ∧ c ≤ 9223372036854775807 ∧ OwnT w w' t σ (fun k => B k ∨ ∃ a, ao = some a ∧ 0 < L.length ∧ k = a.block) ∧ (∀ k, B k → w'.heap[k]? = W.heap[k]?) ∧ W.heap.size ≤ w'.heap.size ∧ (∀ a, ao = some a → W.heap.size ≤ a.block) := by
  subst hL
  obtain ⟨hO, Ls, hT, hf⟩ := hOw
  refine (do_list W t σ Ls ⟨#[47]⟩ ⟨#[]⟩ 0 0 none 0 0 0 0 0 0 0 (fun x y X => NamesQ (W.heap.size + 2) (listL (nodeAt σ.nodes 0).slots) x y X ∧ TrAt X t σ Ls) (fun k hk => hT.lt k hk) (fun x y W1 W2 hh ho => ?_) (Hid.mk (fun X hB hsz => (list_dir X t σ Ls (hT.below rfl hB) 11 ⟨#[47]⟩ ⟨#[]⟩ 0 0 none 0 0 (by decide) 0 rfl hkd hsl).mono (fun e w' hh => ?_)))).mono ?_
  · obtain ⟨⟨h1, ao, c, h2, h3, h4, h5, h6⟩, h7⟩ := hh
    refine ⟨⟨h1, ao, c, h2, h3.only ho (fun a ha _ e => by have := h4 a ha; omega), h4, h5, h6⟩, h7.kept (fun k hk => ho.block k (h7.lt k hk) (fun e => by have := hT.lt k hk; omega))⟩
  · obtain ⟨ao, n, c, h1, h2, h3, h4, h5, h6, h7⟩ := hh
    subst h2
    exact ⟨none, 0, 0, ao, _, c, h1, Step.still (hT.below rfl hB) (fun k hk => hk) h7, ⟨rfl, ao, c, rfl, h3, fun a ha => by have := h4 a ha; omega, h5, h6⟩, (hT.below rfl hB).below rfl h7⟩
  · rintro e w' ⟨a1, n1, c1, a5, n5, c5, rfl, hst, ⟨h1, ao, c, h2, h3, h4, h5, h6⟩, h7⟩
    cases h1; cases h2
    have hk : ∀ k, k < W.heap.size → k ∉ feet t Ls → w'.heap[k]? = W.heap[k]? := fun k h1 h2 => hst.only.block k h1 h2
    have hB : ∀ k, B k → k ∉ feet t Ls := fun k h1 h2 => (hf k h2).2 h1
    refine ⟨_, _, rfl, h3, h5, h6, ⟨?_, Ls, h7, fun k hkf => ⟨(hf k hkf).1, ?_⟩⟩, fun k e => hk k (hBl k e) (hB k e), hst.only.size, fun a ha => by have := h4 a ha; omega⟩
    · exact ((Only.of_below (S := fun _ => False) hO (fun k h1 h2 => by omega)).trans hst.only (fun i hi => .inr (hf i hi).1)).below (Nat.le_refl _) (fun _ h => h.elim)
    · rintro (e | ⟨a, ha, -, e⟩)
      · exact (hf k hkf).2 e
      · have := h4 a ha; have := hT.lt k hkf; omega
theorem own_read {w W : World} {t : Nat} {σ : Tr} {B : Nat → Prop} (hOw : OwnT w W t σ B) (hBl : ∀ k, B k → k < W.heap.size) (hOk : ∀ x ∈ σ.nodes, x.Ok) (s : ByteArray) (off n : Nat) (hs : s.size ≤ 16777216) (j : Nat) (he : fileE σ.nodes (ofS s) = (some j, 0)) (hj : j < σ.nodes.length) (hjk : (nodeAt σ.nodes j).isDir = false) (hoff : off ≤ 67379200) (hn : n ≤ 8192) (hz : 0 ≤ (nodeAt σ.nodes j).size ∧ (nodeAt σ.nodes j).size ≤ 67379200) (L : Nat) (hL : (L : Int) = max 0 (min (n : Int) ((nodeAt σ.nodes j).size - off))) :
    Calls Tryz.prog 9 #[ptrV t, callV 7 s ⟨#[]⟩ off n (.slice none 0 0)] W fun e w' => ∃ g, e = .returned (readV g L) ∧ RAt w' g (rdP off L (nodeAt σ.nodes j).parts (pzN off L)) ∧ OwnT w w' t σ (fun k => B k ∨ k = g) ∧ (∀ k, B k → w'.heap[k]? = W.heap[k]?) ∧ W.heap.size ≤ w'.heap.size := by
  obtain ⟨hO, Ls, hT, hf⟩ := hOw
  refine (do_read W t σ Ls s ⟨#[]⟩ off n none 0 0 0 0 0 0 0 (fun x y X => BytesQ (W.heap.size + 2) L (rdP off L (nodeAt σ.nodes j).parts (pzN off L)) x y X ∧ TrAt X t σ Ls) (fun k hk => hT.lt k hk) (fun x y W1 W2 hh ho => ?_) (Hid.mk (fun X hB hsz => (read_main X t σ Ls (hT.below rfl hB) hOk 7 s ⟨#[]⟩ off n none 0 0 hs j he hj hjk (by omega) (by omega) (by omega) (by omega) hz L hL).mono (fun e w' hh => ?_)))).mono ?_
  · obtain ⟨⟨h1, g, h2, h3, h4⟩, h7⟩ := hh
    exact ⟨⟨h1, g, h2, (ho.block g (lt_of_block h3) (by omega)).trans h3, h4⟩, h7.kept (fun k hk => ho.block k (h7.lt k hk) (fun e => by have := hT.lt k hk; omega))⟩
  · obtain ⟨g, h1, h2, h3, h4⟩ := hh
    exact ⟨_, _, _, none, 0, 0, h1, Step.still (hT.below rfl hB) (fun k hk => hk) h2, ⟨rfl, g, rfl, h3, by omega⟩, (hT.below rfl hB).below rfl h2⟩
  · rintro e w' ⟨a1, n1, c1, a5, n5, c5, rfl, hst, ⟨h1, g, h2, h3, h4⟩, h7⟩
    cases h1; cases h2
    have hk : ∀ k, k < W.heap.size → k ∉ feet t Ls → w'.heap[k]? = W.heap[k]? := fun k h1 h2 => hst.only.block k h1 h2
    have hB : ∀ k, B k → k ∉ feet t Ls := fun k h1 h2 => (hf k h2).2 h1
    refine ⟨g, rfl, h3, ⟨?_, Ls, h7, fun k hkf => ⟨(hf k hkf).1, ?_⟩⟩, fun k e => hk k (hBl k e) (hB k e), hst.only.size⟩
    · exact ((Only.of_below (S := fun _ => False) hO (fun k h1 h2 => by omega)).trans hst.only (fun i hi => .inr (hf i hi).1)).below (Nat.le_refl _) (fun _ h => h.elim)
    · rintro (e | e)
      · exact (hf k hkf).2 e
      · have := hT.lt k hkf; omega
end Go.Proofs.YtehaoeclnmelhacGreat
namespace Go.Proofs.YtehaoeclnmelhacGreat
open Go Go.Proofs Go.RowKit Go.Shelf Go.Sort

/-- A tree made since w; F tells of blocks that are none of it. -/
def Kp (w W : World) (t : Nat) (σ : Tr) (F : World → Prop) : Prop :=
  ∃ B : Nat → Prop, OwnT w W t σ B ∧ (∀ k, B k → k < W.heap.size) ∧ ∀ W', (∀ k, B k → W'.heap[k]? = W.heap[k]?) → W.heap.size ≤ W'.heap.size → F W'
variable {w W : World} {t : Nat} {σ σ' : Tr} {F G : World → Prop}
theorem Kp.now (h : Kp w W t σ F) : F W := by
  obtain ⟨B, _, _, h3⟩ := h
  exact h3 W (fun _ _ => rfl) (Nat.le_refl _)
theorem Kp.below (h : Kp w W t σ F) : Below w.heap.size w W := by
  obtain ⟨B, h1, _, _⟩ := h
  exact h1.below
theorem Kp.then {W' : World} (h : Kp w W t σ F) (hB : Below W.heap.size W W') : Kp w W' t σ F := by
  obtain ⟨B, h1, h2, h3⟩ := h
  exact ⟨B, h1.then hB, fun k hk => Nat.lt_of_lt_of_le (h2 k hk) hB.size, fun X hx hs => h3 X (fun k hk => (hx k hk).trans (hB.block k (h2 k hk))) (Nat.le_trans hB.size hs)⟩
theorem Kp.mono (h : Kp w W t σ F) (hG : ∀ X, F X → G X) : Kp w W t σ G := by
  obtain ⟨B, h1, h2, h3⟩ := h
  exact ⟨B, h1, h2, fun X hx hs => hG X (h3 X hx hs)⟩
theorem Kp.own (h : OwnT w W t σ (fun _ => False)) : Kp w W t σ (fun _ => True) := ⟨fun _ => False, h, fun _ hk => hk.elim, fun _ _ _ => trivial⟩
/-- A box, made beside it. -/
theorem Kp.box (h : Kp w W t σ F) (o : Obj) : Kp w (W.alloc o) t σ (fun X => F X ∧ X.heap[W.heap.size]? = some o) := by
  obtain ⟨B, h1, h2, h3⟩ := h
  refine ⟨fun k => B k ∨ k = W.heap.size, h1.box o, fun k hk => ?_, fun X hx hs => ⟨h3 X (fun k hk => ?_) ?_, ?_⟩⟩
  · rcases hk with hk | rfl
    · have := h2 k hk; simp; omega
    · simp
  · exact (hx k (.inl hk)).trans (Below.heap_alloc _ _ _ (h2 k hk))
  · simp at hs; omega
  · exact (hx _ (.inr rfl)).trans (blk_new W o)
theorem Kp.doQ {H : FuncId} {vs : Array Value} {Q : Ending → World → Prop} (h : Kp w W t σ F) (hC : ∀ Ls, TrAt W t σ Ls → (∀ k ∈ feet t Ls, w.heap.size ≤ k) → F W → Calls Tryz.prog H vs W fun e w' => Q e w' ∧ Step (fun k => k ∈ feet t Ls) W t w' σ') :
    Calls Tryz.prog H vs W fun e w' => Q e w' ∧ Kp w w' t σ' F := by
  have hF := h.now
  obtain ⟨B, h1, h2, h3⟩ := h
  refine (own_doQ h1 h2 (fun Ls hT hk => hC Ls hT (fun k hkf => (hk k hkf).1) hF)).mono ?_
  rintro e w' ⟨hq, hO, hk, hs⟩
  exact ⟨hq, B, hO, fun k hk2 => Nat.lt_of_lt_of_le (h2 k hk2) hs, fun X hx hxs => h3 X (fun k hk2 => (hx k hk2).trans (hk k hk2)) (Nat.le_trans hs hxs)⟩
theorem Kp.doo {H : FuncId} {vs : Array Value} {v : Value} (h : Kp w W t σ F) (hC : ∀ Ls, TrAt W t σ Ls → Calls Tryz.prog H vs W fun e w' => e = .returned v ∧ Step (fun k => k ∈ feet t Ls) W t w' σ') :
    Calls Tryz.prog H vs W fun e w' => e = .returned v ∧ Kp w w' t σ' F := h.doQ (Q := fun e _ => e = .returned v) (fun Ls hT _ _ => hC Ls hT)
/-- What the root's list answers stays. -/
theorem Kp.list (h : Kp w W t σ F) (hkd : (nodeAt σ.nodes 0).isDir = true) (hsl : (nodeAt σ.nodes 0).slots.length ≤ 16777216) (L : List (List UInt8)) (hL : L = listL (nodeAt σ.nodes 0).slots) :
    Calls Tryz.prog 9 #[ptrV t, callV 11 ⟨#[47]⟩ ⟨#[]⟩ 0 0 (.slice none 0 0)] W fun e w' => ∃ ao c, e = .returned (.agg #[.int .i64 0, .slice none 0 0, .int .i64 0, .int .i64 0, .int .i64 0, .slice ao L.length c, .int .i64 0]) ∧ L.length ≤ c ∧ c ≤ 9223372036854775807 ∧ Kp w w' t σ (fun X => F X ∧ SAt X ao L.length L) := by
  obtain ⟨B, h1, h2, h3⟩ := h
  refine (own_list h1 h2 hkd hsl L hL).mono ?_
  rintro e w' ⟨ao, c, rfl, hS, hc1, hc2, hO, hk, hs, -⟩
  refine ⟨ao, c, rfl, hc1, hc2, _, hO, fun k hk2 => ?_, fun X hx hxs => ⟨h3 X (fun k hk2 => (hx k (.inl hk2)).trans (hk k hk2)) (Nat.le_trans hs hxs), hS.kept hxs (fun a ha h0 => hx _ (.inr ⟨a, ha, h0, rfl⟩))⟩⟩
  rcases hk2 with hk2 | ⟨a, ha, h0, rfl⟩
  · exact Nat.lt_of_lt_of_le (h2 k hk2) hs
  · obtain ⟨a', ea, hlt, _⟩ := hS.2 h0
    rw [ha] at ea
    cases ea
    exact hlt
/-- What a read answers stays. -/
theorem Kp.read (h : Kp w W t σ F) (hOk : ∀ x ∈ σ.nodes, x.Ok) (s : ByteArray) (off n : Nat) (hs : s.size ≤ 16777216) (j : Nat) (he : fileE σ.nodes (ofS s) = (some j, 0)) (hj : j < σ.nodes.length) (hjk : (nodeAt σ.nodes j).isDir = false) (hoff : off ≤ 67379200) (hn : n ≤ 8192) (hz : 0 ≤ (nodeAt σ.nodes j).size ∧ (nodeAt σ.nodes j).size ≤ 67379200) (L : Nat) (hL : (L : Int) = max 0 (min (n : Int) ((nodeAt σ.nodes j).size - off))) (ys : List Int) (hy : ys = rdP off L (nodeAt σ.nodes j).parts (pzN off L)) :
    Calls Tryz.prog 9 #[ptrV t, callV 7 s ⟨#[]⟩ off n (.slice none 0 0)] W fun e w' => ∃ g, e = .returned (readV g L) ∧ Kp w w' t σ (fun X => F X ∧ RAt X g ys) := by
  subst hy
  obtain ⟨B, h1, h2, h3⟩ := h
  refine (own_read h1 h2 hOk s off n hs j he hj hjk hoff hn hz L hL).mono ?_
  rintro e w' ⟨g, rfl, hR, hO, hk, hs⟩
  refine ⟨g, rfl, _, hO, fun k hk2 => ?_, fun X hx hxs => ⟨h3 X (fun k hk2 => (hx k (.inl hk2)).trans (hk k hk2)) (Nat.le_trans hs hxs), (hx g (.inr rfl)).trans hR⟩⟩
  rcases hk2 with hk2 | rfl
  · exact Nat.lt_of_lt_of_le (h2 k hk2) hs
  · exact lt_of_block hR
end Go.Proofs.YtehaoeclnmelhacGreat
namespace Go.Proofs.YtehaoeclnmelhacGreat
open Go Go.Proofs Go.RowKit Go.Shelf Go.Sort

def rpL (i : Nat) : List UInt8 := [108, UInt8.ofNat (48 + i)]
def rpPath (i : Nat) : ByteArray := mkS (47 :: rpL i)
def rpDig (i : Nat) : ByteArray := ⟨#[UInt8.ofNat (48 + i)]⟩
theorem rp_cat (i : Nat) : (⟨#[47, 108]⟩ : ByteArray) ++ rpDig i = rpPath i := by
  apply ofS_inj
  unfold rpPath
  rw [of_mk]
  show ((⟨#[47, 108]⟩ : ByteArray) ++ rpDig i).data.toList = _
  rw [ByteArray.data_append]
  simp [rpDig, rpL]
theorem rp_size (i : Nat) : (rpPath i).size = 3 := by unfold rpPath; rw [mkS_size]; rfl
theorem rp_of (i : Nat) : ofS (rpPath i) = 47 :: rpL i := of_mk _
set_option maxRecDepth 100000 in
theorem exec_rp {ev : Operand → Value} {oi : Oper} {x y : Operand} {s : Operand} {w : World} (q : Nat) (hq : q < 10) (ho : oi.op = .slice 9 s (some x) (some y) none) (hv : ev s = .string ⟨#[48, 49, 50, 51, 52, 53, 54, 55, 56, 57]⟩) (hx : ev x = .int .i64 q) (hy : ev y = .int .i64 ((q : Int) + 1)) :
    (execOp ev oi).run Tryz.prog w = .ok (.value (.string (rpDig q))) w := by
  unfold execOp
  rw [ho]
  simp only [hx, hy, hv, Option.map]
  have h : q = 0 ∨ q = 1 ∨ q = 2 ∨ q = 3 ∨ q = 4 ∨ q = 5 ∨ q = 6 ∨ q = 7 ∨ q = 8 ∨ q = 9 := by omega
  rcases h with rfl | rfl | rfl | rfl | rfl | rfl | rfl | rfl | rfl | rfl <;> rfl
def rpR (n : Nat) : List Slt := (List.range (n - 1)).map (fun k => some (2, rpL (k + 1))) ++ List.replicate (29 - n) none
/-- The root's slots, with n - 1 more names of the second file. -/
def rpS (n : Nat) : List Slt := some (1, [97]) :: some (2, [98]) :: rpR n
theorem rp_none : ∀ n, n ≤ 10 → lookS (rpS n) (rpL n) = none := by decide +kernel
theorem rp_free : ∀ n, n ≤ 10 → 0 < n → freeAt (rpS n) = n + 1 ∧ (rpS n).length = 30 := by decide +kernel
theorem rp_setB : ∀ n, n < 9 → decide ((rpS (n + 1)).set (n + 2) (some (2, rpL (n + 1))) = rpS (n + 2)) = true := by decide +kernel
theorem rp_set (n : Nat) (hn : n < 10) (h0 : 0 < n) : (rpS n).set (n + 1) (some (2, rpL n)) = rpS (n + 1) := by
  obtain ⟨m, rfl⟩ : ∃ m, n = m + 1 := ⟨n - 1, by omega⟩
  exact of_decide_eq_true (rp_setB m (by omega))
theorem rp_a : ∀ n, n ≤ 10 → lookS (rpS n) [97] = some 1 := by decide +kernel
theorem rp_b : ∀ n, n ≤ 10 → lookS (rpS n) [98] = some 2 := by decide +kernel
theorem rp_split : ∀ i, i < 10 → splitL (47 :: rpL i) = some [rpL i] := by decide +kernel
def rpT (xs : List Int) (n : Nat) : Tr := ⟨1, 1, 40, 3, 1 + (pzN 0 xs.length : Int), [.dir 2 1024 (rpS n), .file 1 xs.length (hwB xs), .file n 0 []]⟩
def rp1 : Tr := (enterS (newT 1 1 40) [47, 97] newF).2
theorem rp1_is : enterS (newT 1 1 40) (ofS ⟨#[47, 97]⟩) newF = (0, rp1) := Prod.ext (by decide +kernel) rfl
theorem rp2_is : enterS rp1 (ofS ⟨#[47, 98]⟩) newF = (0, rpT [] 1) := Prod.ext (by decide +kernel) (by kernel_rfl)
theorem rp1_nodes : rp1.nodes = [.dir 2 1024 (some (1, [97]) :: List.replicate 29 none), .file 1 0 []] := by kernel_rfl
theorem rp_fok (l z : Int) : (Nd.file l z []).Ok := ⟨⟨List.Pairwise.nil, fun x h => (List.not_mem_nil h).elim⟩, by simp⟩
theorem rp1_ok : ∀ x ∈ rp1.nodes, x.Ok := by
  rw [rp1_nodes]
  intro x hx
  simp only [List.mem_cons, List.not_mem_nil, or_false] at hx
  rcases hx with rfl | rfl
  · exact ⟨by omega, by omega, by simp⟩
  · exact rp_fok _ _
theorem hw_ok {xs : List Int} (h1 : xs.length ≤ 2000) (l z : Int) : (Nd.file l z (hwB xs)).Ok := by
  rcases Nat.eq_zero_or_pos xs.length with h0 | h0
  · obtain rfl : xs = [] := List.eq_nil_of_length_eq_zero h0
    exact rp_fok _ _
  · have hk := hd_keys h0 h1
    have hz := hd_pz h0 h1
    refine ⟨⟨(wr_len 0 xs.length xs [] _ List.Pairwise.nil).1, fun x hx => ?_⟩, ?_⟩
    · have : x.1 ∈ (hwB xs).map (·.1) := List.mem_map.2 ⟨x, hx, rfl⟩
      rw [hk] at this
      have := mem_upto' this
      omega
    · have : (hwB xs).length = ((hwB xs).map (·.1)).length := by simp
      rw [this, hk]
      simp [upto]
      omega
theorem rpT_ok {xs : List Int} (h1 : xs.length ≤ 2000) {n : Nat} (hn : n ≤ 10) (hn0 : 0 < n) : ∀ x ∈ (rpT xs n).nodes, x.Ok := by
  intro x hx
  simp only [rpT, List.mem_cons, List.not_mem_nil, or_false] at hx
  rcases hx with rfl | rfl | rfl
  · exact ⟨by omega, by omega, by rw [(rp_free n hn hn0).2]; omega⟩
  · exact hw_ok h1 _ _
  · exact rp_fok _ _
theorem rp_pz {n : Nat} (h1 : n ≤ 2000) : pzN 0 n ≤ 2 := by
  rcases Nat.eq_zero_or_pos n with h | h
  · rw [h]; decide
  · rcases hd_pz h h1 with h | h <;> omega
theorem rp_growth {xs : List Int} {n : Nat} (hn : n ≤ 10) (hn0 : 0 < n) : (nodeAt (rpT xs n).nodes 0).growth = 0 := by
  obtain ⟨f1, f2⟩ := rp_free n hn hn0
  show (Nd.dir 2 1024 (rpS n)).growth = 0
  unfold Nd.growth Nd.slots
  simp only
  rw [if_pos (by omega)]
theorem rp_link {xs : List Int} (h1 : xs.length ≤ 2000) {n : Nat} (hn : n < 10) (hn0 : 0 < n) : linkT (rpT xs n) 0 (rpL n) 2 = rpT xs (n + 1) := by
  obtain ⟨f1, f2⟩ := rp_free n (by omega) hn0
  have hp := rp_pz h1
  unfold linkT
  rw [rp_growth (by omega) hn0]
  have e1 : w64 ((rpT xs n).inodes + 0) = 3 := by simp only [rpT, w64]; unfold wrap64; omega
  have e2 : w64 ((rpT xs n).blocks + 0) = 1 + (pzN 0 xs.length : Int) := by simp only [rpT, w64]; unfold wrap64; omega
  rw [e1, e2]
  have e3 : ((rpT xs n).nodes.modify 0 (fun x => x.add (rpL n) 2)).modify 2 (fun x => x.more 1) = (rpT xs (n + 1)).nodes := by
    simp only [rpT, List.modify_succ_cons, List.modify_zero_cons, Nd.add, Nd.more]
    rw [f1, if_pos (by omega), rp_set n hn hn0]
    have : w64 ((n : Int) + 1) = ((n + 1 : Nat) : Int) := by unfold w64 wrap64; omega
    rw [this]
  rw [e3]
  rfl
theorem rp_fits {xs : List Int} (h1 : xs.length ≤ 2000) (n : Nat) : fitsB (rpT xs n).G (rpT xs n).I (rpT xs n).D (rpT xs n).inodes (rpT xs n).blocks 0 0 = true := by
  have hp := rp_pz h1
  show fitsB 1 1 40 3 (1 + (pzN 0 xs.length : Int)) 0 0 = true
  have h : pzN 0 xs.length = 0 ∨ pzN 0 xs.length = 1 ∨ pzN 0 xs.length = 2 := by omega
  rcases h with h | h | h <;> rw [h] <;> decide +kernel
theorem rp_write {xs : List Int} (h0 : 0 < xs.length) (h1 : xs.length ≤ 2000) : writeT (rpT [] 1) 0 xs 1 = rpT xs 1 := by
  unfold writeT
  have hp : (nodeAt (rpT [] 1).nodes 1).parts = [] := rfl
  rw [hp, hd_fill h0 h1]
  have hz := hd_pz h0 h1
  have e1 : w64 ((rpT [] 1).inodes + 0) = 3 := by simp only [rpT, w64]; unfold wrap64; omega
  have e2 : w64 ((rpT [] 1).blocks + (pzN 0 xs.length : Int)) = 1 + (pzN 0 xs.length : Int) := by
    show w64 (1 + ((pzN 0 0 : Nat) : Int) + (pzN 0 xs.length : Int)) = _
    have : pzN 0 0 = 0 := by decide
    rw [this]
    unfold w64 wrap64
    omega
  rw [e1, e2]
  have e3 : (rpT [] 1).nodes.modify 1 (fun x => x.wr 0 xs) = (rpT xs 1).nodes := by
    simp only [rpT, List.modify_succ_cons, List.modify_zero_cons, Nd.wr, hwB]
    have a1 : max 0 (0 + (xs.length : Int)) = xs.length := by omega
    have a2 : max ((([] : List Int).length : Nat) : Int) (0 + (xs.length : Int)) = xs.length := by simp
    first | rw [a1] | rw [a2]
    rfl
  rw [e3]
  rfl
/-- Behind the rename. -/
def rpG (xs : List Int) (n : Nat) : Tr := ontoT (rpT xs n) 0 [97] 1 0 [98] 2
theorem rp_put (n : Nat) : (Nd.dir 2 1024 (rpS n)).put [98] 1 = .dir 2 1024 (some (1, [97]) :: some (1, [98]) :: rpR n) := by
  have : nameAt (some (1, [97]) :: some (2, [98]) :: rpR n) [98] = 1 := by
    unfold nameAt
    rw [List.findIdx_cons, List.findIdx_cons]
    rfl
  simp only [Nd.put, rpS, this, List.set_cons_succ, List.set_cons_zero]
theorem rp_del (n : Nat) : (Nd.dir 2 1024 (some (1, [97]) :: some (1, [98]) :: rpR n)).del [97] = .dir 2 1024 (none :: some (1, [98]) :: rpR n) := by
  have : nameAt (some (1, [97]) :: some (1, [98]) :: rpR n) [97] = 0 := by
    unfold nameAt
    rw [List.findIdx_cons]
    rfl
  simp only [Nd.del, this, List.set_cons_zero]
theorem rpG_nodes (xs : List Int) (n : Nat) : (rpG xs n).nodes = [.dir 2 1024 (none :: some (1, [98]) :: rpR n), .file 1 xs.length (hwB xs), .file (w64 ((n : Int) + -1)) 0 []] := by
  have hls : (loseS { rpT xs n with nodes := (rpT xs n).nodes.modify 0 (fun x => x.put [98] 1) } 0 2).nodes = [.dir 2 1024 (some (1, [97]) :: some (1, [98]) :: rpR n), .file 1 xs.length (hwB xs), .file (w64 ((n : Int) + -1)) 0 []] := by
    have e : (rpT xs n).nodes.modify 0 (fun x => x.put [98] 1) = [.dir 2 1024 (some (1, [97]) :: some (1, [98]) :: rpR n), .file 1 xs.length (hwB xs), .file n 0 []] := by
      simp only [rpT, List.modify_zero_cons, rp_put]
    rw [e]
    unfold loseS
    split
    · next h => exact Bool.noConfusion (show false = true from h)
    · split
      · simp only [loseM, List.modify_succ_cons, List.modify_zero_cons, Nd.more]
      · simp only [loseL, List.modify_succ_cons, List.modify_zero_cons, Nd.more]
  unfold rpG ontoT leaveT
  rw [if_neg (by rw [hls]; exact (show ¬ (false = true) by decide))]
  simp only
  rw [hls]
  simp only [List.modify_zero_cons, rp_del]
theorem rpG_ok {xs : List Int} (h1 : xs.length ≤ 2000) {n : Nat} (hn : n ≤ 10) (hn0 : 0 < n) : ∀ x ∈ (rpG xs n).nodes, x.Ok := by
  rw [rpG_nodes]
  intro x hx
  simp only [List.mem_cons, List.not_mem_nil, or_false] at hx
  have hl : (rpR n).length = 28 := by have := (rp_free n hn hn0).2; unfold rpS at this; simpa using this
  rcases hx with rfl | rfl | rfl
  · exact ⟨by omega, by omega, by simp [hl]⟩
  · exact hw_ok h1 _ _
  · exact rp_fok _ _
theorem rp_rename (xs : List Int) {n : Nat} (hn : n ≤ 10) : renameS (rpT xs n) (ofS ⟨#[47, 97]⟩) (ofS ⟨#[47, 98]⟩) = (0, rpG xs n) := by
  have e1 : splitL (ofS ⟨#[47, 97]⟩) = some [[97]] := by decide
  have e2 : splitL (ofS ⟨#[47, 98]⟩) = some [[98]] := by decide
  have hw : wayE (rpT xs n).nodes 0 [] = (some 0, 0) := rfl
  have hnd : nodeAt (rpT xs n).nodes 0 = .dir 2 1024 (rpS n) := rfl
  have s1 : spotE (rpT xs n).nodes [] [97] = (0, some ⟨0, [97], some 1⟩) := by
    unfold spotE
    rw [hw]
    simp only
    rw [hnd]
    simp only [Nd.isDir, Nd.slots, if_true, rp_a n hn]
  have s2 : spotE (rpT xs n).nodes [] [98] = (0, some ⟨0, [98], some 2⟩) := by
    unfold spotE
    rw [hw]
    simp only
    rw [hnd]
    simp only [Nd.isDir, Nd.slots, if_true, rp_b n hn]
  have ow : onWay (rpT xs n).nodes [] 1 = false := rfl
  have o1 : ontoE (rpT xs n) 1 2 = 0 := rfl
  have o2 : ontoR (rpT xs n) 0 [97] 1 0 [98] 2 = rpG xs n := by unfold ontoR; rw [if_neg (by rw [o1]; simp)]; rfl
  unfold renameS
  rw [e1, e2]
  show (if ([[97]] : List (List UInt8)) = [] ∨ ([[98]] : List (List UInt8)) = [] then _ else _) = _
  rw [if_neg (by simp)]
  show (match spotE (rpT xs n).nodes [] [97] with
      | (e, none) => (e, rpT xs n)
      | (_, some ⟨_, _, none⟩) => (10, rpT xs n)
      | (_, some ⟨d, p, some j⟩) => match spotE (rpT xs n).nodes [] [98] with
        | (e, none) => (e, rpT xs n)
        | (_, some ⟨d2, q, o⟩) =>
          if onWay (rpT xs n).nodes [] j = true then (19, rpT xs n)
          else match o with
            | none => (moveE (rpT xs n) d j d2, moveR (rpT xs n) d p j d2 q)
            | some j2 => (ontoE (rpT xs n) j j2, ontoR (rpT xs n) d p j d2 q j2)) = _
  rw [s1]
  simp only [s2, ow]
  simp [o1, o2]
def rpN (n : Nat) : List (List UInt8) := listL (none :: some (1, [98]) :: rpR n)
theorem rp_names : ∀ n, n ≤ 10 → 0 < n → (rpN n).length = n ∧ (rpN n).getD 0 [] = [98] := by decide +kernel
theorem hd_wayb {N : List Nd} {l z : Int} {s : List Slt} {p : List UInt8} {j : Nat} {hN : N[0]? = some (.dir l z s)} (hl : lookS s p = some j) : wayE N 0 [p] = (some j, 0) := by
  have := (way_dir [] hN hl).2
  unfold wayE
  rw [this]
  rfl
theorem rp_file (xs : List Int) (n : Nat) : fileE (rpG xs n).nodes (ofS ⟨#[47, 98]⟩) = (some 1, 0) := by
  have e1 : splitL (ofS ⟨#[47, 98]⟩) = some [[98]] := by decide
  have hl : lookS (none :: some (1, [98]) :: rpR n) [98] = some 1 := by
    unfold lookS nameAt
    rw [List.findIdx_cons, List.findIdx_cons]
    rfl
  unfold fileE nodeE
  rw [e1, rpG_nodes]
  simp only
  rw [hd_wayb (hN := rfl) (l := 2) (z := 1024) (s := none :: some (1, [98]) :: rpR n) hl]
  rfl
theorem rp_gone {xs : List Int} {n : Nat} (hn : n ≤ 10) : statV (rpG xs n).nodes (ofS ⟨#[47, 97]⟩) = .agg #[.int .i64 10, .slice none 0 0, .int .i64 0, .int .i64 0, .int .i64 0, .slice none 0 0, .int .i64 0] := by
  have e1 : splitL (ofS ⟨#[47, 97]⟩) = some [[97]] := by decide
  have hl : ∀ n, n ≤ 10 → lookS (none :: some (1, [98]) :: rpR n) [97] = none := by decide +kernel
  have hd : downS [.dir 2 1024 (none :: some (1, [98]) :: rpR n), .file 1 xs.length (hwB xs), .file (w64 ((n : Int) + -1)) 0 []] 0 [[97]] = (10, 0) := by
    rw [downS]
    show (match lookS (none :: some (1, [98]) :: rpR n) [97] with
      | some j => downS _ j []
      | none => (10, 0)) = (10, 0)
    rw [hl n hn]
  unfold statV nodeE
  rw [e1, rpG_nodes]
  simp only
  unfold wayE
  rw [hd]
  rfl
theorem rp_left {xs : List Int} {n : Nat} (hn : n ≤ 10) (h1 : 1 < n) : statV (rpG xs n).nodes (ofS ⟨#[47, 108, 49]⟩) = .agg #[.int .i64 0, .slice none 0 0, .int .i64 1, .int .i64 0, .int .i64 ((n : Int) - 1), .slice none 0 0, .int .i64 0] := by
  have e1 : splitL (ofS ⟨#[47, 108, 49]⟩) = some [[108, 49]] := by decide
  have hl : ∀ n, n ≤ 10 → 1 < n → lookS (none :: some (1, [98]) :: rpR n) [108, 49] = some 2 := by decide +kernel
  have hd : downS [.dir 2 1024 (none :: some (1, [98]) :: rpR n), .file 1 xs.length (hwB xs), .file (w64 ((n : Int) + -1)) 0 []] 0 [[108, 49]] = (0, 2) := by
    rw [downS]
    show (match lookS (none :: some (1, [98]) :: rpR n) [108, 49] with
      | some j => downS [.dir 2 1024 (none :: some (1, [98]) :: rpR n), .file 1 xs.length (hwB xs), .file (w64 ((n : Int) + -1)) 0 []] j []
      | none => (10, 0)) = (0, 2)
    rw [hl n hn h1]
    rfl
  have hw : w64 ((n : Int) + -1) = (n : Int) - 1 := by unfold w64 wrap64; omega
  unfold statV nodeE
  rw [e1, rpG_nodes]
  simp only
  unfold wayE
  rw [hd]
  rw [hw]
  rfl
theorem rp_spot {N : List Nd} {l z : Int} {s : List Slt} (p : List UInt8) (h : nodeAt N 0 = .dir l z s) : spotE N [] p = (0, some ⟨0, p, lookS s p⟩) := by
  have hw : wayE N 0 [] = (some 0, 0) := rfl
  unfold spotE
  rw [hw]
  simp only
  rw [h]
  simp only [Nd.isDir, Nd.slots, if_true]
theorem rp_read {xs : List Int} : rdP 0 xs.length (hwB xs) (pzN 0 xs.length) = xs := hd_read xs
end Go.Proofs.YtehaoeclnmelhacGreat
namespace Go.Proofs.YtehaoeclnmelhacGreat
open Go Go.Proofs Go.RowKit Go.Shelf Go.Sort

theorem wpList_it {P : Program} {w : World} {ops : Array Oper} {l : List Oper} {a : Act} {Q : Exit → Act → World → Prop} (h : wpList P ops Q l a w) : wpList P ops Q l a w := h
theorem wpList_knownS {P : Program} {w : World} {ops : Array Oper} {rest : List Oper} {o : Oper} {a : Act} {Q : Exit → Act → World → Prop} (hw : Region.wanted o (yielded ops a.tmps) = true) (v : Value) (w' : World)
    (hrun : (execOp a.eval o).run P w = .ok (.value v) w') (h : wpList P ops Q rest (a.put o.dst v) w') : wpList P ops Q (o :: rest) a w := by
  refine BigFrame.wpList_want hw fun K hK => ?_
  unfold Oper.wp
  rw [hrun, Oper.upon_value]
  exact hK _ _ h
theorem lW_any3 (w : World) (s : ByteArray) (off : Int) (ao : Option Addr) (dl dc : Nat) : Calls Tryz.prog 14 #[.string s, .int .i64 off, .slice ao dl dc] w fun x w' => x = .returned (callV 8 s ⟨#[]⟩ off 0 (.slice ao dl dc)) ∧ Below w.heap.size w w' := by
  go_enter Tryz.func14, Tryz.ntmps14
  go_wp2
  refine bodyPost_ret (v := callV 8 s ⟨#[]⟩ off 0 (.slice ao dl dc)) ?_ rfl ⟨rfl, ?_⟩
  · simp [results, Tryz.results14, go_sem, callV]
  · exact (Below.refl _ w).alloc (Nat.le_refl _) _
/-- The write, of some bytes or none. -/
theorem rp_do {w W : World} {t : Nat} {F : World → Prop} (h : Kp w W t (rpT [] 1) F) (ao : Option Addr) (dc : Nat) (xs : List Int) (h1 : xs.length ≤ 2000) (hX : BAt w ao xs.length xs) (hdc : xs.length ≤ dc) (hdc2 : dc ≤ 9223372036854775807) :
    Calls Tryz.prog 9 #[ptrV t, callV 8 ⟨#[47, 97]⟩ ⟨#[]⟩ 0 0 (.slice ao xs.length dc)] W fun e w' => (∃ v : Int, e = .returned (.agg #[.int .i64 0, .slice none 0 0, .int .i64 0, .int .i64 0, .int .i64 0, .slice none 0 0, .int .i64 v])) ∧ Kp w w' t (rpT xs 1) F := by
  have hfE : fileE (rpT [] 1).nodes (ofS ⟨#[47, 97]⟩) = (some 1, 0) := by kernel_rfl
  rcases Nat.eq_zero_or_pos xs.length with h0 | h0
  · obtain rfl : xs = [] := List.eq_nil_of_length_eq_zero h0
    exact h.doQ (Q := fun e _ => ∃ v : Int, e = .returned (.agg #[.int .i64 0, .slice none 0 0, .int .i64 0, .int .i64 0, .int .i64 0, .slice none 0 0, .int .i64 v])) (fun Ls hT _ _ => (doo_write_none W t _ Ls hT ⟨#[47, 97]⟩ ⟨#[]⟩ 0 0 ao 0 dc (by decide) (by decide) (by decide) rfl 1 hfE).mono (fun e w' hh => ⟨⟨0, hh.1⟩, hh.2⟩))
  · obtain ⟨a, rfl, hal, _⟩ := hX.2 h0
    refine h.doQ (Q := fun e _ => ∃ v : Int, e = .returned (.agg #[.int .i64 0, .slice none 0 0, .int .i64 0, .int .i64 0, .int .i64 0, .slice none 0 0, .int .i64 v])) (fun Ls hT hf _ => ?_)
    have hz := hd_pz h0 h1
    have := doo_write W t (rpT [] 1) Ls hT (rpT_ok (by simp) (by omega) (by omega)) ⟨#[47, 97]⟩ ⟨#[]⟩ 0 0 a xs.length dc xs (by decide) 1 hfE (by simp [rpT]) rfl (by omega) h0 (by omega) hdc hdc2 (by omega) (hX.only (Only.of_new (fun _ => False) h.below) (fun _ _ _ h => h)) (fun hh => by have := hf _ hh; omega) (by show ([] : List (Int × List Int)).length ≤ 70000; simp) (by
      show fitsB 1 1 40 3 (1 + ((pzN 0 0 : Nat) : Int)) 0 (fillN 0 xs.length []) = true
      rw [hd_fill h0 h1]
      rcases hz with h | h
      · rw [h]; decide +kernel
      · rw [h]; decide +kernel)
    rw [rp_write h0 h1] at this
    exact this.mono (fun e w' hh => ⟨⟨_, hh.1⟩, hh.2⟩)
set_option maxRecDepth 100000 in
set_option maxHeartbeats 4000000 in
theorem replaces_law (w : World) (lk : Int) (ao : Option Addr) (dl dc : Nat) (xs : List Int) (hX : BAt w ao dl xs) (hdc : dl ≤ dc) (hdc2 : dc ≤ 9223372036854775807) : Calls Tryz.prog 5 #[.int .i64 lk, .slice ao dl dc] w fun e w' => e = .returned (.bool true) ∧ Below w.heap.size w w' := by
  have HA := Hid.mk (alive_any w)
  by_cases c1 : lk < 1
  · go_enter Tryz.func5, Tryz.ntmps5
    go_wp2_with (go_at_call 7; refine HA.out.mono ?_; rintro e W0 ⟨rfl, hw⟩; have HB := Hid.mk hw; clear hw)
    go_ret
    exact ⟨rfl, HB.out⟩
  by_cases c2 : 10 < lk
  · go_enter Tryz.func5, Tryz.ntmps5
    go_wp2_with (go_at_call 7; refine HA.out.mono ?_; rintro e W0 ⟨rfl, hw⟩; have HB := Hid.mk hw; clear hw)
    go_ret
    exact ⟨rfl, HB.out⟩
  by_cases c3 : (2000 : Int) < dl
  · go_enter Tryz.func5, Tryz.ntmps5
    go_wp2_with (go_at_call 7; refine HA.out.mono ?_; rintro e W0 ⟨rfl, hw⟩; have HB := Hid.mk hw; clear hw)
    go_ret
    exact ⟨rfl, HB.out⟩
  obtain ⟨n, rfl⟩ : ∃ k : Nat, lk = k := ⟨lk.toNat, by omega⟩
  have hxl : xs.length = dl := hX.1
  subst hxl
  have HD : Hid (0 < n ∧ n ≤ 10 ∧ xs.length ≤ 2000) := Hid.mk (by omega)
  have HX := Hid.mk hX
  have HDC : Hid (xs.length ≤ dc ∧ dc ≤ 9223372036854775807) := Hid.mk ⟨hdc, hdc2⟩
  clear hX hdc hdc2
  go_enter Tryz.func5, Tryz.ntmps5
  go_upto_region 5 with (first
    | (go_at_call 7; refine HA.out.mono ?_; rintro e W0 ⟨rfl, hw⟩; have HB := Hid.mk hw; clear hw)
    | (go_at_call 13; refine (lG_any _ _).mono ?_; rintro e W1 ⟨rfl, hB1⟩; have B1 := Hid.mk (HB.out.trans (hB1.mono HB.out.size)); clear hB1)
    | (go_at_call 8; refine (new_any _ 1 1 40).mono ?_; rintro e W2 ⟨rfl, hT2, hB2⟩; have O : Hid (Kp w W2 (W1.heap.size + 4) (newT 1 1 40) (fun _ => True)) := Hid.mk (Kp.own ⟨B1.out.trans (hB2.mono B1.out.size), _, hT2, fun k hk => ⟨by simp [feet, Lay.foot] at hk; have := B1.out.size; omega, fun h => h⟩⟩); unfold ptrV; clear hT2 hB2))
  generalize W1.heap.size + 4 = t at *
  clear HB B1 HA
  go_upto_region 6 with (first
    | (go_at_call 10; refine (lC_any _ _ _).mono ?_; rintro e W4 ⟨rfl, hB3⟩; have O1 := Hid.mk (O.out.then hB3); clear O; have O := O1; clear O1 hB3; unfold callV)
    | (go_at_call 9; refine (O.out.doo (σ' := rp1) (fun Ls hT => by have := doo_create _ t _ Ls hT (new_ok _ _ _) ⟨#[47, 97]⟩ ⟨#[]⟩ 0 0 none 0 0 (by decide); rw [rp1_is] at this; exact this)).mono ?_; rintro e W5 ⟨rfl, hO⟩; clear O; have O := Hid.mk hO; unfold errV; clear hO))
  go_upto_region 7 with (first
    | (go_at_call 10; refine (lC_any _ _ _).mono ?_; rintro e W4 ⟨rfl, hB3⟩; have O1 := Hid.mk (O.out.then hB3); clear O; have O := O1; clear O1 hB3; unfold callV)
    | (go_at_call 9; refine (O.out.doo (σ' := rpT [] 1) (fun Ls hT => by have := doo_create _ t _ Ls hT rp1_ok ⟨#[47, 98]⟩ ⟨#[]⟩ 0 0 none 0 0 (by decide); rw [rp2_is] at this; exact this)).mono ?_; rintro e W5 ⟨rfl, hO⟩; clear O; have O := Hid.mk hO; unfold errV; clear hO))
  go_upto_region 8 with (first
    | (go_at_call 14; refine (lW_any3 _ _ _ _ _ _).mono ?_; rintro e W4 ⟨rfl, hB3⟩; have O1 := Hid.mk (O.out.then hB3); clear O; have O := O1; clear O1 hB3; unfold callV)
    | (go_at_call 9; refine (rp_do O.out ao dc xs HD.out.2.2 HX.out HDC.out.1 HDC.out.2).mono ?_; rintro e W5 ⟨⟨v5, rfl⟩, hO⟩; clear O; have O := Hid.mk hO; clear hO))
  go_wp2_with fail
  go_loopw [7] (fun i wr => ∃ k : Nat, 0 < k ∧ k ≤ n ∧ i = .int .i64 k ∧ Kp w wr t (rpT xs k) (fun _ => True)) (fun i _ => n - (intOf i).toNat)
  case atStart => exact ⟨1, by omega, by have := HD.out; omega, rfl, O.out⟩
  case round =>
    obtain ⟨k, hk0, hk, rfl, hO⟩ := hrel
    have O := Hid.mk hO
    have HK := Hid.mk (And.intro hk0 hk)
    clear hO hk0 hk c1 c2 c3
    by_cases hlt : (k : Int) < (n : Int)
    · have hk : k < n := by omega
      have HKL := Hid.mk hk
      have hw1 : IntKind.i64.wrap ((k : Int) + 1) = (k : Int) + 1 := by rw [IntKind.wrap_i64]; have := HD.out; omega
      have hct := rp_cat k
      have hpof : ∀ hh : fitsB (rpT xs k).G (rpT xs k).I (rpT xs k).D (rpT xs k).inodes (rpT xs k).blocks 0 (nodeAt (rpT xs k).nodes 0).growth = true, True := fun _ => trivial
      clear hk hpof
      go_wp2_with (first
        | (with_reducible refine wpList_it ?_; refine wpList_knownS (by kernel_rfl) (.string (rpDig k)) _ (exec_rp (x := .tmp 49) (y := .tmp 51) k (by have := HKL.out; have := HD.out; omega) rfl rfl (by kernel_rfl) (by kernel_rfl)) ?_; simp only [Act.put, List.setIfInBounds_toArray, List.set_cons_zero, List.set_cons_succ])
        | (go_at_call 15; (try rw [hct]); refine (lTo_any _ _ _ _).mono ?_; rintro e W4 ⟨rfl, hB3⟩; have O1 := Hid.mk (O.out.then hB3); unfold callV; clear hB3)
        | (go_at_call 9; refine (O1.out.doo (σ' := rpT xs (k + 1)) (fun Ls hT => by have := doo_link _ t _ Ls hT (rpT_ok HD.out.2.2 (by have := HKL.out; have := HD.out; omega) HK.out.1) ⟨#[47, 98]⟩ (rpPath k) 0 0 none 0 0 (by decide) (by rw [rp_size]; omega) [[98]] [] (rpL k) (by decide) (by rw [rp_of]; exact rp_split k (by have := HKL.out; have := HD.out; omega)) 2 0 (hd_wayb (hN := rfl) (l := 2) (z := 1024) (rp_b k (by have := HKL.out; have := HD.out; omega))) rfl (by rw [rp_spot (l := 2) (z := 1024) (s := rpS k) (rpL k) rfl, rp_none k (by have := HKL.out; have := HD.out; omega)]) (by show (k : Int) < 32000; have := HKL.out; have := HD.out; omega) (by rw [rp_growth (by have := HKL.out; have := HD.out; omega) HK.out.1]; exact rp_fits HD.out.2.2 k); rw [rp_link HD.out.2.2 (by have := HKL.out; have := HD.out; omega) HK.out.1] at this; exact this)).mono ?_; rintro e W5 ⟨rfl, hO⟩; have O2 := Hid.mk hO; unfold errV; clear hO))
      go_roundw
      case rel => exact ⟨k + 1, by omega, by have := HKL.out; omega, by go_num, O2.out⟩
      case measure => have := HKL.out; simp [intOf]; omega
    · obtain rfl : k = n := by have := HK.out; omega
      have hnn := HD.out
      have HN := Hid.mk hnn
      obtain ⟨L, hL⟩ : ∃ L, L = listL (nodeAt (rpG xs k).nodes 0).slots := ⟨_, rfl⟩
      have HL := Hid.mk hL
      have hLn : L = rpN k := by rw [hL, rpG_nodes]; rfl
      have HLL : Hid (L.length = k ∧ L.getD 0 [] = [98]) := Hid.mk (by rw [hLn]; exact rp_names k hnn.2.1 hnn.1)
      clear hL hLn hnn HK hlt
      go_upto_region 13 with (first
        | (go_at_call 15; refine (lTo_any _ _ _ _).mono ?_; rintro e W4 ⟨rfl, hB3⟩; have O1 := Hid.mk (O.out.then hB3); clear O; have O := O1; clear O1 hB3; unfold callV)
        | (go_at_call 9; refine (O.out.doo (σ' := rpG xs k) (fun Ls hT => by have := doo_rename _ t _ Ls hT (rpT_ok HD.out.2.2 HN.out.2.1 HN.out.1) ⟨#[47, 97]⟩ ⟨#[47, 98]⟩ 0 0 none 0 0 (by decide) (by decide); rw [rp_rename xs HN.out.2.1] at this; exact this)).mono ?_; rintro e W6 ⟨rfl, hO⟩; clear O; have O := Hid.mk hO; unfold errV; clear hO))
      obtain ⟨Y8, hY⟩ : ∃ Y, Y = W6.alloc (.cells #[.int .i64 0, .slice none 0 0, .int .i64 0, .int .i64 0, .int .i64 0, .slice none 0 0, .int .i64 0] 31) := ⟨_, rfl⟩
      have O1 := Hid.mk (O.out.box (.cells #[.int .i64 0, .slice none 0 0, .int .i64 0, .int .i64 0, .int .i64 0, .slice none 0 0, .int .i64 0] 31))
      rw [← hY] at O1 ⊢
      clear O hY
      have O := O1
      clear O1
      generalize W6.heap.size = b8 at *
      go_upto_region 14 with (first
        | (go_at_call 10; refine (lC_any _ _ _).mono ?_; rintro e W4 ⟨rfl, hB3⟩; have O1 := Hid.mk (O.out.then hB3); clear O; have O := O1; clear O1 hB3; unfold callV)
        | (go_at_call 9; refine (O.out.list (by rw [rpG_nodes]; rfl) (by rw [rpG_nodes]; have := rp_free k HN.out.2.1 HN.out.1; show (none :: some (1, [98]) :: rpR k).length ≤ _; have h2 := this.2; unfold rpS at h2; simp at h2 ⊢; omega) L HL.out).mono ?_; rintro e W7 ⟨ao1, e1, rfl, -, -, hO⟩; clear O; have O := Hid.mk hO; clear hO))
      obtain ⟨Y9, hY⟩ : ∃ Y, Y = W7.alloc (.cells #[.int .i64 0, .slice none 0 0, .int .i64 0, .int .i64 0, .int .i64 0, .slice ao1 L.length e1, .int .i64 0] 31) := ⟨_, rfl⟩
      have O1 := Hid.mk (O.out.box (.cells #[.int .i64 0, .slice none 0 0, .int .i64 0, .int .i64 0, .int .i64 0, .slice ao1 L.length e1, .int .i64 0] 31))
      rw [← hY] at O1 ⊢
      clear O hY
      have O := O1
      clear O1
      generalize W7.heap.size = b9 at *
      go_upto_region 15 with (first
        | (go_at_call 16; refine (lR_any _ _ _ _).mono ?_; rintro e W4 ⟨rfl, hB3⟩; have O1 := Hid.mk (O.out.then hB3); clear O; have O := O1; clear O1 hB3; unfold callV)
        | (go_at_call 9; refine (O.out.read (rpG_ok HD.out.2.2 HN.out.2.1 HN.out.1) ⟨#[47, 98]⟩ 0 4000 (by decide) 1 (rp_file xs k) (by rw [rpG_nodes]; simp) (by rw [rpG_nodes]; rfl) (by decide) (by decide) (by rw [rpG_nodes]; show (0 : Int) ≤ (xs.length : Int) ∧ (xs.length : Int) ≤ 67379200; have := HD.out; omega) xs.length (by rw [rpG_nodes]; show (xs.length : Int) = max 0 (min ((4000 : Nat) : Int) ((xs.length : Int) - ((0 : Nat) : Int))); have := HD.out; omega) xs (by rw [rpG_nodes]; exact (rp_read (xs := xs)).symm)).mono ?_; rintro e W8 ⟨g, rfl, hO⟩; clear O; have O := Hid.mk hO; unfold readV; clear hO))
      obtain ⟨Y10, hY⟩ : ∃ Y, Y = W8.alloc (.cells #[.int .i64 0, .slice (some ⟨g, 0, none⟩) xs.length xs.length, .int .i64 0, .int .i64 0, .int .i64 0, .slice none 0 0, .int .i64 0] 31) := ⟨_, rfl⟩
      have O1 := Hid.mk (O.out.box (.cells #[.int .i64 0, .slice (some ⟨g, 0, none⟩) xs.length xs.length, .int .i64 0, .int .i64 0, .int .i64 0, .slice none 0 0, .int .i64 0] 31))
      rw [← hY] at O1 ⊢
      clear O hY
      have O := O1
      clear O1
      generalize W8.heap.size = b10 at *
      go_upto_region 16 with (first
        | (go_at_call 10; refine (lC_any _ _ _).mono ?_; rintro e W4 ⟨rfl, hB3⟩; have O1 := Hid.mk (O.out.then hB3); clear O; have O := O1; clear O1 hB3; unfold callV)
        | (go_at_call 9; refine (O.out.doo (σ' := rpG xs k) (fun Ls hT => doo_stat _ t _ Ls hT ⟨#[47, 97]⟩ ⟨#[]⟩ 0 0 none 0 0 (by decide) 10 0 0 0 (rp_gone HN.out.2.1))).mono ?_; rintro e W9 ⟨rfl, hO⟩; clear O; have O := Hid.mk hO; clear hO))
      obtain ⟨Y11, hY⟩ : ∃ Y, Y = W9.alloc (.cells #[.int .i64 10, .slice none 0 0, .int .i64 0, .int .i64 0, .int .i64 0, .slice none 0 0, .int .i64 0] 31) := ⟨_, rfl⟩
      have O1 := Hid.mk (O.out.box (.cells #[.int .i64 10, .slice none 0 0, .int .i64 0, .int .i64 0, .int .i64 0, .slice none 0 0, .int .i64 0] 31))
      rw [← hY] at O1 ⊢
      clear O hY
      have O := O1
      clear O1
      generalize W9.heap.size = b11 at *
      obtain ⟨ST, hST⟩ : ∃ ST, ST = strOfNums xs := ⟨_, rfl⟩
      have HST := Hid.mk hST
      clear hST
      by_cases hk1 : (1 : Int) < (k : Int)
      · have HK1 : Hid (1 < k) := Hid.mk (by omega)
        go_upto_region 19 with (first
          | (go_at_call 10; refine (lC_any _ _ _).mono ?_; rintro e W4 ⟨rfl, hB3⟩; have O1 := Hid.mk (O.out.then hB3); clear O; have O := O1; clear O1 hB3; unfold callV)
          | (go_at_call 9; refine (O.out.doo (σ' := rpG xs k) (fun Ls hT => doo_stat _ t _ Ls hT ⟨#[47, 108, 49]⟩ ⟨#[]⟩ 0 0 none 0 0 (by decide) 0 1 0 ((k : Int) - 1) (rp_left HN.out.2.1 HK1.out))).mono ?_; rintro e W10 ⟨rfl, hO⟩; clear O; have O := Hid.mk hO; clear hO))
        obtain ⟨Y13, hY⟩ : ∃ Y, Y = W10.alloc (.cells #[.int .i64 0, .slice none 0 0, .int .i64 1, .int .i64 0, .int .i64 ((k : Int) - 1), .slice none 0 0, .int .i64 0] 31) := ⟨_, rfl⟩
        have O1 := Hid.mk (O.out.box (.cells #[.int .i64 0, .slice none 0 0, .int .i64 1, .int .i64 0, .int .i64 ((k : Int) - 1), .slice none 0 0, .int .i64 0] 31))
        rw [← hY] at O1 ⊢
        clear O hY
        have O := O1
        clear O1
        generalize W10.heap.size = b13 at *
        have f4 := blk_cell O.out.now.2 4
        simp at f4
        go_upto_region 20 with fail
        have hk1 : (k : Int) = (k : Int) := rfl
        have hall := O.out.now
        obtain ⟨⟨⟨⟨⟨⟨⟨-, q8⟩, S9⟩, q9⟩, R10⟩, q10⟩, q11⟩, q13⟩ := hall
        have PB := Hid.mk O.out.below
        have dq80 := blk_cell q8 0
        have dq95 := blk_cell q9 5
        have dq101 := blk_cell q10 1
        have dq110 := blk_cell q11 0
        simp at dq80 dq95 dq101 dq110
        obtain ⟨an, rfl, -, hn⟩ := S9.2 (by rw [HLL.out.1]; omega)
        have n0 := hn 0 (by rw [HLL.out.1]; omega)
        rw [HLL.out.2, show strV [98] = .string ⟨#[98]⟩ from rfl] at n0
        rw [show an.add 0 = an by simp [Addr.add]] at n0
        have hlk : (L.length : Int) = (k : Int) := by rw [HLL.out.1]
        have HC1 : Hid ((convert 28 9 (.slice (some ⟨g, 0, none⟩) xs.length xs.length)).run Tryz.prog Y13 = .ok (.string ST) Y13) := Hid.mk (by rw [HST.out]; exact conv_bytes Y13 _ xs.length xs.length _ (RAt.full R10 rfl))
        have HC2 : Hid ((convert 28 9 (.slice ao xs.length dc)).run Tryz.prog Y13 = .ok (.string ST) Y13) := Hid.mk (by rw [HST.out]; exact conv_bytes Y13 ao xs.length dc _ (HX.out.only (Only.of_new (fun _ => False) PB.out) (fun _ _ _ h => h)))
        have hws : IntKind.i64.wrap ((k : Int) - 1) = (k : Int) - 1 := by rw [IntKind.wrap_i64]; have := HN.out; omega
        clear q8 S9 q9 R10 q10 q11 hn O q13 f4
        go_wp2_with (first
          | (with_reducible refine wpList_it ?_; refine wpList_knownS (by kernel_rfl) (.string ST) _ (exec_convert (x := .tmp 95) rfl (by kernel_rfl) HC1.out) ?_; simp only [Act.put, List.setIfInBounds_toArray, List.set_cons_zero, List.set_cons_succ])
          | (with_reducible refine wpList_it ?_; refine wpList_knownS (by kernel_rfl) (.string ST) _ (exec_convert (x := .tmp 97) rfl (by kernel_rfl) HC2.out) ?_; simp only [Act.put, List.setIfInBounds_toArray, List.set_cons_zero, List.set_cons_succ])
          | (go_at_call 11; refine (lnum_any _ _).mono ?_; rintro e Wz ⟨rfl, hw⟩; subst hw))
        go_ret
        exact ⟨rfl, PB.out⟩
      · have hke : k = 1 := by have := HN.out; omega
        subst hke
        go_upto_region 20 with fail
        have hall := O.out.now
        obtain ⟨⟨⟨⟨⟨⟨-, q8⟩, S9⟩, q9⟩, R10⟩, q10⟩, q11⟩ := hall
        have PB := Hid.mk O.out.below
        have dq80 := blk_cell q8 0
        have dq95 := blk_cell q9 5
        have dq101 := blk_cell q10 1
        have dq110 := blk_cell q11 0
        simp at dq80 dq95 dq101 dq110
        obtain ⟨an, rfl, -, hn⟩ := S9.2 (by rw [HLL.out.1]; omega)
        have n0 := hn 0 (by rw [HLL.out.1]; omega)
        rw [HLL.out.2, show strV [98] = .string ⟨#[98]⟩ from rfl] at n0
        rw [show an.add 0 = an by simp [Addr.add]] at n0
        have hlk : (L.length : Int) = (1 : Int) := by rw [HLL.out.1]; rfl
        have HC1 : Hid ((convert 28 9 (.slice (some ⟨g, 0, none⟩) xs.length xs.length)).run Tryz.prog Y11 = .ok (.string ST) Y11) := Hid.mk (by rw [HST.out]; exact conv_bytes Y11 _ xs.length xs.length _ (RAt.full R10 rfl))
        have HC2 : Hid ((convert 28 9 (.slice ao xs.length dc)).run Tryz.prog Y11 = .ok (.string ST) Y11) := Hid.mk (by rw [HST.out]; exact conv_bytes Y11 ao xs.length dc _ (HX.out.only (Only.of_new (fun _ => False) PB.out) (fun _ _ _ h => h)))
        clear q8 S9 q9 R10 q10 q11 hn O
        go_wp2_with (first
          | (with_reducible refine wpList_it ?_; refine wpList_knownS (by kernel_rfl) (.string ST) _ (exec_convert (x := .tmp 95) rfl (by kernel_rfl) HC1.out) ?_; simp only [Act.put, List.setIfInBounds_toArray, List.set_cons_zero, List.set_cons_succ])
          | (with_reducible refine wpList_it ?_; refine wpList_knownS (by kernel_rfl) (.string ST) _ (exec_convert (x := .tmp 97) rfl (by kernel_rfl) HC2.out) ?_; simp only [Act.put, List.setIfInBounds_toArray, List.set_cons_zero, List.set_cons_succ])
          | (go_at_call 11; refine (lnum_any _ _).mono ?_; rintro e Wz ⟨rfl, hw⟩; subst hw))
        go_ret
        exact ⟨rfl, PB.out⟩
end Go.Proofs.YtehaoeclnmelhacGreat
