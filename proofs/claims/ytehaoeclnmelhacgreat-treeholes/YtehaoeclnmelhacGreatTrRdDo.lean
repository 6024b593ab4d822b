/-
  Do's answers: read.
-/
import Derived.Test.YtehaoeclnmelhacGreatTrLaw
import Derived.Test.YtehaoeclnmelhacGreatTrRead
import Derived.Test.YtehaoeclnmelhacGreatTrDo3
import Derived.Test.YtehaoeclnmelhacGreatTrAlive
namespace Go.Proofs.YtehaoeclnmelhacGreat
open Go Go.Proofs Go.RowKit Go.Shelf Go.Sort

set_option maxRecDepth 100000 in
theorem lR_any (w : World) (s : ByteArray) (off n : Int) : Calls Tryz.prog 16 #[.string s, .int .i64 off, .int .i64 n] w fun x w' => x = .returned (callV 7 s ⟨#[]⟩ off n (.slice none 0 0)) ∧ Below w.heap.size w w' := by
  go_enter Tryz.func16, Tryz.ntmps16
  go_wp2
  refine bodyPost_ret (v := callV 7 s ⟨#[]⟩ off n (.slice none 0 0)) ?_ rfl ⟨rfl, ?_⟩
  · simp [results, Tryz.results16, go_sem, callV]
  · exact (Below.refl _ w).alloc (Nat.le_refl _) _
/-- What a read answers. -/
def readV (g L : Nat) : Value := .agg #[.int .i64 0, .slice (some ⟨g, 0, none⟩) L L, .int .i64 0, .int .i64 0, .int .i64 0, .slice none 0 0, .int .i64 0]
def BytesQ (B L : Nat) (xs : List Int) (x y : Value) (W : World) : Prop := y = .slice none 0 0 ∧ ∃ g, x = .slice (some ⟨g, 0, none⟩) L L ∧ RAt W g xs ∧ B ≤ g
theorem doo_read (w : World) (t : Nat) (σ : Tr) (Ls : List Lay) (hT : TrAt w t σ Ls) (hOk : ∀ x ∈ σ.nodes, x.Ok) (s s2 : ByteArray) (off N : Int) (dp : Option Addr) (dl dc : Nat) (hs : s.size ≤ 16777216) (j : Nat) (he : fileE σ.nodes (ofS s) = (some j, 0)) (hj : j < σ.nodes.length) (hjk : (nodeAt σ.nodes j).isDir = false) (h0 : 0 ≤ off) (h1 : off ≤ 67379200) (hN0 : 0 ≤ N) (hN1 : N ≤ 8192) (hz : 0 ≤ (nodeAt σ.nodes j).size ∧ (nodeAt σ.nodes j).size ≤ 67379200) (L : Nat) (hL : (L : Int) = max 0 (min N ((nodeAt σ.nodes j).size - off))) :
    Calls Tryz.prog 9 #[ptrV t, callV 7 s s2 off N (.slice dp dl dc)] w fun e w' => ∃ g, e = .returned (readV g L) ∧ RAt w' g (rdP off L (nodeAt σ.nodes j).parts (pzN off L)) ∧ w.heap.size + 2 ≤ g ∧ Step (fun k => k ∈ feet t Ls) w t w' σ := by
  refine (do_read w t σ Ls s s2 off N dp dl dc 0 0 0 0 0 (BytesQ (w.heap.size + 2) L (rdP off L (nodeAt σ.nodes j).parts (pzN off L))) (fun k hk => hT.lt k hk) (fun x y W1 W2 h ho => ?_) (Hid.mk (fun W hB hsz => (read_main W t σ Ls (hT.below rfl hB) hOk 7 s s2 off N dp dl dc hs j he hj hjk h0 h1 hN0 hN1 hz L hL).mono (fun e w' hh => ?_)))).mono ?_
  · obtain ⟨h1, g, h2, h3, h4⟩ := h
    exact ⟨h1, g, h2, (ho.block g (lt_of_block h3) (by omega)).trans h3, h4⟩
  · obtain ⟨g, h1, h2, h3, h4⟩ := hh
    exact ⟨_, _, _, none, 0, 0, h1, Step.still (hT.below rfl hB) (fun k hk => hk) h2, rfl, g, rfl, h3, by omega⟩
  · rintro e w' ⟨a1, n1, c1, a5, n5, c5, rfl, hst, h1, g, h2, h3, h4⟩
    cases h1; cases h2
    exact ⟨_, rfl, h3, h4, hst⟩
/-- As own_do, with what the answer brings along; the tree's blocks are new. -/
theorem own_doQ {w W : World} {t : Nat} {σ σ' : Tr} {B : Nat → Prop} {F : FuncId} {vs : Array Value} {Q : Ending → World → Prop} (hO : OwnT w W t σ B) (hB : ∀ k, B k → k < W.heap.size) (hC : ∀ Ls, TrAt W t σ Ls → (∀ k ∈ feet t Ls, w.heap.size ≤ k ∧ ¬ B k) → Calls Tryz.prog F vs W fun e w' => Q e w' ∧ Step (fun k => k ∈ feet t Ls) W t w' σ') :
    Calls Tryz.prog F vs W fun e w' => Q e w' ∧ OwnT w w' t σ' B ∧ (∀ k, B k → w'.heap[k]? = W.heap[k]?) ∧ W.heap.size ≤ w'.heap.size := by
  obtain ⟨h1, Ls, h2, h3⟩ := hO
  refine (hC Ls h2 h3).mono ?_
  rintro e w' ⟨hq, ⟨⟨Ls', h4, h5⟩, h6⟩⟩
  refine ⟨hq, ⟨?_, Ls', h4, fun k hk => ?_⟩, fun k hk => h6.block k (hB k hk) (fun hf => (h3 k hf).2 hk), h6.size⟩
  · exact ((Only.of_below (S := fun _ => False) h1 (fun k h1 h2 => by omega)).trans h6 (fun i hi => .inr (h3 i hi).1)).below (Nat.le_refl _) (fun _ h => h.elim)
  · rcases h5 k hk with h | h
    · exact h3 k h
    · exact ⟨Nat.le_trans h1.size h, fun hb => by have := hB k hb; omega⟩
end Go.Proofs.YtehaoeclnmelhacGreat
