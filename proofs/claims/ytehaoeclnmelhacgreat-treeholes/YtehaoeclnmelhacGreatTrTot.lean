/-
  Whole calls, whatever stands.
-/
import Derived.Test.YtehaoeclnmelhacGreatLayTop
import Derived.Test.YtehaoeclnmelhacGreatTrDo3
import Derived.Test.YtehaoeclnmelhacGreatLayRn
import Derived.Test.YtehaoeclnmelhacGreatTrNo
import Derived.Test.YtehaoeclnmelhacGreatTrOther
import Derived.Test.YtehaoeclnmelhacGreatTrTrunc
namespace Go.Proofs.YtehaoeclnmelhacGreat
open Go Go.Proofs Go.RowKit Go.Shelf Go.Sort

theorem rmdirS_no {σ : Tr} {s : List UInt8} {e : Int} {sp : Option Sp} (h : namedE σ.nodes s = (e, sp)) (hne : e ≠ 0) : rmdirS σ s = (e, σ) := by
  unfold rmdirS
  rw [h]
  split
  · next h2 => cases h2; exact (hne rfl).elim
  · next h2 => cases h2; rfl
theorem doo_rmdirS (w : World) (t : Nat) (σ : Tr) (Ls : List Lay) (hT : TrAt w t σ Ls) (hOk : ∀ x ∈ σ.nodes, x.Ok) (s s2 : ByteArray) (off m : Int) (dp : Option Addr) (dl dc : Nat) (hs : s.size ≤ 16777216) :
    Calls Tryz.prog 9 #[ptrV t, callV 5 s s2 off m (.slice dp dl dc)] w fun e w' => e = .returned (errV (rmdirS σ (ofS s)).1) ∧ Step (fun k => k ∈ feet t Ls) w t w' (rmdirS σ (ofS s)).2 := by
  refine (do_rmdir w t (rmdirS σ (ofS s)).2 Ls s s2 off m dp dl dc (rmdirS σ (ofS s)).1 0 0 0 0 (fun x y _ => x = .slice none 0 0 ∧ y = .slice none 0 0) (fun k hk => hT.lt k hk) (fun _ _ _ _ h _ => h) (Hid.mk (fun W hB _ => (?_ : Calls Tryz.prog 24 #[ptrV t, callV 5 s s2 off m (.slice dp dl dc)] W fun e w' => e = .returned (errV (rmdirS σ (ofS s)).1) ∧ Step (fun k => k ∈ feet t Ls) W t w' (rmdirS σ (ofS s)).2).mono (fun e w' hh => ⟨none, 0, 0, none, 0, 0, hh.1, hh.2, rfl, rfl⟩)))).mono ?_
  · have hTW := hT.below rfl hB
    rcases namedE_or hTW (ofS s) with ⟨d, p, j, he, hd, hdk, hlk, hj, hp⟩ | ⟨e, sp, he, hne⟩
    · exact rmdir_main W t σ Ls hTW hOk 5 s s2 off m dp dl dc hs d p j he hd hdk hlk hj hp
    · refine (rmdir_wrong W t σ Ls hTW 5 s s2 off m dp dl dc hs ⟨e, sp, he, hne⟩).mono (fun x w' h => ⟨h.1, ?_⟩)
      rw [h.2.1]
      exact Step.still hTW (fun k hk => hk) h.2.2
  · rintro e w' ⟨a1, n1, c1, a5, n5, c5, rfl, hst, h1, h2⟩
    cases h1; cases h2
    exact ⟨rfl, hst⟩
/-- What unlink answers, and what it makes of the tree. -/
def unlinkS (σ : Tr) (s : List UInt8) : Int × Tr :=
  match namedE σ.nodes s with
  | (0, some ⟨d, p, some j⟩) => if (nodeAt σ.nodes j).isDir = true then (13, σ) else (0, loseS { σ with nodes := σ.nodes.modify d (fun x => x.del p) } d j)
  | (e, _) => (e, σ)
theorem unlinkS_no {σ : Tr} {s : List UInt8} {e : Int} {sp : Option Sp} (h : namedE σ.nodes s = (e, sp)) (hne : e ≠ 0) : unlinkS σ s = (e, σ) := by
  unfold unlinkS
  rw [h]
  split
  · next h2 => cases h2; exact (hne rfl).elim
  · next h2 => cases h2; rfl
theorem doo_unlinkS (w : World) (t : Nat) (σ : Tr) (Ls : List Lay) (hT : TrAt w t σ Ls) (hOk : ∀ x ∈ σ.nodes, x.Ok) (s s2 : ByteArray) (off m : Int) (dp : Option Addr) (dl dc : Nat) (hs : s.size ≤ 16777216) :
    Calls Tryz.prog 9 #[ptrV t, callV 4 s s2 off m (.slice dp dl dc)] w fun e w' => e = .returned (errV (unlinkS σ (ofS s)).1) ∧ Step (fun k => k ∈ feet t Ls) w t w' (unlinkS σ (ofS s)).2 := by
  refine (do_unlink w t (unlinkS σ (ofS s)).2 Ls s s2 off m dp dl dc (unlinkS σ (ofS s)).1 0 0 0 0 (fun x y _ => x = .slice none 0 0 ∧ y = .slice none 0 0) (fun k hk => hT.lt k hk) (fun _ _ _ _ h _ => h) (Hid.mk (fun W hB _ => (?_ : Calls Tryz.prog 23 #[ptrV t, callV 4 s s2 off m (.slice dp dl dc)] W fun e w' => e = .returned (errV (unlinkS σ (ofS s)).1) ∧ Step (fun k => k ∈ feet t Ls) W t w' (unlinkS σ (ofS s)).2).mono (fun e w' hh => ⟨none, 0, 0, none, 0, 0, hh.1, hh.2, rfl, rfl⟩)))).mono ?_
  · have hTW := hT.below rfl hB
    rcases namedE_or hTW (ofS s) with ⟨d, p, j, he, hd, hdk, hlk, hj, hp⟩ | ⟨e, sp, he, hne⟩
    · have e0 : unlinkS σ (ofS s) = if (nodeAt σ.nodes j).isDir = true then (13, σ) else (0, loseS { σ with nodes := σ.nodes.modify d (fun x => x.del p) } d j) := by unfold unlinkS; rw [he]; rfl
      rcases kind_two (nodeAt σ.nodes j) with ⟨a, b⟩ | ⟨a, b⟩
      · rw [if_pos a] at e0
        rw [e0]
        exact unlink_dir W t σ Ls hTW 4 s s2 off m dp dl dc hs d p j he hj b
      · rw [if_neg (by rw [a]; decide)] at e0
        rw [e0]
        exact unlink_file W t σ Ls hTW 4 s s2 off m dp dl dc hs d p j he hd hdk hlk hj b hp _ (Hid.mk (fun W' hT' => (lose_anyK W' t _ Ls hT' (del_ok hOk d p) d j (mkS p) (by simpa using hd) (del_dir d d p hdk) (by simpa using hj)).mono (fun e w' h => ⟨h.1, ⟨⟨Ls, h.2.1, fun k hk => .inl hk⟩, h.2.2⟩⟩)))
    · rw [unlinkS_no he hne]
      exact (unlink_wrong W t σ Ls hTW 4 s s2 off m dp dl dc hs e sp he hne).mono (fun e w' h => ⟨h.1, Step.still hTW (fun k hk => hk) h.2⟩)
  · rintro e w' ⟨a1, n1, c1, a5, n5, c5, rfl, hst, h1, h2⟩
    cases h1; cases h2
    exact ⟨rfl, hst⟩
theorem doo_fsyncS (w : World) (t : Nat) (σ : Tr) (Ls : List Lay) (hT : TrAt w t σ Ls) (s s2 : ByteArray) (off m : Int) (dp : Option Addr) (dl dc : Nat) (hs : s.size ≤ 16777216) :
    Calls Tryz.prog 9 #[ptrV t, callV 12 s s2 off m (.slice dp dl dc)] w fun e w' => e = .returned (errV (nodeE σ.nodes (ofS s)).2) ∧ Step (fun k => k ∈ feet t Ls) w t w' σ := by
  refine (do_fsync w t σ Ls s s2 off m dp dl dc (nodeE σ.nodes (ofS s)).2 0 0 0 0 (fun x y _ => x = .slice none 0 0 ∧ y = .slice none 0 0) (fun k hk => hT.lt k hk) (fun _ _ _ _ h _ => h) (Hid.mk (fun W hB _ => (?_ : Calls Tryz.prog 31 #[ptrV t, callV 12 s s2 off m (.slice dp dl dc)] W fun e w' => e = .returned (errV (nodeE σ.nodes (ofS s)).2) ∧ Step (fun k => k ∈ feet t Ls) W t w' σ).mono (fun e w' hh => ⟨none, 0, 0, none, 0, 0, hh.1, hh.2, rfl, rfl⟩)))).mono ?_
  · have hTW := hT.below rfl hB
    exact (fsync_any W t σ Ls hTW 12 s s2 off m dp dl dc hs).mono (fun e w' h => ⟨h.1, Step.still hTW (fun k hk => hk) h.2⟩)
  · rintro e w' ⟨a1, n1, c1, a5, n5, c5, rfl, hst, h1, h2⟩
    cases h1; cases h2
    exact ⟨rfl, hst⟩
theorem doo_syncS (w : World) (t : Nat) (σ : Tr) (Ls : List Lay) (hT : TrAt w t σ Ls) (s s2 : ByteArray) (off m : Int) (dp : Option Addr) (dl dc : Nat) (_hs : s.size ≤ 16777216) :
    Calls Tryz.prog 9 #[ptrV t, callV 13 s s2 off m (.slice dp dl dc)] w fun e w' => e = .returned (errV 0) ∧ Step (fun k => k ∈ feet t Ls) w t w' σ := by
  refine (do_sync w t σ Ls s s2 off m dp dl dc 0 0 0 0 0 (fun x y _ => x = .slice none 0 0 ∧ y = .slice none 0 0) (fun k hk => hT.lt k hk) (fun _ _ _ _ h _ => h) (Hid.mk (fun W hB _ => (?_ : Calls Tryz.prog 32 #[ptrV t, callV 13 s s2 off m (.slice dp dl dc)] W fun e w' => e = .returned (errV 0) ∧ Step (fun k => k ∈ feet t Ls) W t w' σ).mono (fun e w' hh => ⟨none, 0, 0, none, 0, 0, hh.1, hh.2, rfl, rfl⟩)))).mono ?_
  · have hTW := hT.below rfl hB
    exact (sync_any W t 13 s s2 off m dp dl dc).mono (fun e w' h => ⟨h.1, Step.still hTW (fun k hk => hk) h.2⟩)
  · rintro e w' ⟨a1, n1, c1, a5, n5, c5, rfl, hst, h1, h2⟩
    cases h1; cases h2
    exact ⟨rfl, hst⟩
theorem doo_listE (w : World) (t : Nat) (σ : Tr) (Ls : List Lay) (hT : TrAt w t σ Ls) (s s2 : ByteArray) (off m : Int) (dp : Option Addr) (dl dc : Nat) (hs : s.size ≤ 16777216) (ev : Int) (he : nodeE σ.nodes (ofS s) = (none, ev)) (hne : ev ≠ 0) :
    Calls Tryz.prog 9 #[ptrV t, callV 11 s s2 off m (.slice dp dl dc)] w fun e w' => e = .returned (errV ev) ∧ Step (fun k => k ∈ feet t Ls) w t w' σ := by
  refine (do_list w t σ Ls s s2 off m dp dl dc ev 0 0 0 0 (fun x y _ => x = .slice none 0 0 ∧ y = .slice none 0 0) (fun k hk => hT.lt k hk) (fun _ _ _ _ h _ => h) (Hid.mk (fun W hB _ => (?_ : Calls Tryz.prog 30 #[ptrV t, callV 11 s s2 off m (.slice dp dl dc)] W fun e w' => e = .returned (errV ev) ∧ Step (fun k => k ∈ feet t Ls) W t w' σ).mono (fun e w' hh => ⟨none, 0, 0, none, 0, 0, hh.1, hh.2, rfl, rfl⟩)))).mono ?_
  · have hTW := hT.below rfl hB
    exact (list_wrong W t σ Ls hTW 11 s s2 off m dp dl dc hs ev he hne).mono (fun e w' h => ⟨h.1, Step.still hTW (fun k hk => hk) h.2⟩)
  · rintro e w' ⟨a1, n1, c1, a5, n5, c5, rfl, hst, h1, h2⟩
    cases h1; cases h2
    exact ⟨rfl, hst⟩
theorem doo_listF (w : World) (t : Nat) (σ : Tr) (Ls : List Lay) (hT : TrAt w t σ Ls) (s s2 : ByteArray) (off m : Int) (dp : Option Addr) (dl dc : Nat) (hs : s.size ≤ 16777216) (j : Nat) (hj : nodeE σ.nodes (ofS s) = (some j, 0)) (hki : (nodeAt σ.nodes j).kind = 1) :
    Calls Tryz.prog 9 #[ptrV t, callV 11 s s2 off m (.slice dp dl dc)] w fun e w' => e = .returned (errV 12) ∧ Step (fun k => k ∈ feet t Ls) w t w' σ := by
  refine (do_list w t σ Ls s s2 off m dp dl dc 12 0 0 0 0 (fun x y _ => x = .slice none 0 0 ∧ y = .slice none 0 0) (fun k hk => hT.lt k hk) (fun _ _ _ _ h _ => h) (Hid.mk (fun W hB _ => (?_ : Calls Tryz.prog 30 #[ptrV t, callV 11 s s2 off m (.slice dp dl dc)] W fun e w' => e = .returned (errV 12) ∧ Step (fun k => k ∈ feet t Ls) W t w' σ).mono (fun e w' hh => ⟨none, 0, 0, none, 0, 0, hh.1, hh.2, rfl, rfl⟩)))).mono ?_
  · have hTW := hT.below rfl hB
    exact (list_file W t σ Ls hTW 11 s s2 off m dp dl dc hs j hj hki).mono (fun e w' h => ⟨h.1, Step.still hTW (fun k hk => hk) h.2⟩)
  · rintro e w' ⟨a1, n1, c1, a5, n5, c5, rfl, hst, h1, h2⟩
    cases h1; cases h2
    exact ⟨rfl, hst⟩
theorem doo_otherS (w : World) (t : Nat) (σ : Tr) (Ls : List Lay) (hT : TrAt w t σ Ls) (k : Int) (hk : k < 1 ∨ 13 < k) (hwf : (Lit.int .i64 k).wf = true) (s s2 : ByteArray) (off m : Int) (dp : Option Addr) (dl dc : Nat) :
    Calls Tryz.prog 9 #[ptrV t, callV k s s2 off m (.slice dp dl dc)] w fun e w' => e = .returned (errV 1) ∧ Step (fun k => k ∈ feet t Ls) w t w' σ :=
  (do_other w t k hk hwf s s2 off m dp dl dc).mono (fun _ _ h => ⟨h.1, Step.still hT (fun _ hk => hk) h.2⟩)
/-- What trunc answers, and what it makes of the tree. -/
def truncS (σ : Tr) (s : List UInt8) (n : Int) : Int × Tr :=
  if n < 0 then (1, σ) else match fileE σ.nodes s with
  | (none, e) => (e, σ)
  | (some j, _) => if 67379200 < n then (17, σ) else (0, truncT σ n j)
theorem fileE_or (N : List Nd) (s : List UInt8) : (∃ j, fileE N s = (some j, 0) ∧ nodeE N s = (some j, 0) ∧ (nodeAt N j).isDir = false) ∨ ∃ e, fileE N s = (none, e) ∧ e ≠ 0 := by
  unfold fileE
  rcases nodeE_or N s with ⟨j, h⟩ | ⟨e, h, hne⟩
  · rw [h]
    rcases kind_two (nodeAt N j) with ⟨a, _⟩ | ⟨a, _⟩
    · exact .inr ⟨13, by simp [a], by decide⟩
    · exact .inl ⟨j, by simp [a], rfl, a⟩
  · rw [h]
    exact .inr ⟨e, rfl, hne⟩
theorem doo_truncS (w : World) (t : Nat) (σ : Tr) (Ls : List Lay) (hT : TrAt w t σ Ls) (hOk : ∀ x ∈ σ.nodes, x.Ok) (s s2 : ByteArray) (off m : Int) (dp : Option Addr) (dl dc : Nat) (hs : s.size ≤ 16777216) :
    Calls Tryz.prog 9 #[ptrV t, callV 9 s s2 off m (.slice dp dl dc)] w fun e w' => e = .returned (errV (truncS σ (ofS s) m).1) ∧ Step (fun k => k ∈ feet t Ls) w t w' (truncS σ (ofS s) m).2 := by
  refine (do_trunc w t (truncS σ (ofS s) m).2 Ls s s2 off m dp dl dc (truncS σ (ofS s) m).1 0 0 0 0 (fun x y _ => x = .slice none 0 0 ∧ y = .slice none 0 0) (fun k hk => hT.lt k hk) (fun _ _ _ _ h _ => h) (Hid.mk (fun W hB _ => (?_ : Calls Tryz.prog 28 #[ptrV t, callV 9 s s2 off m (.slice dp dl dc)] W fun e w' => e = .returned (errV (truncS σ (ofS s) m).1) ∧ Step (fun k => k ∈ feet t Ls) W t w' (truncS σ (ofS s) m).2).mono (fun e w' hh => ⟨none, 0, 0, none, 0, 0, hh.1, hh.2, rfl, rfl⟩)))).mono ?_
  · have hTW := hT.below rfl hB
    by_cases h0 : m < 0
    · have e0 : truncS σ (ofS s) m = (1, σ) := by unfold truncS; rw [if_pos h0]
      rw [e0]
      exact (trunc_arg W t σ Ls hTW 9 s s2 off m dp dl dc hs h0).mono (fun e w' h => ⟨h.1, Step.still hTW (fun k hk => hk) h.2⟩)
    · rcases fileE_or σ.nodes (ofS s) with ⟨j, he, hn, hjk⟩ | ⟨e, he, hne⟩
      · by_cases h1 : 67379200 < m
        · have e0 : truncS σ (ofS s) m = (17, σ) := by unfold truncS; rw [if_neg h0, he]; simp [h1]
          rw [e0]
          exact (trunc_big W t σ Ls hTW 9 s s2 off m dp dl dc hs h0 h1 j he).mono (fun e w' h => ⟨h.1, Step.still hTW (fun k hk => hk) h.2⟩)
        · have e0 : truncS σ (ofS s) m = (0, truncT σ m j) := by unfold truncS; rw [if_neg h0, he]; simp [h1]
          rw [e0]
          exact trunc_main W t σ Ls hTW hOk 9 s s2 off m dp dl dc hs j he (nodeE_lt hTW _ hn) hjk (by omega) (by omega)
      · have e0 : truncS σ (ofS s) m = (e, σ) := by unfold truncS; rw [if_neg h0, he]
        rw [e0]
        exact (trunc_no W t σ Ls hTW 9 s s2 off m dp dl dc hs h0 e he hne).mono (fun e w' h => ⟨h.1, Step.still hTW (fun k hk => hk) h.2⟩)
  · rintro e w' ⟨a1, n1, c1, a5, n5, c5, rfl, hst, h1, h2⟩
    cases h1; cases h2
    exact ⟨rfl, hst⟩
end Go.Proofs.YtehaoeclnmelhacGreat
