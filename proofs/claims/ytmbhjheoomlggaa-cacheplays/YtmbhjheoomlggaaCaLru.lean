/-
  Blocks that are got and released at once: the last ones that were got are kept.
-/
import Derived.Test.YtmbhjheoomlggaaCaAlive
namespace Go.Proofs.Ytmbhjheoomlggaa
open Go Go.Proofs Go.RowKit Go.Shelf
def kl (s : Dk.DS) (l : List Nat) : List Kb := l.map (fun j : Nat => kbN s (j : Int) 0)
theorem shkN_zero (L : List Kb) : shkN 0 L = L := by cases L <;> rfl
def frN (size : Nat) (l : List Nat) (i : Nat) : List Nat := if size < (l.filter (fun j => j != i)).length + 1 then (l.filter (fun j => j != i)).tail else l.filter (fun j => j != i)
def lruN (size : Nat) (l : List Nat) (i : Nat) : List Nat := frN size l i ++ [i]
structure Lru (size : Nat) (l : List Nat) : Prop where
  pos : 1 ≤ size
  nd : l.Nodup
  len : l.length ≤ size
theorem fr_sub (size : Nat) (l : List Nat) (i : Nat) : (frN size l i).Sublist (l.filter (fun j => j != i)) := by
  unfold frN
  split
  · exact List.tail_sublist _
  · exact List.Sublist.refl _
theorem fr_not (size : Nat) (l : List Nat) (i : Nat) : i ∉ frN size l i := fun h => by
  have := (fr_sub size l i).subset h
  simp at this
theorem fr_len {size : Nat} {l : List Nat} (h : Lru size l) (i : Nat) : (frN size l i).length + 1 ≤ size := by
  have h1 := h.pos
  have h2 := h.len
  have h3 := List.length_filter_le (fun j => j != i) l
  unfold frN
  split
  · rw [List.length_tail]; omega
  · omega
theorem Lru.step {size : Nat} {l : List Nat} (h : Lru size l) (i : Nat) : Lru size (lruN size l i) := by
  refine ⟨h.pos, ?_, by unfold lruN; rw [List.length_append]; exact fr_len h i⟩
  unfold lruN
  rw [List.nodup_append]
  refine ⟨((h.nd.filter _).sublist (fr_sub size l i)), by simp, fun a ha b hb => ?_⟩
  simp at hb
  subst hb
  exact fun e => fr_not size l b (e ▸ ha)
theorem kl_filter (s : Dk.DS) (l : List Nat) (i : Nat) : (kl s l).filter (fun y => y.num != (i : Int)) = kl s (l.filter (fun j => j != i)) := by
  unfold kl
  rw [List.filter_map]
  congr 1
  refine List.filter_congr (fun x _ => ?_)
  simp [kbN]
  rw [Bool.eq_iff_iff]
  simp
  omega
theorem kl_get (s : Dk.DS) {size : Nat} {l : List Nat} (h : Lru size l) (i : Nat) : getL size (kl s l) (kbN s (i : Int) 0) = kl s (frN size l i) ++ [kbN s (i : Int) 1] := by
  unfold getL
  rw [show (kbN s (i : Int) 0).num = (i : Int) from rfl, kl_filter]
  have hl := h.len
  have hp := h.pos
  have hf := List.length_filter_le (fun j => j != i) l
  unfold frN
  generalize l.filter (fun j => j != i) = m at *
  rw [show (kbN s (i : Int) 0).by ((kbN s (i : Int) 0).pins + 1) (kbN s (i : Int) 0).dirty = kbN s (i : Int) 1 from rfl]
  unfold shk
  have hlen : (kl s m ++ [kbN s (i : Int) 1]).length = m.length + 1 := by simp [kl]
  rw [hlen]
  split
  · obtain rfl : size = m.length := by omega
    cases m with
    | nil => simp at hp
    | cons a m =>
      rw [show (a :: m).length + 1 - (a :: m).length = 1 by omega]
      show shkN 1 (kbN s (a : Int) 0 :: (kl s m ++ [kbN s (i : Int) 1])) = _
      rw [shkN, if_pos (show (kbN s (a : Int) 0).idle = true from rfl), shkN_zero]
      rfl
  · rw [show m.length + 1 - size = 0 by omega, shkN_zero]
theorem kl_fnd (s : Dk.DS) (l : List Nat) (i : Nat) : fndK (kl s l) (i : Int) = if i ∈ l then some (kbN s (i : Int) 0) else none := by
  unfold fndK kl
  induction l with
  | nil => rfl
  | cons a l ih =>
    rw [List.map_cons, List.find?_cons]
    by_cases e : a = i
    · subst e
      simp [kbN]
    · have h1 : ((kbN s (a : Int) 0).num == (i : Int)) = false := by simp [kbN]; omega
      have h2 : ¬ i = a := fun h => e h.symm
      rw [h1]
      simp only [ih, List.mem_cons, h2, false_or]
theorem kl_rel (s : Dk.DS) {size : Nat} {l : List Nat} (i : Nat) (hn : i ∉ l) (hl : l.length + 1 ≤ size) : relL size (kl s l ++ [kbN s (i : Int) 1]) (i : Int) = kl s (l ++ [i]) ∧ relB (kl s l ++ [kbN s (i : Int) 1]) (i : Int) = true := by
  have hf : fndK (kl s l ++ [kbN s (i : Int) 1]) (i : Int) = some (kbN s (i : Int) 1) := by
    have := kl_fnd s l i
    rw [if_neg hn] at this
    unfold fndK at this ⊢
    rw [List.find?_append, this]
    simp [kbN]
  unfold relL relB
  rw [hf]
  refine ⟨?_, rfl⟩
  have hu : updK (kl s l ++ [kbN s (i : Int) 1]) (kbN s (i : Int) 0) = kl s (l ++ [i]) := by
    unfold updK kl
    rw [List.map_append, List.map_append, List.map_map]
    congr 1
    · refine List.map_congr_left (fun a ha => ?_)
      have hne : ¬ a = i := fun e => hn (e ▸ ha)
      show (if (a : Int) = (i : Int) then _ else _) = _
      rw [if_neg (by omega)]
    · simp [kbN]
  show (if 0 < (kbN s (i : Int) 1).pins then shk size (updK (kl s l ++ [kbN s (i : Int) 1]) (kbN s (i : Int) 0)) else _) = _
  rw [if_pos (show 0 < (kbN s (i : Int) 1).pins from Nat.one_pos), hu]
  unfold shk
  have e : (kl s (l ++ [i])).length - size = 0 := by simp [kl]; omega
  rw [e, shkN_zero]
section
variable {w W : World} {c dd size : Nat} {reads : Int} {s : Dk.DS}
theorem wf_small {i : Nat} (h : i < 1000) : (Lit.int .i64 (i : Int)).wf = true := by
  have h1 : IntKind.i64.min = -9223372036854775808 := by decide
  have h2 : IntKind.i64.max = 9223372036854775807 := by decide
  simp only [Lit.wf, h1, h2]
  simp
  omega
theorem kl_fine (hs : s.img.length ≤ 20480000) (hr0 : 0 ≤ reads) (hr1 : reads ≤ 1000000) {l : List Nat} (hl : l.length ≤ 1000) : Fine reads (kl s l) s ∧ ∀ i : Nat, Fine reads (kl s l ++ [kbN s (i : Int) 1]) s := by
  have hp : ∀ x ∈ kl s l, x.pins ≤ 1000000 := fun x hx => by
    obtain ⟨j, _, rfl⟩ := List.mem_map.1 hx
    simp [kbN]
  refine ⟨⟨hs, hr0, hr1, by simp [kl]; omega, hp⟩, fun i => ⟨hs, hr0, hr1, by simp [kl]; omega, fun x hx => ?_⟩⟩
  rcases List.mem_append.1 hx with hx | hx
  · exact hp x hx
  · rw [List.mem_singleton.1 hx]; simp [kbN]
theorem use_get {l : List Nat} (h : Cd w W c dd size reads (kl (newS 20) l) (newS 20)) (hL : Lru size l) (hs : size ≤ 1000) (i : Nat) (hi : i < 20) (hr0 : 0 ≤ reads) (hr1 : reads ≤ 100000) :
    Calls Try.prog 12 #[ptV c, .int .i64 (i : Int)] W fun e w' => ∃ g cap, e = .returned (.tuple #[.slice (some ⟨g, 0, none⟩) 1024 cap, .bool true]) ∧ Cd w w' c dd size (if i ∈ l then reads else reads + 1) (kl (newS 20) (frN size l i) ++ [kbN (newS 20) (i : Int) 1]) (newS 20) := by
  have hlen := hL.len
  have hg : gotK (newS 20) (kl (newS 20) l) (i : Int) = some (kbN (newS 20) (i : Int) 0) := by
    unfold gotK
    rw [kl_fnd]
    by_cases hm : i ∈ l
    · rw [if_pos hm]
    · rw [if_neg hm]
      simp only
      rw [newS_has, if_pos (by simp; omega)]
      rfl
  have := h.get_yes (i : Int) (wf_small (by omega)) (kl_fine (by rw [newS_len]; omega) hr0 (by omega) (by omega)).1 _ hg
  rw [kl_get _ hL] at this
  have hr : rdK (kl (newS 20) l) reads (i : Int) = if i ∈ l then reads else reads + 1 := by
    unfold rdK
    rw [kl_fnd]
    by_cases hm : i ∈ l
    · simp [hm]
    · simp [hm]
  rwa [hr] at this
theorem use_rel {l : List Nat} (hL : Lru size l) (hs : size ≤ 1000) (i : Nat) (hi : i < 20) (h : Cd w W c dd size reads (kl (newS 20) (frN size l i) ++ [kbN (newS 20) (i : Int) 1]) (newS 20)) (hr0 : 0 ≤ reads) (hr1 : reads ≤ 100001) :
    Calls Try.prog 15 #[ptV c, .int .i64 (i : Int)] W fun e w' => e = .returned (.bool true) ∧ Cd w w' c dd size reads (kl (newS 20) (lruN size l i)) (newS 20) := by
  have hlen := fr_len hL i
  have := h.release (i : Int) (wf_small (by omega)) ((kl_fine (by rw [newS_len]; omega) hr0 (by omega) (by omega)).2 i)
  obtain ⟨e1, e2⟩ := kl_rel (newS 20) (size := size) i (fr_not size l i) hlen
  rwa [e1, e2] at this
end
end Go.Proofs.Ytmbhjheoomlggaa
