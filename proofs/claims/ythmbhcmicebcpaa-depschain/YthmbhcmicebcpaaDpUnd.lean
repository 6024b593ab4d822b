/-
  What under goes over: the iterator.
-/
import Derived.Test.YthmbhcmicebcpaaDpSetOf
import Derived.Test.YthmbhcmicebcpaaDpOwn
import Derived.Sort.MapsRangeIn
import Derived.Sort.BigQuietIn
import Derived.Laws.IdiomRangeMap
namespace Go.Proofs.Ythmbhcmicebcpaa
open Go Go.Proofs Go.RowKit Go.Shelf
attribute [local go_sem] Oper.semAt_some
/-- Inside the innermost loop: those of P are looked at. -/
structure UnP (G : Gp) (xs S L ys : List Int) (i : Int) (P : Int → Prop) : Prop where
  nd : ys.Nodup
  ld : L.Nodup
  ls : ∀ x ∈ L, x ∈ S ∧ x ∉ ys
  yu : ∀ y ∈ ys, und G y ∧ y ∈ S
  all : ∀ x ∈ S, x ∈ L ∨ x ∈ ys ∨ ¬ und G x
  xs' : ∀ x ∈ xs, x ∈ S
  cl : ∀ y ∈ ys, ∀ x, hng G y x → (y = i → P x) → x ∈ S
  re : ∀ x ∈ S, Reach G xs x
  ii : i ∈ ys
  ln : L.length ≤ S.length
theorem un_take {G : Gp} {xs S L ys : List Int} {i : Int} (h : UnI G xs S (L ++ [i]) ys) (hi : und G i) : UnP G xs S L (ys ++ [i]) i (fun _ => False) := by
  have hl := h.ls i (by simp)
  have hnd := List.nodup_append.1 h.ld
  refine ⟨List.nodup_append.2 ⟨h.nd, by simp, fun a ha b hb e => ?_⟩, hnd.1, fun x hx => ⟨(h.ls x (by simp [hx])).1, fun q => ?_⟩, fun y hy => ?_, fun x hx => ?_, h.xs', fun y hy x hx hp => ?_, h.re, by simp, by have := h.ln; simp at this; omega⟩
  · rw [List.mem_singleton.1 hb] at e
    exact hl.2 (e ▸ ha)
  · rcases List.mem_append.1 q with q | q
    · exact (h.ls x (by simp [hx])).2 q
    · exact hnd.2.2 x hx i (by simp) (List.mem_singleton.1 q)
  · rcases List.mem_append.1 hy with q | q
    · exact h.yu y q
    · rw [List.mem_singleton.1 q]; exact ⟨hi, hl.1⟩
  · rcases h.all x hx with q | q | q
    · rcases List.mem_append.1 q with q | q
      · exact .inl q
      · exact .inr (.inl (by simp [List.mem_singleton.1 q]))
    · exact .inr (.inl (by simp [q]))
    · exact .inr (.inr q)
  · rcases List.mem_append.1 hy with q | q
    · exact h.cl y q x hx
    · exact (hp (List.mem_singleton.1 q)).elim
theorem un_seen {G : Gp} {xs S L ys : List Int} {i x : Int} {P P' : Int → Prop} (h : UnP G xs S L ys i P) (hx : x ∈ S) (hP : ∀ z, P' z → P z ∨ z = x) : UnP G xs S L ys i P' :=
  ⟨h.nd, h.ld, h.ls, h.yu, h.all, h.xs', fun y hy z hz hp => by
    by_cases e : y = i
    · rcases hP z (hp e) with q | q
      · exact h.cl y hy z hz (fun _ => q)
      · rw [q]; exact hx
    · exact h.cl y hy z hz (fun q => absurd q e), h.re, h.ii, h.ln⟩
theorem un_add {G : Gp} {xs S L ys : List Int} {i x : Int} {P P' : Int → Prop} (h : UnP G xs S L ys i P) (hx : hng G i x) (hS : x ∉ S) (hP : ∀ z, P' z → P z ∨ z = x) : UnP G xs (insS x S) (L ++ [x]) ys i P' := by
  have hxy : x ∉ ys := fun q => hS (h.yu x q).2
  have hxl : x ∉ L := fun q => hS (h.ls x q).1
  refine ⟨h.nd, List.nodup_append.2 ⟨h.ld, by simp, fun a ha b hb e => ?_⟩, fun y hy => ?_, fun y hy => ⟨(h.yu y hy).1, mem_ins.2 (.inr (h.yu y hy).2)⟩, fun y hy => ?_, fun y hy => mem_ins.2 (.inr (h.xs' y hy)), fun y hy z hz hp => ?_, fun y hy => ?_, h.ii, by have := h.ln; rw [ins_length hS, List.length_append]; simp; omega⟩
  · rw [List.mem_singleton.1 hb] at e
    exact hxl (e ▸ ha)
  · rcases List.mem_append.1 hy with q | q
    · exact ⟨mem_ins.2 (.inr (h.ls y q).1), (h.ls y q).2⟩
    · rw [List.mem_singleton.1 q]; exact ⟨mem_ins.2 (.inl rfl), hxy⟩
  · rcases mem_ins.1 hy with q | q
    · exact .inl (by simp [q])
    · rcases h.all y q with q | q | q
      · exact .inl (by simp [q])
      · exact .inr (.inl q)
      · exact .inr (.inr q)
  · by_cases e : y = i
    · rcases hP z (hp e) with q | q
      · exact mem_ins.2 (.inr (h.cl y hy z hz (fun _ => q)))
      · exact mem_ins.2 (.inl q)
    · exact mem_ins.2 (.inr (h.cl y hy z hz (fun q => absurd q e)))
  · rcases mem_ins.1 hy with q | q
    · rw [q]; exact .step (h.re i (h.yu i h.ii).2) (h.yu i h.ii).1 hx
    · exact h.re y q
theorem un_done {G : Gp} {xs S L ys : List Int} {i : Int} {P : Int → Prop} (h : UnP G xs S L ys i P) (hP : ∀ x, hng G i x → P x) : UnI G xs S L ys :=
  ⟨h.nd, h.ld, h.ls, h.yu, h.all, h.xs', fun y hy x hx => h.cl y hy x hx (fun e => hP x (e ▸ hx)), h.re, h.ln⟩
/-- A row of ints that grows by one: where it lies. -/
theorem app_at (W : World) (v : Value) (xs : List Int) (hown : W.ownsRow 0 3 1 v xs.length (Iy xs)) (hn : xs.length ≤ 1000000) (x : Int) :
    ∃ v' W', (Builtin.append_ #[23, 23] 23 #[v, .slice (some ⟨W.heap.size, 0, none⟩) 1 1]).run Try.prog (W.alloc (.cells #[.int .i64 x] 3)) = .ok v' W' ∧ W'.ownsRow 0 3 1 v' (xs ++ [x]).length (Iy (xs ++ [x])) ∧ Only (fun k => v.ownBlock = some k) W W' ∧ ∀ k, v'.ownBlock = some k → v.ownBlock = some k ∨ W.heap.size ≤ k := by
  obtain ⟨i0, hi, hz0, hz1, hz2⟩ := info3p
  have hnew := blk_new W (.cells #[.int .i64 x] 3)
  have hs1 : (W.alloc (.cells #[.int .i64 x] 3)).heap.size = W.heap.size + 1 := by simp
  obtain ⟨v', W', hr, ho, hg, _, hv⟩ := run_append_own_at (P := Try.prog) (W.alloc (.cells #[.int .i64 x] 3)) 0 23 23 3 i0 (.int .i64 0) 1 8 Try.underlying23 hi hz0 hz1 hz2 rfl (by decide) v xs.length (Iy xs) (hown.alloc _) ⟨W.heap.size, 0, none⟩ 1 1 (Iy [x]) rfl (fun j u hj => by
    match j, hj with
    | 0, hj => cases hj; rw [add_at, blk_cell hnew]; rfl) (Iy_one _) (by unfold maxLen; omega) (by omega) (Nat.zero_le _)
  have e : Iy xs ++ Iy [x] = Iy (xs ++ [x]) := by simp [Iy]
  rw [e] at ho
  refine ⟨v', W', hr, by rw [List.length_append]; exact ho, ((Only.refl _ W).alloc _).grown hg (fun k hk => .inl hk), fun k hk => ?_⟩
  rcases hv with hv | hv
  · exact .inl (hv.symm.trans hk)
  · rw [hk] at hv
    have := Option.some.inj hv
    exact .inr (by omega)
theorem own_cut {W : World} {v : Value} {L : List Int} {x : Int} (h : W.ownsRow 0 3 1 v (L ++ [x]).length (Iy (L ++ [x]))) : ∃ g cap, v = .slice (some ⟨g, 0, none⟩) (L.length + 1) cap ∧ L.length + 1 ≤ cap ∧ W.ownsRow 0 3 1 (.slice (some ⟨g, 0, none⟩) L.length cap) L.length (Iy L) ∧ W.cell? ⟨g, L.length, none⟩ = some (.int .i64 x) := by
  rcases h.2 with ⟨_, q⟩ | ⟨g, cap, cur, rfl, h1, hg, h2, h3, h4, h5⟩
  · simp at q
  · rw [List.length_append] at h2 h5
    have hl : (L ++ [x]).length = L.length + 1 := by simp
    refine ⟨g, cap, by rw [hl], by simpa using h2, ⟨by simp [Iy], .inr ⟨g, cap, cur, rfl, h1, hg, by simp at h2; omega, h3, h4, ?_⟩⟩, ?_⟩
    · have : (cur.toList.take ((L.length + 1) * 1)).take (L.length * 1) = (Iy (L ++ [x])).take (L.length * 1) := by simpa using congrArg (List.take (L.length * 1)) h5
      rw [List.take_take, Nat.min_eq_left (by omega)] at this
      rw [this]
      simp [Iy]
    · rw [blk_cell hg]
      have : (cur.toList.take ((L.length + 1) * 1))[L.length]? = (Iy (L ++ [x]))[L.length]? := by simpa using congrArg (fun l => l[L.length]?) h5
      rw [List.getElem?_take, if_pos (by omega), Array.getElem?_toList] at this
      rw [this]
      simp [Iy]
end Go.Proofs.Ythmbhcmicebcpaa
