/-
  A block goes: drop.
-/
import Derived.Test.YtmbhjheoomlggaaCaTurn
namespace Go.Proofs.Ytmbhjheoomlggaa
open Go Go.Proofs Go.RowKit Go.Shelf
open Go.ChangeMaps (setBlock)
theorem keyF_del {A B : List Pl} {x : Pl} (hn : ((A ++ x :: B).map (·.num)).Nodup) (l : Lit) : updF (keyF (A ++ x :: B)) (.int .i64 x.num) none l = keyF (A ++ B) l := by
  have hx : ∀ y ∈ A ++ B, y.num ≠ x.num := by
    simp only [List.map_append, List.map_cons, List.nodup_append, List.nodup_cons] at hn
    intro y hy
    rcases List.mem_append.1 hy with hy | hy
    · exact hn.2.2 y.num (List.mem_map.2 ⟨y, hy, rfl⟩) x.num (by simp)
    · exact fun e => hn.2.1.1 (e ▸ List.mem_map.2 ⟨y, hy, rfl⟩)
  by_cases e : l = .int .i64 x.num
  · subst e
    rw [upd_same, keyF_int, List.find?_eq_none.2 (fun y hy => by simpa using hx y hy)]
    rfl
  · rw [upd_other _ _ e]
    unfold keyF
    split
    · rename_i n
      have hne : (x.num == n) = false := by
        simp
        exact fun e' => e (by rw [e'])
      simp [List.find?_append, hne]
    · rfl
theorem tn_not {F : Nat → Prop} {W : World} {c m : Nat} {d : Value} {size reads : Int} {L : List Pl} (h : CaAt F W c m d size reads L) {x : Pl} (hx : x ∈ L) : ¬ Tn c L x.h ∧ ¬ Tn c L x.g ∧ ¬ Tn c L m := by
  refine ⟨?_, ?_, ?_⟩
  · rintro (e | ⟨y, hy, e⟩)
    · exact (h.kind hx hx).1 e
    · exact (h.kind hx hy).2.2.1 e
  · rintro (e | ⟨y, hy, e⟩)
    · exact (h.kind hx hx).2.1 e
    · exact (h.kind hx hy).2.2.2.1 e
  · rintro (e | ⟨y, hy, e⟩)
    · exact h.m_ne.1 e
    · exact (h.m_ne.2 y hy).1 e
section
variable {F : Nat → Prop} {w : World} {c m : Nat} {d : Value} {size reads : Int}
theorem drop_fin (A B : List Pl) (x : Pl) (h : CaAt F w c m d size reads (A ++ x :: B)) (n : Nat) (hn : idleN (A ++ B) = n) (w1 : World) (h1 : RemP w c d (.int .i64 size) (.int .i64 reads) (.map (some m)) (.int .i64 ((n : Int) + 1)) A B x (.returned (.tuple #[])) w1) :
    w1.cell? ⟨c, 5, none⟩ = some (.map (some m)) ∧ w1.cell? ⟨x.p, 0, none⟩ = some (ptV x.h) ∧ w1.cell? ⟨x.h, 0, none⟩ = some (.int .i64 x.num) ∧
    ∃ o, (Builtin.delete_ #[56, 3] 0 #[.map (some m), .int .i64 x.num]).run Try.prog w1.drew = .ok (.tuple #[]) (setBlock w1.drew m o) ∧ (setBlock w1.drew m o).cell? ⟨c, 6, none⟩ = some (.int .i64 ((n : Int) + 1)) ∧ (setBlock w1.drew m o).frozen? ⟨c, 6, none⟩ = false ∧
      CaAt F ((setBlock w1.drew m o).setCell ⟨c, 6, none⟩ (.int .i64 (n : Nat))) c m d size reads (A ++ B) ∧ Only F w ((setBlock w1.drew m o).setCell ⟨c, 6, none⟩ (.int .i64 (n : Nat))) := by
  obtain ⟨_, g1, g2, g3⟩ := h1
  have hxm : x ∈ A ++ x :: B := by simp
  have sub : ∀ y ∈ A ++ B, y ∈ A ++ x :: B := fun y hy => by
    simp at hy ⊢
    rcases hy with hy | hy
    · exact .inl hy
    · exact .inr (.inr hy)
  have t0 := tn_not h hxm
  have hb0 := (g3.block x.h (h.h_lt hxm) t0.1).trans (h.held x hxm).blk
  have m0 : MAt w1.drew 3 m _ _ := h.map.kept (W' := w1.drew) (g3.block m h.map.lt t0.2.2)
  obtain ⟨o, hd, hm⟩ := m0.del keyed3 Try.underlying56 (key_int (h.wf x hxm)) 0
  have hcm : c ≠ m := fun e => h.m_ne.1 e.symm
  have hb2 : (setBlock w1.drew m o).heap[c]? = _ := (heap_set_other hcm).trans g1.blk
  have hkey : keyF (A ++ x :: B) (.int .i64 x.num) = some (ptV x.p) := by rw [keyF_int, find_at h.nn]; rfl
  have hlen : (if (keyF (A ++ x :: B) (.int .i64 x.num)).isSome = true then (A ++ x :: B).length - 1 else (A ++ x :: B).length) = (A ++ B).length := by rw [hkey]; simp
  rw [hlen] at hm
  refine ⟨(ca_cells g1.blk).2.2.2.1, (pl_c1 g2).1, by rw [blk_cell hb0]; rfl, o, hd, (ca_cells hb2).2.2.2.2.1, (ca_cells hb2).2.2.2.2.2.2, ⟨h.fc, h.fm, ⟨by rw [hn]; exact set_c6 hb2, g1.seg.keep (fun y hy => ?_), g1.nd⟩, ?_, fun y hy => ?_, fun y hy => h.inF y (sub y hy), ?_, ?_, fun y hy => h.wf y (sub y hy)⟩, ?_⟩
  · rw [set_other _ _ _ _ (g1.ne hy), heap_set_other (fun e => (h.m_ne.2 y (sub y hy)).1 e.symm)]; rfl
  · exact (hm.kept (set_other _ _ _ _ h.m_ne.1)).say (fun _ kl _ => keyF_del h.nn kl)
  · have t := tn_not h (sub y hy)
    have hk := h.kind (sub y hy) (sub y hy)
    have hmn := h.m_ne.2 y (sub y hy)
    refine (h.held y (sub y hy)).keep ?_ ?_
    · rw [set_other _ _ _ _ hk.1, heap_set_other (fun e => hmn.2.1 e.symm)]
      exact g3.block _ (h.h_lt (sub y hy)) t.1
    · rw [set_other _ _ _ _ hk.2.1, heap_set_other (fun e => hmn.2.2 e.symm)]
      exact g3.block _ (h.held y (sub y hy)).g_lt t.2.1
  · have := h.nh
    simp only [List.map_append, List.map_cons, List.nodup_append, List.nodup_cons, List.mem_cons] at this ⊢
    exact ⟨this.1, this.2.1.2, fun a ha b hb => this.2.2 a ha b (.inr hb)⟩
  · have := h.nn
    simp only [List.map_append, List.map_cons, List.nodup_append, List.nodup_cons, List.mem_cons] at this ⊢
    exact ⟨this.1, this.2.1.2, fun a ha b hb => this.2.2 a ha b (.inr hb)⟩
  · refine Only.setCell (p := ⟨c, 6, none⟩) (Only.setBlock (Only.drew ?_) (.inl h.fm) o) (.inl h.fc) _
    refine g3.mono (fun k _ hk => ?_)
    rcases hk with rfl | ⟨y, hy, rfl⟩
    · exact h.fc
    · exact (h.inF y hy).1
set_option maxRecDepth 100000 in
set_option maxHeartbeats 4000000 in
theorem drop_any (A B : List Pl) (x : Pl) (h : CaAt F w c m d size reads (A ++ x :: B)) (hi : x.idle = true) (hl : (A ++ x :: B).length ≤ 1000000) :
    Calls Try.prog 44 #[ptV c, ptV x.p] w fun e w' => e = .returned (.tuple #[]) ∧ CaAt F w' c m d size reads (A ++ B) ∧ Only F w w' := by
  have hn := idleN_app A B x
  rw [if_pos hi] at hn
  have hn2 : idleN (A ++ B) = idleN A + idleN B := by simp [idleN, List.countP_append]
  obtain ⟨n, hnn⟩ : ∃ n, n = idleN A + idleN B := ⟨_, rfl⟩
  rw [← hnn] at hn hn2
  have hN : n ≤ 1000000 := by
    have := idleN_le (A ++ x :: B)
    omega
  have hls := h.ls
  rw [hn, Int.natCast_add] at hls
  have HR := Hid.mk (remove_any A B x hls)
  have HF : Hid (∀ w1, RemP w c d (.int .i64 size) (.int .i64 reads) (.map (some m)) (.int .i64 ((n : Int) + 1)) A B x (.returned (.tuple #[])) w1 → _) := Hid.mk (drop_fin A B x h n hn2)
  clear hls h hn hn2 hnn hi hl
  go_enter Try.func44, Try.ntmps44
  go_wp2_with (go_at_call 41; refine HR.out.mono ?_; rintro e w1 ⟨rfl, hR⟩; obtain ⟨c5, p0, h0, o, hdel, c6, f6, hfin⟩ := HF.out w1 ⟨rfl, hR⟩; have HFIN := Hid.mk hfin; clear hR hfin HF HR)
  go_region
  go_wp2
  go_end0
  exact ⟨rfl, HFIN.out⟩
end
end Go.Proofs.Ytmbhjheoomlggaa
