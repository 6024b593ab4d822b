/-
  The cache's calls: Get.
-/
import Derived.Test.YtmbhjheoomlggaaCaRel
namespace Go.Proofs.Ytmbhjheoomlggaa
open Go Go.Proofs Go.RowKit Go.Shelf
theorem shr_mem {n : Nat} {L : List Pl} {x : Pl} (hx : x ∈ L) (hi : x.idle = false) : x ∈ shrN n L := by
  induction L generalizing n with
  | nil => cases hx
  | cons y L ih =>
    cases n with
    | zero => exact hx
    | succ n =>
      rw [shrN]
      rcases List.mem_cons.1 hx with rfl | hx
      · rw [if_neg (by rw [hi]; simp)]; simp
      · split
        · exact ih hx
        · exact List.mem_cons_of_mem _ (ih hx)
theorem keyF_end {A B : List Pl} {x : Pl} (hn : ((A ++ x :: B).map (·.num)).Nodup) (l : Lit) : keyF (A ++ x :: B) l = keyF (A ++ B ++ [x]) l := by
  refine keyF_ext (fun n => ?_) l
  by_cases e : x.num = n
  · subst e
    have hx : ∀ y ∈ A ++ B, y.num ≠ x.num := by
      simp only [List.map_append, List.map_cons, List.nodup_append, List.nodup_cons] at hn
      intro y hy
      rcases List.mem_append.1 hy with hy | hy
      · exact hn.2.2 y.num (List.mem_map.2 ⟨y, hy, rfl⟩) x.num (by simp)
      · exact fun e => hn.2.1.1 (e ▸ List.mem_map.2 ⟨y, hy, rfl⟩)
    rw [find_at hn, List.find?_append, List.find?_eq_none.2 (fun y hy => by simpa using hx y hy)]
    simp
  · have hne : (x.num == n) = false := by simpa using e
    simp [List.find?_append, hne]
section
variable {F : Nat → Prop} {w : World} {c m : Nat} {reads : Int} {d : Value}
theorem CaAt.toEnd {size : Int} {A B : List Pl} {x : Pl} {w2 : World} (h : CaAt F w c m d size reads (A ++ x :: B)) (g1 : LsAt w2 c d (.int .i64 size) (.int .i64 reads) (.map (some m)) (.int .i64 (idleN (A ++ x :: B) : Nat)) (A ++ B ++ [x])) (g3 : Only (Tn c (A ++ x :: B)) w w2) :
    CaAt F w2 c m d size reads (A ++ B ++ [x]) ∧ Only F w w2 := by
  have hin : ∀ y ∈ A ++ B ++ [x], y ∈ A ++ x :: B := fun y hy => by
    simp at hy ⊢
    rcases hy with h | h | h
    · exact .inl h
    · exact .inr (.inr h)
    · exact .inr (.inl h)
  have hi : idleN (A ++ B ++ [x]) = idleN (A ++ x :: B) := by
    simp only [idleN, List.countP_append, List.countP_cons, List.countP_nil]
    omega
  have hlen : (A ++ B ++ [x]).length = (A ++ x :: B).length := by simp
  have hperm : (A ++ B ++ [x]).Perm (A ++ x :: B) := by
    rw [List.append_assoc]
    exact List.Perm.append_left A (List.perm_append_singleton x B)
  refine ⟨⟨h.fc, h.fm, by rw [hi]; exact g1, ?_, fun y hy => ?_, fun y hy => h.inF y (hin y hy), ?_, ?_, fun y hy => h.wf y (hin y hy)⟩, ?_⟩
  · rw [hlen]
    exact (h.map.kept (g3.block m h.map.lt (tn_not h (x := x) (by simp)).2.2)).say (fun _ kl _ => keyF_end h.nn kl)
  · have t := tn_not h (hin y hy)
    exact (h.held y (hin y hy)).keep (g3.block _ (h.h_lt (hin y hy)) t.1) (g3.block _ (h.held y (hin y hy)).g_lt t.2.1)
  · exact (hperm.map _).nodup_iff.2 h.nh
  · exact (hperm.map _).nodup_iff.2 h.nn
  · refine g3.mono (fun k _ hk => ?_)
    rcases hk with rfl | ⟨y, hy, rfl⟩
    · exact h.fc
    · exact (h.inF y hy).1
/-- What is told of a get: the bytes, as they lie in new memory; the cache lies below. -/
def GotP (c m : Nat) (d : Value) (size : Nat) (w1 : World) (F0 F : Nat → Prop) (r : Int) (A B : List Pl) (x : Pl) (e : Ending) (w' : World) : Prop :=
  ∃ g cap b, e = .returned (.tuple #[.slice (some ⟨g, 0, none⟩) 1024 cap, .bool true]) ∧ w1.heap.size ≤ b ∧ b ≤ g ∧ w'.ownsRow b 5 1 (.slice (some ⟨g, 0, none⟩) 1024 cap) 1024 (By x.dat) ∧
    CaAt (fun k => F k ∧ k < b) w' c m d size r (shrL size (A ++ B ++ [x.by (x.pins + 1) x.dirty])) ∧ Only F0 w1 w'
set_option maxRecDepth 100000 in
set_option maxHeartbeats 4000000 in
theorem get_rest (size : Nat) (n : Int) (F0 : Nat → Prop) (P : (Nat → Prop) → Int → List Pl → List Pl → Pl → Prop)
    (hfind : Calls Try.prog 28 #[ptV c, .int .i64 n] w fun e w' => ∃ F r A B x, P F r A B x ∧ e = .returned (ptV x.p) ∧ CaAt F w' c m d size r (A ++ x :: B) ∧ Only F0 w w' ∧ (∀ k, F k → F0 k ∨ w.heap.size ≤ k) ∧ (A ++ x :: B).length ≤ 1000000 ∧ x.pins ≤ 1000000) :
    Calls Try.prog 12 #[ptV c, .int .i64 n] w fun e w' => ∃ F r A B x, P F r A B x ∧ GotP c m d size w F0 F r A B x e w' := by
  have HFIND := Hid.mk hfind
  clear hfind
  go_enter Try.func12, Try.ntmps12
  go_wp2_with (first
    | (go_at_call 28; refine HFIND.out.mono ?_; rintro e w1 ⟨F, r, A, B, x, hP, rfl, hC1, hO1, hF1, hl1, hp1⟩; have HE := Hid.mk (toend_any A B x hC1.ls); have HP := Hid.mk hP; have HC1 := Hid.mk hC1; have HO1 := Hid.mk hO1; have HF1 := Hid.mk hF1; have HL1 := Hid.mk hl1; clear hP hC1 hO1 hF1 hl1 HFIND)
    | (go_at_call 29; refine HE.out.mono ?_; rintro e w2 ⟨rfl, hL2, hO2⟩; obtain ⟨hC2, hO2'⟩ := HC1.out.toEnd hL2 hO2; have HC2 := Hid.mk hC2; have HO2 := Hid.mk hO2'; clear hL2 hO2 hC2 hO2' HE))
  have hl2 : (A ++ B ++ x :: []).length ≤ 1000000 := by have := HL1.out; simp at this ⊢; omega
  have hC2 := HC2.out
  have p0 := (pl_c1 hC2.ls.seg.at.2.1).1
  obtain ⟨a0, a1, a2, a3, a4, a5, a6⟩ := hd_cells (hC2.held x (by simp))
  have hwr : IntKind.i64.wrap ((x.pins : Int) + 1) = (((x.pins + 1 : Nat)) : Int) := by rw [IntKind.wrap_i64]; omega
  have HTURN := Hid.mk (turn_any (A ++ B) [] x (x.pins + 1) x.dirty hC2.drew hl2)
  have HSH : Hid (∀ W, CaAt F W c m d size r (A ++ B ++ [x.by (x.pins + 1) x.dirty]) → Calls Try.prog 31 #[ptV c] W fun e w' => e = .returned (.tuple #[]) ∧ CaAt F w' c m d size r (shrL size (A ++ B ++ [x.by (x.pins + 1) x.dirty])) ∧ Only F W w') := Hid.mk (fun W hC => shrink_any size _ hC (by simpa using hl2))
  have HST : Hid (∀ W, CaAt F W c m d size r (A ++ B ++ [x.by (x.pins + 1) x.dirty]) → RgD x W) := Hid.mk (fun W hC => RgD.of (B := []) hC)
  have HS0 : Hid (RgD x w2.drew) := Hid.mk ⟨p0, a2⟩
  have HCL : Hid (∀ W, CaAt F W c m d size r (shrL size (A ++ B ++ [x.by (x.pins + 1) x.dirty])) → W.cell? ⟨x.p, 0, none⟩ = some (ptV x.h) ∧ W.cell? ⟨x.h, 3, none⟩ = some (.slice (some ⟨x.g, 0, none⟩) 1024 x.cap) ∧ Calls Try.prog 32 #[.slice (some ⟨x.g, 0, none⟩) 1024 x.cap] W fun e w' => ∃ g cap, e = .returned (.slice (some ⟨g, 0, none⟩) 1024 cap) ∧ W.heap.size ≤ g ∧ w'.ownsRow W.heap.size 5 1 (.slice (some ⟨g, 0, none⟩) 1024 cap) 1024 (By x.dat) ∧ Below W.heap.size W w') := Hid.mk (fun W hC => by
    have hm : x.by (x.pins + 1) x.dirty ∈ shrL size (A ++ B ++ [x.by (x.pins + 1) x.dirty]) := shr_mem (by simp) (by simp [Pl.idle, Pl.by])
    obtain ⟨u, v, hp⟩ := hC.ls.seg.mem hm
    have hh := hC.held _ hm
    refine ⟨(pl_c1 hp).1, (hd_cells hh).2.2.2.1, ?_⟩
    obtain ⟨g', cap', e', _, _, _, _, hcell⟩ := owns_bytes hh.row (by simp)
    cases e'
    exact Dk.clone_form ⟨x.g, 0, none⟩ 1024 x.cap x.dat W hh.len (by omega) hcell)
  clear hC2 hl2 a0 a2 a3 a4 a5 a6
  go_wp2_with fail
  refine wp_region_held_drew (S := RgD x) (by kernel_rfl) HS0.out (fun hH => ?_)
  change wpAnyH Try.prog Region.Mode.any _ _ _ 21 _ _ _
  refine takeH 0 17 (.pointer (some ⟨c, 0, none⟩)) rfl (by kernel_rfl) (by kernel_rfl) (by kernel_rfl) (by kernel_rfl) (fun _ _ _ h => h) (by kernel_rfl) (fun w hw => by kernel_rfl) hH ?_
  simp only [List.setIfInBounds_toArray, List.set_cons_zero, List.set_cons_succ]
  refine takeH 1 18 (.pointer (some ⟨x.p, 0, none⟩)) rfl (by kernel_rfl) (by kernel_rfl) (by kernel_rfl) (by kernel_rfl) (fun _ _ _ h => h) (by kernel_rfl) (fun w hw => by kernel_rfl) hH ?_
  simp only [List.setIfInBounds_toArray, List.set_cons_zero, List.set_cons_succ]
  refine takeH 2 19 (.pointer (some ⟨x.p, 0, none⟩)) rfl (by kernel_rfl) (by kernel_rfl) (by kernel_rfl) (by kernel_rfl) (fun _ _ _ h => h) (by kernel_rfl) (fun w hw => by (try dsimp only at hw); go_simp) hH ?_
  simp only [List.setIfInBounds_toArray, List.set_cons_zero, List.set_cons_succ]
  refine takeH 3 20 (.pointer (some ⟨x.p, 0, none⟩)) rfl (by kernel_rfl) (by kernel_rfl) (by kernel_rfl) (by kernel_rfl) (fun _ _ _ h => h) (by kernel_rfl) (fun w hw => by (try dsimp only at hw); go_simp) hH ?_
  simp only [List.setIfInBounds_toArray, List.set_cons_zero, List.set_cons_succ]
  refine takeH 4 21 (.pointer (some ⟨x.h, 0, none⟩)) rfl (by kernel_rfl) (by kernel_rfl) (by kernel_rfl) (by kernel_rfl) (fun _ _ _ h => h) (by kernel_rfl) (fun w hw => by (try dsimp only at hw); go_simp) hH ?_
  simp only [List.setIfInBounds_toArray, List.set_cons_zero, List.set_cons_succ]
  refine takeH 5 22 (.pointer (some ⟨x.p, 0, none⟩)) rfl (by kernel_rfl) (by kernel_rfl) (by kernel_rfl) (by kernel_rfl) (fun _ _ _ h => h) (by kernel_rfl) (fun w hw => by kernel_rfl) hH ?_
  simp only [List.setIfInBounds_toArray, List.set_cons_zero, List.set_cons_succ]
  refine takeH 6 23 (.pointer (some ⟨x.p, 0, none⟩)) rfl (by kernel_rfl) (by kernel_rfl) (by kernel_rfl) (by kernel_rfl) (fun _ _ _ h => h) (by kernel_rfl) (fun w hw => by (try dsimp only at hw); go_simp) hH ?_
  simp only [List.setIfInBounds_toArray, List.set_cons_zero, List.set_cons_succ]
  refine takeH 7 24 (.pointer (some ⟨x.p, 0, none⟩)) rfl (by kernel_rfl) (by kernel_rfl) (by kernel_rfl) (by kernel_rfl) (fun _ _ _ h => h) (by kernel_rfl) (fun w hw => by (try dsimp only at hw); go_simp) hH ?_
  simp only [List.setIfInBounds_toArray, List.set_cons_zero, List.set_cons_succ]
  refine takeH 8 25 (.pointer (some ⟨x.h, 0, none⟩)) rfl (by kernel_rfl) (by kernel_rfl) (by kernel_rfl) (by kernel_rfl) (fun _ _ _ h => h) (by kernel_rfl) (fun w hw => by (try dsimp only at hw); go_simp) hH ?_
  simp only [List.setIfInBounds_toArray, List.set_cons_zero, List.set_cons_succ]
  refine takeH 9 26 (.pointer (some ⟨x.h, 0, none⟩)) rfl (by kernel_rfl) (by kernel_rfl) (by kernel_rfl) (by kernel_rfl) (fun _ _ _ h => h) (by kernel_rfl) (fun w hw => by (try dsimp only at hw); go_simp) hH ?_
  simp only [List.setIfInBounds_toArray, List.set_cons_zero, List.set_cons_succ]
  refine takeH 10 27 (.pointer (some ⟨x.h, 1, none⟩)) rfl (by kernel_rfl) (by kernel_rfl) (by kernel_rfl) (by kernel_rfl) (fun _ _ _ h => h) (by kernel_rfl) (fun w hw => by (try dsimp only at hw); go_simp) hH ?_
  simp only [List.setIfInBounds_toArray, List.set_cons_zero, List.set_cons_succ]
  refine takeH 13 30 (.pointer (some ⟨x.p, 0, none⟩)) rfl (by kernel_rfl) (by kernel_rfl) (by kernel_rfl) (by kernel_rfl) (fun _ _ _ h => h) (by kernel_rfl) (fun w hw => by kernel_rfl) hH ?_
  simp only [List.setIfInBounds_toArray, List.set_cons_zero, List.set_cons_succ]
  refine takeH 14 31 (.pointer (some ⟨x.p, 0, none⟩)) rfl (by kernel_rfl) (by kernel_rfl) (by kernel_rfl) (by kernel_rfl) (fun _ _ _ h => h) (by kernel_rfl) (fun w hw => by (try dsimp only at hw); go_simp) hH ?_
  simp only [List.setIfInBounds_toArray, List.set_cons_zero, List.set_cons_succ]
  refine takeH 15 32 (.pointer (some ⟨x.p, 0, none⟩)) rfl (by kernel_rfl) (by kernel_rfl) (by kernel_rfl) (by kernel_rfl) (fun _ _ _ h => h) (by kernel_rfl) (fun w hw => by (try dsimp only at hw); go_simp) hH ?_
  simp only [List.setIfInBounds_toArray, List.set_cons_zero, List.set_cons_succ]
  refine takeH 16 33 (.pointer (some ⟨x.h, 0, none⟩)) rfl (by kernel_rfl) (by kernel_rfl) (by kernel_rfl) (by kernel_rfl) (fun _ _ _ h => h) (by kernel_rfl) (fun w hw => by (try dsimp only at hw); go_simp) hH ?_
  simp only [List.setIfInBounds_toArray, List.set_cons_zero, List.set_cons_succ]
  refine takeH 17 34 (.pointer (some ⟨x.h, 0, none⟩)) rfl (by kernel_rfl) (by kernel_rfl) (by kernel_rfl) (by kernel_rfl) (fun _ _ _ h => h) (by kernel_rfl) (fun w hw => by (try dsimp only at hw); go_simp) hH ?_
  simp only [List.setIfInBounds_toArray, List.set_cons_zero, List.set_cons_succ]
  refine takeH 18 35 (.pointer (some ⟨x.h, 2, none⟩)) rfl (by kernel_rfl) (by kernel_rfl) (by kernel_rfl) (by kernel_rfl) (fun _ _ _ h => h) (by kernel_rfl) (fun w hw => by (try dsimp only at hw); go_simp) hH ?_
  simp only [List.setIfInBounds_toArray, List.set_cons_zero, List.set_cons_succ]
  refine takeH 19 36 (.bool x.dirty) rfl (by kernel_rfl) (by kernel_rfl) (by kernel_rfl) (by kernel_rfl) (fun _ _ _ h => h) (by kernel_rfl) (fun w hw => by (try dsimp only at hw); go_simp) hH ?_
  simp only [List.setIfInBounds_toArray, List.set_cons_zero, List.set_cons_succ]
  refine stepH 11 28 (.int .i64 ((x.pins : Nat) : Int)) rfl (by kernel_rfl) (by kernel_rfl) (by kernel_rfl) (by go_simp) hH ?_
  simp only [List.setIfInBounds_toArray, List.set_cons_zero, List.set_cons_succ]
  refine takeH 12 29 (.int .i64 ((x.pins + 1 : Nat) : Int)) rfl (by kernel_rfl) (by kernel_rfl) (by kernel_rfl) (by kernel_rfl) (fun _ _ _ h => h) (by kernel_rfl) (fun w hw => by (try dsimp only at hw); go_simp) hH ?_
  simp only [List.setIfInBounds_toArray, List.set_cons_zero, List.set_cons_succ]
  refine stepH_call 20 37 rfl (by kernel_rfl) (by kernel_rfl) (by kernel_rfl) 30 #[.tmp 17, .tmp 21, .tmp 29, .tmp 36] #[26, 64, 3, 4] (by kernel_rfl) (enters_of Try.func30 (by kernel_rfl) rfl) #[ptV c, ptV x.h, .int .i64 ((x.pins + 1 : Nat) : Int), .bool x.dirty] (by kernel_rfl) HTURN.out ?_
  rintro e w5 ⟨rfl, hC5, hO5⟩
  have hH5 := HST.out w5 hC5
  refine ⟨_, rfl, hH5, ?_⟩
  simp only [List.setIfInBounds_toArray, List.set_cons_zero, List.set_cons_succ]
  refine wpAnyH_done (by kernel_rfl) ?_ _
  have HC5 := Hid.mk hC5
  have HO5 := Hid.mk hO5
  clear hC5 hO5 hH hH5 HS0 HST HTURN p0 a1 hwr
  go_wp2_with (first
    | (go_at_call 31; refine (HSH.out _ HC5.out).mono ?_; rintro e w6 ⟨rfl, hC6, hO6⟩; obtain ⟨k0, k3, hcl⟩ := HCL.out w6 hC6; have HK := Hid.mk hcl; have HC6 := Hid.mk hC6; have HO6 := Hid.mk hO6; clear hC6 hO6 hcl HSH HCL)
    | (go_at_call 32; refine HK.out.mono ?_; rintro e w7 ⟨g, cap, rfl, hg, hown, hB⟩; have HOWN := Hid.mk hown; have HB := Hid.mk hB; have HG := Hid.mk hg; clear hown hB hg HK))
  go_ret2
  have hs1 := HO1.out.size
  have hs2 := HO2.out.size
  have hs5 : w2.heap.size ≤ w5.heap.size := HO5.out.size
  have hs6 := HO6.out.size
  refine ⟨F, r, A, B, x, HP.out, g, cap, w6.heap.size, rfl, by omega, HG.out, HOWN.out, (HC6.out.mono (fun k hk hl => ⟨hk, hl⟩)).below HB.out, ?_⟩
  have o1 : Only F w1 w7 := (HO2.out.drew.trans (HO5.out.trans HO6.out (fun _ h => .inl h)) (fun _ h => .inl h)).trans (Only.of_new (fun _ => False) HB.out) (fun _ h => h.elim)
  exact HO1.out.trans o1 (fun k hk => HF1.out k hk)
end
end Go.Proofs.Ytmbhjheoomlggaa
