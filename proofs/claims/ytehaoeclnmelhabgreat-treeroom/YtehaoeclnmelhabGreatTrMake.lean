/-
  enter, whatever is handed; failed; create, mkdir.
-/
import Derived.Test.YtehaoeclnmelhabGreatTrEnter2
namespace Go.Proofs.YtehaoeclnmelhabGreat
open Go Go.Proofs Go.RowKit Go.Shelf Go.Sort

theorem enter_any (w : World) (t : Nat) (σ : Tr) (Ls : List Lay) (hT : TrAt w t σ Ls) (hOk : ∀ x ∈ σ.nodes, x.Ok) (s : ByteArray) (hs : s.size ≤ 16777216) (L : Lay) (n : Nd) (hN : NdAt w (locL Ls) L n) (hnk : n.Ok) (hns : ∀ q, some q ∉ n.slots) (h1 : ∀ k ∈ L.foot, k ∉ feet t Ls) (h2 : L.foot.Nodup) :
    Calls Tryz.prog 38 #[ptrV t, .string s, ptrV L.b] w fun e w' => e = .returned (.int .i64 (enterS σ (ofS s) n).1) ∧ Step (fun k => k ∈ feet t Ls ∨ k ∈ L.foot) w t w' (enterS σ (ofS s) n).2 := by
  have still : ∀ {w' : World}, Below w.heap.size w w' → Step (fun k => k ∈ feet t Ls ∨ k ∈ L.foot) w t w' σ := fun hB => Step.still hT (fun k hk => .inl hk) hB
  have early : splitL (ofS s) = none ∨ splitL (ofS s) = some [] → _ := fun h => (enter_early w t σ s hs (ptrV L.b) h).mono (R' := fun e w' => e = .returned (.int .i64 (enterS σ (ofS s) n).1) ∧ Step (fun k => k ∈ feet t Ls ∨ k ∈ L.foot) w t w' (enterS σ (ofS s) n).2) (fun e w' hh => ⟨(hh.1 n).1, by rw [(hh.1 n).2]; exact still hh.2⟩)
  cases hsp : splitL (ofS s) with
  | none => exact early (.inl hsp)
  | some K =>
    rcases list_two K with rfl | ⟨M, p, rfl⟩
    · exact early (.inr hsp)
    · have wrong : (∃ e, spotE σ.nodes M p = (e, none)) ∨ (∃ d o, spotE σ.nodes M p = (0, some ⟨d, p, some o⟩)) ∨ (∃ d, spotE σ.nodes M p = (0, some ⟨d, p, none⟩) ∧ n.isDir = true ∧ 32000 ≤ (nodeAt σ.nodes d).links) → _ := fun h => (enter_wrong w t σ Ls hT s hs L n hN M p hsp h).mono (R' := fun e w' => e = .returned (.int .i64 (enterS σ (ofS s) n).1) ∧ Step (fun k => k ∈ feet t Ls ∨ k ∈ L.foot) w t w' (enterS σ (ofS s) n).2) (fun e w' hh => ⟨hh.1, by rw [hh.2.1]; exact still hh.2.2⟩)
      rcases spotE_or σ.nodes M p with ⟨d, o, he, _⟩ | ⟨e, he, _⟩
      · cases o with
        | some o => exact wrong (.inr (.inl ⟨d, o, he⟩))
        | none =>
          by_cases hc : n.isDir = true ∧ 32000 ≤ (nodeAt σ.nodes d).links
          · exact wrong (.inr (.inr ⟨d, he, hc⟩))
          · have e : enterS σ (ofS s) n = (enterE σ d n, enterR σ d p n) := by
              unfold enterS enterR
              rw [hsp]
              simp [List.getLastD_eq_getLast?, he]
            rw [e]
            exact enter_main w t σ Ls hT hOk s hs L n hN hnk M p hsp d he hc hns h1 h2
      · exact wrong (.inl ⟨e, he⟩)
/-- The result of a call that answers nothing but an error. -/
def errV (e : Int) : Value := .agg #[.int .i64 e, .slice none 0 0, .int .i64 0, .int .i64 0, .int .i64 0, .slice none 0 0, .int .i64 0]
set_option maxRecDepth 100000 in
theorem failed_any (w : World) (e : Int) : Calls Tryz.prog 23 #[.int .i64 e] w fun x w' => x = .returned (errV e) ∧ Below w.heap.size w w' := by
  go_enter Tryz.func23, Tryz.ntmps23
  go_wp2
  refine bodyPost_ret (v := errV e) ?_ rfl ⟨rfl, ?_⟩
  · simp [results, Tryz.results23, go_sem, errV]
  · exact (Below.refl _ w).alloc (Nat.le_refl _) _
/-- A call, as a value. -/
def callV (k : Int) (p q : ByteArray) (o n : Int) (v : Value) : Value := .agg #[.int .i64 k, .string p, .string q, .int .i64 o, .int .i64 n, v]
/-- A step, seen from an earlier world, with what turned outside the tree since. -/
theorem Step.out {F F' : Nat → Prop} {w W1 w' W2 : World} {t : Nat} {σ : Tr} (h : Step F' W1 t w' σ) (hB : Below w.heap.size w W1) (hF : ∀ k, F' k → F k ∨ w.heap.size ≤ k) (h2 : Only (fun k => w.heap.size ≤ k ∧ k < W1.heap.size ∧ ¬ F' k) w' W2) : Step F w t W2 σ := by
  obtain ⟨⟨Ls, h1, h3⟩, h4⟩ := h
  refine ⟨⟨Ls, h1.kept (fun k hk => h2.block k (h1.lt k hk) (fun hs => ?_)), fun k hk => ?_⟩, ((Only.of_new F hB).trans h4 hF).trans h2 (fun i hi => .inr hi.1)⟩
  · rcases h3 k hk with h | h
    · exact hs.2.2 h
    · omega
  · rcases h3 k hk with h | h
    · exact hF k h
    · exact .inr (Nat.le_trans hB.size h)
theorem box7 {W : World} {B : Nat} {u0 u1 u2 u3 u4 u5 u6 : Value} {T : TypeId} (h : W.heap[B]? = some (.cells #[u0, u1, u2, u3, u4, u5, u6] T (0, 0))) (v0 v1 v2 v3 v4 v5 v6 : Value) :
    (((((((W.setCell ⟨B, 0, none⟩ v0).setCell ⟨B, 1, none⟩ v1).setCell ⟨B, 2, none⟩ v2).setCell ⟨B, 3, none⟩ v3).setCell ⟨B, 4, none⟩ v4).setCell ⟨B, 5, none⟩ v5).setCell ⟨B, 6, none⟩ v6).heap[B]? = some (.cells #[v0, v1, v2, v3, v4, v5, v6] T (0, 0)) ∧ Only (fun k => k = B) W (((((((W.setCell ⟨B, 0, none⟩ v0).setCell ⟨B, 1, none⟩ v1).setCell ⟨B, 2, none⟩ v2).setCell ⟨B, 3, none⟩ v3).setCell ⟨B, 4, none⟩ v4).setCell ⟨B, 5, none⟩ v5).setCell ⟨B, 6, none⟩ v6) := by
  refine ⟨?_, ?_⟩
  · rw [blk_set (blk_set (blk_set (blk_set (blk_set (blk_set (blk_set h))))))]
    rfl
  · exact ((((((((Only.refl (fun k => k = B) W).setCell (p := ⟨B, 0, none⟩) (.inl rfl) _).setCell (p := ⟨B, 1, none⟩) (.inl rfl) _).setCell (p := ⟨B, 2, none⟩) (.inl rfl) _).setCell (p := ⟨B, 3, none⟩) (.inl rfl) _).setCell (p := ⟨B, 4, none⟩) (.inl rfl) _).setCell (p := ⟨B, 5, none⟩) (.inl rfl) _).setCell (p := ⟨B, 6, none⟩) (.inl rfl) _)
theorem file_ok : newF.Ok := by
  refine ⟨⟨List.Pairwise.nil, fun x hx => by cases hx⟩, by simp⟩
theorem dir_ok : newD.Ok := by
  refine ⟨by omega, by omega, by simp⟩
set_option maxRecDepth 100000 in
set_option maxHeartbeats 4000000 in
theorem create_any (w : World) (t : Nat) (σ : Tr) (Ls : List Lay) (hT : TrAt w t σ Ls) (hOk : ∀ x ∈ σ.nodes, x.Ok) (k : Int) (s s2 : ByteArray) (off m : Int) (dp : Option Addr) (dl dc : Nat) (hs : s.size ≤ 16777216) :
    Calls Tryz.prog 25 #[ptrV t, callV k s s2 off m (.slice dp dl dc)] w fun e w' => e = .returned (errV (enterS σ (ofS s) newF).1) ∧ Step (fun k => k ∈ feet t Ls) w t w' (enterS σ (ofS s) newF).2 := by
  have mixed : Tryz.prog.follows Departure.mixedOrders = true := by kernel_rfl
  have HN := Hid.mk (fun W => newfile_any W (locL Ls))
  have HE : Hid (∀ W1 W, Below w.heap.size w W1 → w.heap.size ≤ W1.heap.size → W.heap.size = W1.heap.size + 2 → NdAt W (locL Ls) (.file (W1.heap.size + 1) W1.heap.size []) newF → Below W1.heap.size W1 W → _) := Hid.mk (fun W1 W (hB : Below w.heap.size w W1) (hsz : w.heap.size ≤ W1.heap.size) (_ : W.heap.size = W1.heap.size + 2) (hn : NdAt W (locL Ls) (.file (W1.heap.size + 1) W1.heap.size []) newF) (hB1 : Below W1.heap.size W1 W) => enter_any W t σ Ls ((hT.below rfl hB).below rfl hB1) hOk s hs (.file (W1.heap.size + 1) W1.heap.size []) newF hn file_ok (fun q hq => by cases hq) (fun k hk hf => by have := hT.lt k hf; simp [Lay.foot] at hk; omega) (by simp [Lay.foot]))
  have HTL : Hid (∀ k ∈ feet t Ls, k < w.heap.size) := Hid.mk (fun k hk => hT.lt k hk)
  clear hT hOk hs
  unfold callV ptrV at *
  go_enter Tryz.func25, Tryz.ntmps25
  go_wp2_with fail
  obtain ⟨X, hX⟩ : ∃ X, X = (w.alloc (.cells #[.int .i64 k, .string s, .string s2, .int .i64 off, .int .i64 m, .slice dp dl dc] 35)).alloc (.cells #[.int .i64 0, .slice none 0 0, .int .i64 0, .int .i64 0, .int .i64 0, .slice none 0 0, .int .i64 0] 32) := ⟨_, rfl⟩
  have hXB : Below w.heap.size w X := by rw [hX]; exact ((Below.refl _ w).alloc (Nat.le_refl _) _).alloc (by simp) _
  have hXs : X.heap.size = w.heap.size + 2 := by rw [hX]; simp
  have hX0 : X.heap[w.heap.size]? = some (.cells #[.int .i64 k, .string s, .string s2, .int .i64 off, .int .i64 m, .slice dp dl dc] 35 (0, 0)) := by rw [hX, Below.heap_alloc _ _ _ (by simp)]; exact blk_new w _
  have hX1 : X.heap[w.heap.size + 1]? = some (.cells #[.int .i64 0, .slice none 0 0, .int .i64 0, .int .i64 0, .int .i64 0, .slice none 0 0, .int .i64 0] 32 (0, 0)) := by
    rw [hX]
    have := blk_new (w.alloc (.cells #[.int .i64 k, .string s, .string s2, .int .i64 off, .int .i64 m, .slice dp dl dc] 35)) (.cells #[.int .i64 0, .slice none 0 0, .int .i64 0, .int .i64 0, .int .i64 0, .slice none 0 0, .int .i64 0] 32)
    rwa [World.size_alloc] at this
  rw [← hX]
  clear hX
  have c1 := blk_cell hX0 1
  simp at c1
  have HXB := Hid.mk hXB
  have HXS := Hid.mk hXs
  have HX0 := Hid.mk hX0
  have HX1 := Hid.mk hX1
  have HBX : Hid (∀ W, Below X.drew.heap.size X.drew W → W.cell? ⟨w.heap.size, 1, none⟩ = some (.string s)) := Hid.mk (fun W hB => by
    rw [blk_cell ((hB.block w.heap.size (show w.heap.size < X.heap.size by omega)).trans hX0)]; rfl)
  have HFIN : Hid (∀ (Wn W2 W3 : World), Below X.drew.heap.size X.drew Wn → Wn.heap.size = X.drew.heap.size + 2 → Step (fun k => k ∈ feet t Ls ∨ k ∈ (Lay.file (X.drew.heap.size + 1) X.drew.heap.size []).foot) Wn t W2 (enterS σ (ofS s) newF).2 → Below W2.heap.size W2 W3 →
      W3.heap[w.heap.size + 1]? = some (.cells #[.int .i64 0, .slice none 0 0, .int .i64 0, .int .i64 0, .int .i64 0, .slice none 0 0, .int .i64 0] 32 (0, 0)) ∧ ∀ v0 v1 v2 v3 v4 v5 v6, Step (fun k => k ∈ feet t Ls) w t (((((((W3.setCell ⟨w.heap.size + 1, 0, none⟩ v0).setCell ⟨w.heap.size + 1, 1, none⟩ v1).setCell ⟨w.heap.size + 1, 2, none⟩ v2).setCell ⟨w.heap.size + 1, 3, none⟩ v3).setCell ⟨w.heap.size + 1, 4, none⟩ v4).setCell ⟨w.heap.size + 1, 5, none⟩ v5).setCell ⟨w.heap.size + 1, 6, none⟩ v6) (enterS σ (ofS s) newF).2) := Hid.mk (fun Wn W2 W3 hB1 hs1 hst hB3 => by
    have hXBd : Below w.heap.size w X.drew := HXB.out.drew
    have hXsd : X.drew.heap.size = w.heap.size + 2 := HXS.out
    have hwn : Below w.heap.size w Wn := hXBd.trans (hB1.mono (by omega))
    have hnot : ¬ (w.heap.size + 1 ∈ feet t Ls ∨ w.heap.size + 1 ∈ (Lay.file (X.drew.heap.size + 1) X.drew.heap.size []).foot) := by
      rintro (h | h)
      · have := HTL.out _ h; omega
      · simp [Lay.foot] at h; omega
    have e1 : Wn.heap[w.heap.size + 1]? = some (.cells #[.int .i64 0, .slice none 0 0, .int .i64 0, .int .i64 0, .int .i64 0, .slice none 0 0, .int .i64 0] 32 (0, 0)) := (hB1.block _ (by omega)).trans HX1.out
    have e2 := (hst.only.block _ (by omega) hnot).trans e1
    have e3 := (hB3.block _ (lt_of_block e2)).trans e2
    refine ⟨e3, fun v0 v1 v2 v3 v4 v5 v6 => ?_⟩
    refine hst.out hwn (fun k hk => ?_) ((Only.of_new (fun k => k = w.heap.size + 1) hB3).trans (box7 e3 v0 v1 v2 v3 v4 v5 v6).2 (fun i hi => .inl hi) |>.mono (fun i _ hi => ?_))
    · rcases hk with h | h
      · exact .inl h
      · simp [Lay.foot] at h; exact .inr (by omega)
    · subst hi
      exact ⟨by omega, by omega, hnot⟩)
  clear hXB hXs hX0 hX1
  go_region_with (first
    | (go_at_call 39; refine (HN.out _).mono ?_; rintro e' Wn ⟨rfl, hn, hbn, hsn⟩; have XN := Hid.mk hbn; have XS := Hid.mk hsn; have EE := Hid.mk (HE.out X.drew Wn HXB.out.drew HXB.out.size hsn hn hbn); have cn := HBX.out Wn hbn; unfold ptrV Lay.b at *; clear hn hbn hsn)
    | (go_at_call 38; refine EE.out.mono ?_; rintro e' W2 ⟨rfl, hst⟩; have ST := Hid.mk hst; clear hst)
    | (go_at_call 23; refine (failed_any _ _).mono ?_; rintro e' W3 ⟨rfl, hb3⟩; obtain ⟨hbx, hfin⟩ := HFIN.out Wn W2 W3 XN.out XS.out ST.out hb3; have z0 := blk_cell hbx 0; have z1 := blk_cell hbx 1; have z2 := blk_cell hbx 2; have z3 := blk_cell hbx 3; have z4 := blk_cell hbx 4; have z5 := blk_cell hbx 5; have z6 := blk_cell hbx 6; have y0 := blk_free hbx 0; have y1 := blk_free hbx 1; have y2 := blk_free hbx 2; have y3 := blk_free hbx 3; have y4 := blk_free hbx 4; have y5 := blk_free hbx 5; have y6 := blk_free hbx 6; simp at z0 z1 z2 z3 z4 z5 z6; have FF := Hid.mk hfin; have BXX := Hid.mk hbx; unfold errV; clear hbx hfin hb3))
  all_goals
    have st := FF.out (.int .i64 (enterS σ (ofS s) newF).1) (.slice none 0 0) (.int .i64 0) (.int .i64 0) (.int .i64 0) (.slice none 0 0) (.int .i64 0)
    have hb7 := (box7 BXX.out (.int .i64 (enterS σ (ofS s) newF).1) (.slice none 0 0) (.int .i64 0) (.int .i64 0) (.int .i64 0) (.slice none 0 0) (.int .i64 0)).1
    obtain ⟨Y, hY⟩ : ∃ Y, Y = (((((((W3.setCell ⟨w.heap.size + 1, 0, none⟩ (.int .i64 (enterS σ (ofS s) newF).1)).setCell ⟨w.heap.size + 1, 1, none⟩ (.slice none 0 0)).setCell ⟨w.heap.size + 1, 2, none⟩ (.int .i64 0)).setCell ⟨w.heap.size + 1, 3, none⟩ (.int .i64 0)).setCell ⟨w.heap.size + 1, 4, none⟩ (.int .i64 0)).setCell ⟨w.heap.size + 1, 5, none⟩ (.slice none 0 0)).setCell ⟨w.heap.size + 1, 6, none⟩ (.int .i64 0)) := ⟨_, rfl⟩
    rw [← hY] at st hb7 ⊢
    have k0 := blk_cell hb7 0
    have k1 := blk_cell hb7 1
    have k2 := blk_cell hb7 2
    have k3 := blk_cell hb7 3
    have k4 := blk_cell hb7 4
    have k5 := blk_cell hb7 5
    have k6 := blk_cell hb7 6
    simp at k0 k1 k2 k3 k4 k5 k6
    have STT := Hid.mk st
    clear hY st hb7 z0 z1 z2 z3 z4 z5 z6 y0 y1 y2 y3 y4 y5 y6 FF BXX ST EE XN XS HFIN
    go_wp2
    refine bodyPost_ret (v := errV (enterS σ (ofS s) newF).1) ?_ rfl ⟨rfl, STT.out⟩
    simp [results, Tryz.results25, go_sem, errV, k0, k1, k2, k3, k4, k5, k6]
set_option maxRecDepth 100000 in
set_option maxHeartbeats 4000000 in
theorem mkdir_any (w : World) (t : Nat) (σ : Tr) (Ls : List Lay) (hT : TrAt w t σ Ls) (hOk : ∀ x ∈ σ.nodes, x.Ok) (k : Int) (s s2 : ByteArray) (off m : Int) (dp : Option Addr) (dl dc : Nat) (hs : s.size ≤ 16777216) :
    Calls Tryz.prog 26 #[ptrV t, callV k s s2 off m (.slice dp dl dc)] w fun e w' => e = .returned (errV (enterS σ (ofS s) newD).1) ∧ Step (fun k => k ∈ feet t Ls) w t w' (enterS σ (ofS s) newD).2 := by
  have mixed : Tryz.prog.follows Departure.mixedOrders = true := by kernel_rfl
  have HN := Hid.mk (fun W => newdir_any W (locL Ls))
  have HE : Hid (∀ W1 W, Below w.heap.size w W1 → w.heap.size ≤ W1.heap.size → W.heap.size = W1.heap.size + 3 → NdAt W (locL Ls) (.dir (W1.heap.size + 2) (W1.heap.size + 1) W1.heap.size 30) newD → Below W1.heap.size W1 W → _) := Hid.mk (fun W1 W (hB : Below w.heap.size w W1) (hsz : w.heap.size ≤ W1.heap.size) (_ : W.heap.size = W1.heap.size + 3) (hn : NdAt W (locL Ls) (.dir (W1.heap.size + 2) (W1.heap.size + 1) W1.heap.size 30) newD) (hB1 : Below W1.heap.size W1 W) => enter_any W t σ Ls ((hT.below rfl hB).below rfl hB1) hOk s hs (.dir (W1.heap.size + 2) (W1.heap.size + 1) W1.heap.size 30) newD hn dir_ok (fun q hq => by have := List.eq_of_mem_replicate hq; cases this) (fun k hk hf => by have := hT.lt k hf; simp [Lay.foot] at hk; omega) (by simp [Lay.foot]))
  have HTL : Hid (∀ k ∈ feet t Ls, k < w.heap.size) := Hid.mk (fun k hk => hT.lt k hk)
  clear hT hOk hs
  unfold callV ptrV at *
  go_enter Tryz.func26, Tryz.ntmps26
  go_wp2_with fail
  obtain ⟨X, hX⟩ : ∃ X, X = (w.alloc (.cells #[.int .i64 k, .string s, .string s2, .int .i64 off, .int .i64 m, .slice dp dl dc] 35)).alloc (.cells #[.int .i64 0, .slice none 0 0, .int .i64 0, .int .i64 0, .int .i64 0, .slice none 0 0, .int .i64 0] 32) := ⟨_, rfl⟩
  have hXB : Below w.heap.size w X := by rw [hX]; exact ((Below.refl _ w).alloc (Nat.le_refl _) _).alloc (by simp) _
  have hXs : X.heap.size = w.heap.size + 2 := by rw [hX]; simp
  have hX0 : X.heap[w.heap.size]? = some (.cells #[.int .i64 k, .string s, .string s2, .int .i64 off, .int .i64 m, .slice dp dl dc] 35 (0, 0)) := by rw [hX, Below.heap_alloc _ _ _ (by simp)]; exact blk_new w _
  have hX1 : X.heap[w.heap.size + 1]? = some (.cells #[.int .i64 0, .slice none 0 0, .int .i64 0, .int .i64 0, .int .i64 0, .slice none 0 0, .int .i64 0] 32 (0, 0)) := by
    rw [hX]
    have := blk_new (w.alloc (.cells #[.int .i64 k, .string s, .string s2, .int .i64 off, .int .i64 m, .slice dp dl dc] 35)) (.cells #[.int .i64 0, .slice none 0 0, .int .i64 0, .int .i64 0, .int .i64 0, .slice none 0 0, .int .i64 0] 32)
    rwa [World.size_alloc] at this
  rw [← hX]
  clear hX
  have c1 := blk_cell hX0 1
  simp at c1
  have HXB := Hid.mk hXB
  have HXS := Hid.mk hXs
  have HX0 := Hid.mk hX0
  have HX1 := Hid.mk hX1
  have HBX : Hid (∀ W, Below X.drew.heap.size X.drew W → W.cell? ⟨w.heap.size, 1, none⟩ = some (.string s)) := Hid.mk (fun W hB => by
    rw [blk_cell ((hB.block w.heap.size (show w.heap.size < X.heap.size by omega)).trans hX0)]; rfl)
  have HFIN : Hid (∀ (Wn W2 W3 : World), Below X.drew.heap.size X.drew Wn → Wn.heap.size = X.drew.heap.size + 3 → Step (fun k => k ∈ feet t Ls ∨ k ∈ (Lay.dir (X.drew.heap.size + 2) (X.drew.heap.size + 1) X.drew.heap.size 30).foot) Wn t W2 (enterS σ (ofS s) newD).2 → Below W2.heap.size W2 W3 →
      W3.heap[w.heap.size + 1]? = some (.cells #[.int .i64 0, .slice none 0 0, .int .i64 0, .int .i64 0, .int .i64 0, .slice none 0 0, .int .i64 0] 32 (0, 0)) ∧ ∀ v0 v1 v2 v3 v4 v5 v6, Step (fun k => k ∈ feet t Ls) w t (((((((W3.setCell ⟨w.heap.size + 1, 0, none⟩ v0).setCell ⟨w.heap.size + 1, 1, none⟩ v1).setCell ⟨w.heap.size + 1, 2, none⟩ v2).setCell ⟨w.heap.size + 1, 3, none⟩ v3).setCell ⟨w.heap.size + 1, 4, none⟩ v4).setCell ⟨w.heap.size + 1, 5, none⟩ v5).setCell ⟨w.heap.size + 1, 6, none⟩ v6) (enterS σ (ofS s) newD).2) := Hid.mk (fun Wn W2 W3 hB1 hs1 hst hB3 => by
    have hXBd : Below w.heap.size w X.drew := HXB.out.drew
    have hXsd : X.drew.heap.size = w.heap.size + 2 := HXS.out
    have hwn : Below w.heap.size w Wn := hXBd.trans (hB1.mono (by omega))
    have hnot : ¬ (w.heap.size + 1 ∈ feet t Ls ∨ w.heap.size + 1 ∈ (Lay.dir (X.drew.heap.size + 2) (X.drew.heap.size + 1) X.drew.heap.size 30).foot) := by
      rintro (h | h)
      · have := HTL.out _ h; omega
      · simp [Lay.foot] at h; omega
    have e1 : Wn.heap[w.heap.size + 1]? = some (.cells #[.int .i64 0, .slice none 0 0, .int .i64 0, .int .i64 0, .int .i64 0, .slice none 0 0, .int .i64 0] 32 (0, 0)) := (hB1.block _ (by omega)).trans HX1.out
    have e2 := (hst.only.block _ (by omega) hnot).trans e1
    have e3 := (hB3.block _ (lt_of_block e2)).trans e2
    refine ⟨e3, fun v0 v1 v2 v3 v4 v5 v6 => ?_⟩
    refine hst.out hwn (fun k hk => ?_) ((Only.of_new (fun k => k = w.heap.size + 1) hB3).trans (box7 e3 v0 v1 v2 v3 v4 v5 v6).2 (fun i hi => .inl hi) |>.mono (fun i _ hi => ?_))
    · rcases hk with h | h
      · exact .inl h
      · simp [Lay.foot] at h; exact .inr (by omega)
    · subst hi
      exact ⟨by omega, by omega, hnot⟩)
  clear hXB hXs hX0 hX1
  go_region_with (first
    | (go_at_call 21; refine (HN.out _).mono ?_; rintro e' Wn ⟨rfl, hn, hbn, hsn⟩; have XN := Hid.mk hbn; have XS := Hid.mk hsn; have EE := Hid.mk (HE.out X.drew Wn HXB.out.drew HXB.out.size hsn hn hbn); have cn := HBX.out Wn hbn; unfold ptrV Lay.b at *; clear hn hbn hsn)
    | (go_at_call 38; refine EE.out.mono ?_; rintro e' W2 ⟨rfl, hst⟩; have ST := Hid.mk hst; clear hst)
    | (go_at_call 23; refine (failed_any _ _).mono ?_; rintro e' W3 ⟨rfl, hb3⟩; obtain ⟨hbx, hfin⟩ := HFIN.out Wn W2 W3 XN.out XS.out ST.out hb3; have z0 := blk_cell hbx 0; have z1 := blk_cell hbx 1; have z2 := blk_cell hbx 2; have z3 := blk_cell hbx 3; have z4 := blk_cell hbx 4; have z5 := blk_cell hbx 5; have z6 := blk_cell hbx 6; have y0 := blk_free hbx 0; have y1 := blk_free hbx 1; have y2 := blk_free hbx 2; have y3 := blk_free hbx 3; have y4 := blk_free hbx 4; have y5 := blk_free hbx 5; have y6 := blk_free hbx 6; simp at z0 z1 z2 z3 z4 z5 z6; have FF := Hid.mk hfin; have BXX := Hid.mk hbx; unfold errV; clear hbx hfin hb3))
  all_goals
    have st := FF.out (.int .i64 (enterS σ (ofS s) newD).1) (.slice none 0 0) (.int .i64 0) (.int .i64 0) (.int .i64 0) (.slice none 0 0) (.int .i64 0)
    have hb7 := (box7 BXX.out (.int .i64 (enterS σ (ofS s) newD).1) (.slice none 0 0) (.int .i64 0) (.int .i64 0) (.int .i64 0) (.slice none 0 0) (.int .i64 0)).1
    obtain ⟨Y, hY⟩ : ∃ Y, Y = (((((((W3.setCell ⟨w.heap.size + 1, 0, none⟩ (.int .i64 (enterS σ (ofS s) newD).1)).setCell ⟨w.heap.size + 1, 1, none⟩ (.slice none 0 0)).setCell ⟨w.heap.size + 1, 2, none⟩ (.int .i64 0)).setCell ⟨w.heap.size + 1, 3, none⟩ (.int .i64 0)).setCell ⟨w.heap.size + 1, 4, none⟩ (.int .i64 0)).setCell ⟨w.heap.size + 1, 5, none⟩ (.slice none 0 0)).setCell ⟨w.heap.size + 1, 6, none⟩ (.int .i64 0)) := ⟨_, rfl⟩
    rw [← hY] at st hb7 ⊢
    have k0 := blk_cell hb7 0
    have k1 := blk_cell hb7 1
    have k2 := blk_cell hb7 2
    have k3 := blk_cell hb7 3
    have k4 := blk_cell hb7 4
    have k5 := blk_cell hb7 5
    have k6 := blk_cell hb7 6
    simp at k0 k1 k2 k3 k4 k5 k6
    have STT := Hid.mk st
    clear hY st hb7 z0 z1 z2 z3 z4 z5 z6 y0 y1 y2 y3 y4 y5 y6 FF BXX ST EE XN XS HFIN
    go_wp2
    refine bodyPost_ret (v := errV (enterS σ (ofS s) newD).1) ?_ rfl ⟨rfl, STT.out⟩
    simp [results, Tryz.results26, go_sem, errV, k0, k1, k2, k3, k4, k5, k6]
end Go.Proofs.YtehaoeclnmelhabGreat
