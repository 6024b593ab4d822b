/-
  A free entry does not stay.
-/
import Derived.Test.YtejnmpnioeamhaaGreatWhTake
namespace Go.Proofs.YtejnmpnioeamhaaGreat
open Go Go.Proofs Go.RowKit Go.Shelf
namespace Mk
open Sup (superL headL maskL nI nD bD)
open Din (inoL fineL inoV NAt)
open Ent (blockL okB EAt Ey entV noS noE)
theorem add1 (a : Addr) (i : Nat) : (a.add i).add 1 = ⟨(a.add i).block, (a.add i).off + 1, none⟩ := by simp [Addr.add]
/-- An entry's two cells. -/
theorem ent_cells {W : World} {a : Addr} {n : Nat} {L : List (Int × ByteArray)} (h : EAt W (some a) n L) (j : Nat) (hj : j < n) : W.cell? (a.add (j * 2)) = some (.int .i64 (L.getD j noE).1) ∧ W.cell? ⟨(a.add (j * 2)).block, (a.add (j * 2)).off + 1, none⟩ = some (.string (L.getD j noE).2) := by
  obtain ⟨a', e, -, hc⟩ := h.2 (by omega)
  cases e
  obtain ⟨h1, h2⟩ := hc j hj
  refine ⟨h1, ?_⟩
  rw [← add1, Ent.add_add]
  exact h2
theorem free_take (m j : Nat) (hj : j < m) : (freeL.take m).getD j noE = freeL.getD j noE := by
  simp only [List.getD, List.getElem?_take, if_pos hj]
theorem free_name (j : Nat) (hj : j < 2) : (freeL.getD j noE).1 = 1 ∧ ((freeL.getD j noE).2.toList == noS.toList) = false := by
  obtain rfl | rfl : j = 0 ∨ j = 1 := by omega
  · exact ⟨rfl, by decide +kernel⟩
  · exact ⟨rfl, by decide +kernel⟩
set_option maxRecDepth 100000 in
set_option maxHeartbeats 4000000 in
theorem named_free (w : World) (t gd cd : Nat) (I : Int) (lead : Value) (up : Int) (ae : Addr) (m c : Nat) (hm : m ≤ 32) (h : TkAt t (rootL I) (.slice (some ⟨gd, 0, none⟩) 1 cd) up lead w) (hd : w.cell? ⟨gd, 0, none⟩ = some (.slice (some ae) m c)) (he : EAt w (some ae) m (freeL.take m)) :
    Calls Tryz.prog 98 #[.pointer (some ⟨t, 0, none⟩), .string noS] w fun e w' => e = .returned (.bool false) ∧ w' = w := by
  have c4 := (tak_root h).2.2.2.2.1
  have HE := Hid.mk he
  clear h he
  go_enter Tryz.func98, Tryz.ntmps98
  go_wp2
  go_loop [5] (fun i => i = .int .i64 0 ∨ i = .int .i64 1) (fun i => 1 - (intOf i).toNat)
  case atStart => exact .inl rfl
  case round =>
    rcases hrel with rfl | rfl
    · go_wp2
      go_loop [6] (fun i => ∃ j : Nat, j ≤ m ∧ i = .int .i64 j) (fun i => m - (intOf i).toNat)
      case atStart => exact ⟨0, by omega, rfl⟩
      case round =>
        obtain ⟨j, hj, rfl⟩ := hrel
        by_cases hlt : j < m
        · obtain ⟨e0, e1⟩ := ent_cells HE.out j hlt
          rw [free_take m j hlt] at e0 e1
          by_cases h2 : j < 2
          · obtain ⟨f0, f1⟩ := free_name j h2
            rw [f0] at e0
            generalize (freeL.getD j noE).2 = sj at *
            clear f0
            go_wp2
            go_round
            case rel => exact ⟨j + 1, by omega, by go_num⟩
            case measure => simp [intOf]; omega
          · rw [free_at j (by omega)] at e0
            go_wp2
            go_round
            case rel => exact ⟨j + 1, by omega, by go_num⟩
            case measure => simp [intOf]; omega
        · obtain rfl : j = m := by omega
          go_wp2
          go_round
          case rel => exact .inr (by go_num)
          case measure => simp [intOf]
    · go_wp2
      go_ret
      exact ⟨rfl, rfl⟩
/-- The entries so far, behind a repair with the root taken in. -/
structure DrAt (p : Rp) (n nb nt : Nat) (G I D : Int) (xs : List Int) (t gl c go co gd cd : Nat) (v : Value) (W : World) : Prop where
  tn : TnAt p n nb nt G I D xs t gl c go co (.slice (some ⟨gd, 0, none⟩) 1 cd) W
  blk : ∃ cur, W.heap[gd]? = some (.cells cur 39 (0, 0)) ∧ cur[0]? = some v
  ng : p.d ≠ gd ∧ p.g ≠ gd ∧ p.r ≠ gd ∧ p.cb ≠ gd ∧ p.tb ≠ gd ∧ t ≠ gd ∧ gl ≠ gd ∧ go ≠ gd
theorem DrAt.dir {p : Rp} {n nb nt : Nat} {G I D : Int} {xs : List Int} {t gl c go co gd cd : Nat} {v : Value} {W : World} (h : DrAt p n nb nt G I D xs t gl c go co gd cd v W) : W.cell? ⟨gd, 0, none⟩ = some v ∧ W.frozen? ⟨gd, 0, none⟩ = false ∧ gd < W.heap.size := by
  obtain ⟨cur, h1, h2⟩ := h.blk
  exact ⟨by rw [blk_cell h1]; exact h2, blk_free h1 0, lt_of_block h1⟩
theorem DrAt.new {p : Rp} {n nb nt : Nat} {G I D : Int} {xs : List Int} {t gl c go co gd cd : Nat} {v : Value} {W W' : World} (h : DrAt p n nb nt G I D xs t gl c go co gd cd v W) (hB : Below W.heap.size W W') : DrAt p n nb nt G I D xs t gl c go co gd cd v W' := by
  obtain ⟨cur, h1, h2⟩ := h.blk
  exact ⟨h.tn.new hB, ⟨cur, (hB.block _ (lt_of_block h1)).trans h1, h2⟩, h.ng⟩
theorem DrAt.drew {p : Rp} {n nb nt : Nat} {G I D : Int} {xs : List Int} {t gl c go co gd cd : Nat} {v : Value} {W : World} (h : DrAt p n nb nt G I D xs t gl c go co gd cd v W) : DrAt p n nb nt G I D xs t gl c go co gd cd v W.drew := ⟨h.tn.drew, h.blk, h.ng⟩
theorem TnAt.only {p : Rp} {n nb nt : Nat} {G I D : Int} {xs : List Int} {t gl c go co : Nat} {dir : Value} {S : Nat → Prop} {W W' : World} (h : TnAt p n nb nt G I D xs t gl c go co dir W) (ho : Only S W W') (hs : ¬ S p.d ∧ ¬ S p.g ∧ ¬ S p.r ∧ ¬ S p.cb ∧ ¬ S p.tb ∧ ¬ S t ∧ ¬ S gl ∧ ¬ S go) : TnAt p n nb nt G I D xs t gl c go co dir W' :=
  ⟨h.rp.only ho hs.1 hs.2.1 hs.2.2.1 hs.2.2.2.1 hs.2.2.2.2.1, h.tk.only ho hs.2.2.2.2.2.1, h.lead.only ho (fun a e _ => by cases e; exact hs.2.2.2.2.2.2.1), h.ord.only ho (fun a e _ => by cases e; exact hs.2.2.2.2.2.2.2), h.ne, h.nl, h.no⟩
theorem DrAt.put {p : Rp} {n nb nt : Nat} {G I D : Int} {xs : List Int} {t gl c go co gd cd : Nat} {v : Value} {W : World} (h : DrAt p n nb nt G I D xs t gl c go co gd cd v W) (v' : Value) : DrAt p n nb nt G I D xs t gl c go co gd cd v' (W.setCell ⟨gd, 0, none⟩ v') := by
  obtain ⟨cur, h1, h2⟩ := h.blk
  have h0 : 0 < cur.size := (Array.getElem?_eq_some_iff.1 h2).1
  refine ⟨h.tn.only (set_only W gd 0 v') h.ng, ⟨cur.setIfInBounds 0 v', blk_set h1, ?_⟩, h.ng⟩
  simp [h0]
theorem tn_cells {p : Rp} {n nb nt : Nat} {G I D : Int} {xs : List Int} {t gl c go co : Nat} {dir : Value} {W : World} (h : TnAt p n nb nt G I D xs t gl c go co dir W) (hnt : 2 ≤ nt) :
    W.cell? ⟨p.r, 0, none⟩ = some (.pointer (some ⟨p.d, 0, none⟩)) ∧ W.cell? ⟨p.r, 2, none⟩ = some (.slice (some ⟨p.tb, 0, none⟩) nt nt) ∧ W.cell? ⟨p.r, 3, none⟩ = some (.slice (some ⟨go, 0, none⟩) 1 co) ∧ W.cell? ⟨p.r, 4, none⟩ = some (.bool false) ∧ W.cell? ⟨p.tb, 1, none⟩ = some (.pointer (some ⟨t, 0, none⟩)) ∧ W.cell? ⟨t, 13, none⟩ = some dir ∧ W.cell? ⟨t, 14, none⟩ = some (.int .i64 1) ∧ W.cell? ⟨t, 15, none⟩ = some (.slice (some ⟨gl, 0, none⟩) 1 c) ∧ W.cell? ⟨gl, 0, none⟩ = some (.int .i64 (2 + I)) ∧ W.cell? ⟨go, 0, none⟩ = some (.int .i64 1) := by
  obtain ⟨r0, r1, r2, r3, r4⟩ := h.rp.cells
  obtain ⟨c0, c1, c2, c3, c4, c5, c6, c7, cf, ck⟩ := tak_root h.tk
  refine ⟨r0, r2, r3, r4, ?_, c4, c5, c6, ?_, ?_⟩
  · rw [blk_cell h.rp.tab, List.getElem?_toArray, List.getElem?_set_self (by rw [nils_length]; omega)]
  · obtain ⟨a, e, -, hc⟩ := h.lead.2 (by omega)
    cases e
    exact hc 0 (by omega)
  · obtain ⟨a, e, -, hc⟩ := h.ord.2 (by omega)
    cases e
    exact hc 0 (by omega)
set_option maxRecDepth 100000 in
set_option maxHeartbeats 4000000 in
theorem stays_free (w : World) (p : Rp) (n nb nt : Nat) (G I D : Int) (hnt : 2 ≤ nt ∧ nt ≤ 1000) (xs : List Int) (t gl c go co gd cd : Nat) (ae : Addr) (m cm : Nat) (hm : m ≤ 32) (h : DrAt p n nb nt G I D xs t gl c go co gd cd (.slice (some ae) m cm) w) (he : EAt w (some ae) m (freeL.take m)) :
    Calls Tryz.prog 83 #[.pointer (some ⟨p.r, 0, none⟩), .int .i64 1, entV 0 noS] w fun e w' => e = .returned (.bool false) ∧ Below w.heap.size w w' := by
  obtain ⟨hnt2, hnt3⟩ := hnt
  have hB0 : Below w.heap.size w (w.alloc (.cells (Ent.entC 0 noS).toArray 84)) := (Below.refl _ w).alloc (Nat.le_refl _) _
  have h1 := h.new hB0
  have he1 := he.below hB0
  obtain ⟨r0, r2, r3, r4, s1, c4, c5, c6, l0, o0⟩ := tn_cells h1.tn hnt2
  have HN := Hid.mk (named_free _ t gd cd I _ _ ae m cm hm h1.tn.tk h1.dir.1 he1)
  have e0 : (w.alloc (.cells (Ent.entC 0 noS).toArray 84)).cell? ⟨w.heap.size, 0, none⟩ = some (.int .i64 0) := blk_cell (blk_new w _) 0
  have e1 : (w.alloc (.cells (Ent.entC 0 noS).toArray 84)).cell? ⟨w.heap.size, 1, none⟩ = some (.string noS) := blk_cell (blk_new w _) 1
  have HB0 := Hid.mk hB0
  obtain ⟨B, hB⟩ : ∃ B, B = w.heap.size := ⟨_, rfl⟩
  obtain ⟨W1, hW1⟩ : ∃ W1, W1 = w.alloc (.cells (Ent.entC 0 noS).toArray 84) := ⟨_, rfl⟩
  rw [← hW1, ← hB] at e0 e1
  rw [← hW1] at HN HB0 r0 r2 r3 r4 s1 c4 c5 c6 l0 o0
  have HB := Hid.mk hB
  have HW := Hid.mk hW1
  clear h he h1 he1 hB0 hB hW1
  go_enter Tryz.func83, Tryz.ntmps83
  go_wp2_with (first
    | (refine Ent.wpL_box (.tmp 2) rfl rfl 0 noS B W1 HB.out HW.out rfl ?_)
    | (go_at_call 98; refine HN.out.mono ?_; rintro e w2 ⟨rfl, hw⟩; subst w2))
  go_ret
  exact ⟨rfl, HB0.out⟩
end Mk
end Go.Proofs.YtejnmpnioeamhaaGreat
