/-
  The disk of the rules' reference: usable, its blocks, inodes, pointers.
-/
import Derived.Test.YtejnmpnioeamhaaGreatLayDin
import Derived.Test.YtejnmpnioeamhaaGreatWhNum
namespace Go.Proofs.YtejnmpnioeamhaaGreat
open Go Go.Proofs Go.RowKit Go.Shelf
namespace Mk
open Sup (superL headL maskL nI nD)
open Din (inoL fineL inoV NAt)
open Ent (blockL okB)
/-- A disk lies at block d: its image, with these bytes, at block g, and its geometry. -/
structure DkAt (d g n : Nat) (G I D : Int) (xs : List Int) (W : World) : Prop where
  dk : W.heap[d]? = some (.cells #[.slice (some ⟨g, 0, none⟩) n n, .int .i64 G, .int .i64 I, .int .i64 D] 50 (0, 0))
  row : RAt W g xs
theorem DkAt.lt {d g n : Nat} {G I D : Int} {xs : List Int} {W : World} (h : DkAt d g n G I D xs W) : d < W.heap.size := lt_of_block h.dk
theorem DkAt.below {d g n B : Nat} {G I D : Int} {xs : List Int} {W W' : World} (h : DkAt d g n G I D xs W) (hB : Below B W W') (hd : d < B) (hg : g < B) : DkAt d g n G I D xs W' :=
  ⟨(hB.block d hd).trans h.dk, h.row.below hB hg⟩
theorem DkAt.new {d g n : Nat} {G I D : Int} {xs : List Int} {W W' : World} (h : DkAt d g n G I D xs W) (hB : Below W.heap.size W W') : DkAt d g n G I D xs W' := h.below hB h.lt h.row.lt
theorem DkAt.d4 {d g n : Nat} {G I D : Int} {xs : List Int} {W : World} (h : DkAt d g n G I D xs W) : W.cell? ⟨d, 0, none⟩ = some (.slice (some ⟨g, 0, none⟩) n n) ∧ W.cell? ⟨d, 1, none⟩ = some (.int .i64 G) ∧ W.cell? ⟨d, 2, none⟩ = some (.int .i64 I) ∧ W.cell? ⟨d, 3, none⟩ = some (.int .i64 D) :=
  ⟨blk_cell h.dk 0, blk_cell h.dk 1, blk_cell h.dk 2, blk_cell h.dk 3⟩
set_option maxRecDepth 100000 in
theorem ddata_any (w : World) (d g n : Nat) (G I D : Int) (xs : List Int) (h : DkAt d g n G I D xs w) (p : Int) : Calls Tryz.prog 43 #[.pointer (some ⟨d, 0, none⟩), .int .i64 p] w fun e w' => e = .returned (.bool (doB G I D p)) ∧ Below w.heap.size w w' := by
  obtain ⟨k0, k1, k2, k3⟩ := h.d4
  clear h
  go_enter Tryz.func43, Tryz.ntmps43
  go_wp2_with (go_at_call 46; refine (rdataof_any _ G I D p).mono ?_; rintro e w1 ⟨rfl, hB⟩; have HB := Hid.mk hB; clear hB)
  go_ret
  exact ⟨rfl, HB.out⟩
set_option maxRecDepth 100000 in
theorem dblock_any (w : World) (d g n : Nat) (G I D : Int) (xs : List Int) (h : DkAt d g n G I D xs w) (b : Nat) (hb : (b + 1) * 1024 ≤ n) (hn : n ≤ 16777216) : Calls Tryz.prog 49 #[.pointer (some ⟨d, 0, none⟩), .int .i64 b] w fun e w' => e = .returned (.slice (some ⟨g, b * 1024, none⟩) 1024 (n - b * 1024)) ∧ w' = w := by
  obtain ⟨k0, k1, k2, k3⟩ := h.d4
  clear h
  go_enter Tryz.func49, Tryz.ntmps49
  go_wp2
  rw [show b * 1024 + 1024 - b * 1024 = 1024 by omega]
  go_ret
  exact ⟨rfl, rfl⟩
set_option maxRecDepth 100000 in
set_option maxHeartbeats 1000000 in
theorem dinode_one (w : World) (d g n : Nat) (G I D : Int) (hg : good G I D = true) (xs : List Int) (h : DkAt d g n G I D xs w) (hx : ImgIs G I D xs) (hn : n = totN G I D * 1024) :
    Calls Tryz.prog 19 #[.pointer (some ⟨d, 0, none⟩), .int .i64 1] w fun e w' => e = .returned (.tuple #[inoV (rootL I), .bool true]) ∧ Below w.heap.size w w' := by
  obtain ⟨-, t2, t3, t4⟩ := tot_is hg
  rw [← hn] at t3
  have hn2 : 11264 ≤ n := by omega
  have hb := good_iff.1 hg
  obtain ⟨X, b, hrX, hX, hXB, hXb⟩ := Din.alloc24_any w
  obtain ⟨k0, k1, k2, k3⟩ := (h.new hXB).d4
  have HI : Hid (∀ W : World, Calls Tryz.prog 39 #[geo G I D, .int .i64 1] W fun e w' => e = .returned (.tuple #[.int .i64 2, .int .i64 0, .bool true]) ∧ Below W.heap.size W w') := Hid.mk (fun W => by
    have h := rinodeat_any W G I D 1
    rwa [(ia_one hg).1, (ia_one hg).2.1, (ia_one hg).2.2] at h)
  have hrd := Din.ino_reads (l := rootL I) rfl (fine_root I (by omega) (by omega))
  have HR : Hid (∀ W : World, DkAt d g n G I D xs W → Calls Tryz.prog 40 #[.slice (some ⟨g, 2048, none⟩) 64 (n - 2048)] W fun e w' => e = .returned (.tuple #[inoV (rootL I), .bool true]) ∧ Below W.heap.size W w') := Hid.mk (fun W hd => by
    have hba := hd.row.bat 2048 64 (by rw [hx.len, ← hn]; omega)
    have hr := hx.root
    unfold piece at hr
    rw [hr] at hba
    have h := Din.rread_any W (some ⟨g, 2048, none⟩) 64 (n - 2048) _ hba (Din.inoL_bound _)
    rwa [hrd.1, hrd.2.1] at h)
  have HD := Hid.mk (h.new hXB)
  have HRX := Hid.mk hrX
  have HX := Hid.mk hX
  have HXB := Hid.mk hXB
  have HXb := Hid.mk hXb
  clear h hx hg hb hrX hX hXB hXb hn t2 t4 hrd
  go_enter Tryz.func19, Tryz.ntmps19
  go_wp2_with (first
    | (refine Din.wpL_alloc rfl rfl _ X HRX.out ?_)
    | (go_at_call 39; refine (HI.out _).mono ?_; rintro e w1 ⟨rfl, hB⟩; have HD1 := Hid.mk (HD.out.new hB); obtain ⟨m0, m1, m2, m3⟩ := HD1.out.d4; have HB1 := Hid.mk hB; clear hB)
    | (go_at_call 40; refine (HR.out _ HD1.out).mono ?_; rintro e w2 ⟨rfl, hB⟩; obtain ⟨Y, hrY, hY, hYo⟩ := Din.store24_run (m := rootL I) ((HX.out.below HB1.out HX.out.lt).below hB (Nat.lt_of_lt_of_le HX.out.lt HB1.out.size)) (zeros_length 13) rfl; have HRY := Hid.mk hrY; have HY := Hid.mk hY; have HYo := Hid.mk hYo; have HB2 := Hid.mk hB; clear hB hrY hY hYo)
    | (refine Din.wpL_store (.tmp 4) (.tmp 37) rfl rfl _ _ Y rfl rfl HRY.out ?_))
  refine bodyPost_ret (Din.results_cell2 (a := 4) (c := 5) (b := b) (l := rootL I) rfl rfl HY.out rfl) rfl ⟨rfl, ?_⟩
  have h1 := HXB.out.trans (HB1.out.mono HXB.out.size)
  have h2 := h1.trans (HB2.out.mono h1.size)
  exact h2.trans (HYo.out.below h2.size (fun k e => by subst e; exact HXb.out))
end Mk
end Go.Proofs.YtejnmpnioeamhaaGreat
