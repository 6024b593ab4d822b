/-
  The pointers of the root of an empty file system.
-/
import Derived.Test.YtejnmpnioeamhaaGreatWhSeen
namespace Go.Proofs.YtejnmpnioeamhaaGreat
open Go Go.Proofs Go.RowKit Go.Shelf
namespace Mk
open Sup (superL headL maskL nI nD)
open Din (inoL fineL inoV NAt)
open Ent (blockL okB EAt Ey entV noS noE)
set_option maxRecDepth 100000 in
theorem some_zero (w : World) (ao : Option Addr) (n c : Nat) : Calls Tryz.prog 41 #[.slice ao n c, .int .i64 0] w fun e w' => e = .returned (.slice ao n c) ∧ w' = w := by
  go_enter Tryz.func41, Tryz.ntmps41
  go_wp2
  go_ret
  exact ⟨rfl, rfl⟩
set_option maxRecDepth 100000 in
theorem some_first (w : World) (q : Int) (hq : 1 ≤ q) : Calls Tryz.prog 41 #[.slice none 0 0, .int .i64 q] w fun e w' => ∃ go co, e = .returned (.slice (some ⟨go, 0, none⟩) 1 co) ∧ LAt w' (some ⟨go, 0, none⟩) 1 [q] ∧ Below w.heap.size w w' := by
  have hq0 : ¬ q = 0 := by omega
  have hla : LAt (w.alloc (.cells #[.int .i64 q] 3)) (some ⟨w.heap.size, 0, none⟩) 1 [q] := QAt.lat (blk_new w _) rfl
  obtain ⟨v', W6, hr, hown, hgr⟩ := Din.appendi_run (w.alloc (.cells #[.int .i64 q] 3)) w.heap.size (.slice none 0 0) 0 [] (World.ownsRow_nil _ _ _ _) (by simp) ⟨w.heap.size, 0, none⟩ 1 1 [q] hla (by omega)
  obtain ⟨go, co, rfl, hout, hge⟩ := Din.owns_LAt hown (by omega)
  have HR := Hid.mk hr
  have HO := Hid.mk hout
  have HB : Hid (Below w.heap.size w W6) := Hid.mk (((Below.refl _ w).alloc (Nat.le_refl _) _).trans hgr)
  clear hla hr hown hgr hout hge
  go_enter Tryz.func41, Tryz.ntmps41
  go_wp2_with (at_builtin; refine wpList_append_known rfl (.tmp 8) (.tmp 10) 31 rfl _ _ _ _ rfl rfl HR.out ?_)
  go_ret
  exact ⟨go, co, rfl, HO.out, HB.out⟩
set_option maxRecDepth 100000 in
theorem within_zero (w : World) (d g n : Nat) (G I D : Int) (xs : List Int) (h : DkAt d g n G I D xs w) (ao : Option Addr) (m c : Nat) : Calls Tryz.prog 42 #[.pointer (some ⟨d, 0, none⟩), .slice ao m c, .int .i64 0] w fun e w' => e = .returned (.slice ao m c) ∧ Below w.heap.size w w' := by
  have HC := Hid.mk (ddata_any w d g n G I D xs h 0)
  rw [(do_none G I D).1] at HC
  clear h
  go_enter Tryz.func42, Tryz.ntmps42
  go_wp2_with (go_at_call 43; refine HC.out.mono ?_; rintro e w1 ⟨rfl, hB⟩; have HB := Hid.mk hB; clear hB)
  go_ret
  exact ⟨rfl, HB.out⟩
set_option maxRecDepth 100000 in
set_option maxHeartbeats 4000000 in
theorem pointers_root (w : World) (d g n : Nat) (G I D : Int) (hI : 1 ≤ I) (hI4 : I ≤ 4) (xs : List Int) (h : DkAt d g n G I D xs w) :
    Calls Tryz.prog 20 #[.pointer (some ⟨d, 0, none⟩), inoV (rootL I), .int .i64 100000] w fun e w' => ∃ go co, e = .returned (.tuple #[.slice (some ⟨go, 0, none⟩) 1 co, .bool true]) ∧ LAt w' (some ⟨go, 0, none⟩) 1 [2 + I] ∧ Below w.heap.size w w' := by
  have hB0 : Below w.heap.size w (w.alloc (.cells (Iy (rootL I)).toArray 55)) := (Below.refl _ w).alloc (Nat.le_refl _) _
  have HB0 := Hid.mk hB0
  have HN0 := Hid.mk (NAt.new w (rootL I))
  have HD0 := Hid.mk (h.new hB0)
  clear h hB0
  obtain ⟨B, hBe⟩ : ∃ B, B = w.heap.size := ⟨_, rfl⟩
  have HBE := Hid.mk hBe
  rw [← hBe] at HB0 HN0 ⊢
  have HC : Hid (∀ W : World, DkAt d g n G I D xs W → Calls Tryz.prog 43 #[.pointer (some ⟨d, 0, none⟩), .int .i64 0] W fun e w' => e = .returned (.bool false) ∧ Below W.heap.size W w') := Hid.mk (fun W hd => by
    have h := ddata_any W d g n G I D xs hd 0
    rwa [(do_none G I D).1] at h)
  clear hBe
  go_enter Tryz.func20, Tryz.ntmps20
  go_wp2_with (refine Din.wpL_box (.tmp 1) rfl rfl (rootL I) rfl ?_; rw [← HBE.out])
  go_loopw [8, 9] (fun v i wr => ∃ k : Nat, k ≤ 8 ∧ i = .int .i64 k ∧ (k = 0 → v = .slice none 0 0) ∧ (0 < k → ∃ go co, v = .slice (some ⟨go, 0, none⟩) 1 co ∧ LAt wr (some ⟨go, 0, none⟩) 1 [2 + I]) ∧ NAt B (rootL I) wr ∧ DkAt d g n G I D xs wr ∧ Below B w wr) (fun _ i _ => 8 - (intOf i).toNat)
  case atStart => exact ⟨0, by omega, rfl, fun _ => rfl, fun h => by omega, HN0.out, HD0.out, HB0.out⟩
  case round =>
    obtain ⟨k, hk, rfl, hv0, hv1, hna, hdk, hbl⟩ := hrel
    have HN1 := Hid.mk hna
    have HD1 := Hid.mk hdk
    have HB1 := Hid.mk hbl
    clear hna hdk hbl HN0 HD0 HB0
    by_cases hk0 : k = 0
    · subst hk0
      have hv := hv0 rfl
      subst hv
      have c3 := (nat_root HN1.out).2.2.2.1
      clear hv0 hv1
      go_wp2_with (go_at_call 41; refine (some_first _ (2 + I) (by omega)).mono ?_; rintro e w2 ⟨go, co, rfl, hla, hB⟩; have HL := Hid.mk hla; have HB2 := Hid.mk hB; clear hla hB)
      go_roundw
      case rel => exact ⟨1, by omega, by go_num, fun h => by omega, fun _ => ⟨go, co, rfl, HL.out⟩, HN1.out.below HB2.out HN1.out.lt, HD1.out.new HB2.out, HB1.out.trans (HB2.out.mono (Nat.le_of_lt HN1.out.lt))⟩
      case measure => simp [intOf]
    · obtain ⟨go, co, hv, hla⟩ := hv1 (by omega)
      subst hv
      have HL := Hid.mk hla
      clear hv0 hv1 hla
      by_cases hlt : k < 8
      · have ck : wr.cell? ⟨B, 3 + k, none⟩ = some (.int .i64 0) := by
          rw [HN1.out.cell (3 + k) (by simp [rootL]; omega)]
          obtain rfl | rfl | rfl | rfl | rfl | rfl | rfl : k = 1 ∨ k = 2 ∨ k = 3 ∨ k = 4 ∨ k = 5 ∨ k = 6 ∨ k = 7 := by omega
          all_goals rfl
        go_wp2_with (go_at_call 41; refine (some_zero _ _ _ _).mono ?_; rintro e w2 ⟨rfl, hw⟩; subst w2)
        go_roundw
        case rel => exact ⟨k + 1, by omega, by go_num, fun h => by omega, fun _ => ⟨go, co, rfl, HL.out⟩, HN1.out, HD1.out, HB1.out⟩
        case measure => simp [intOf]; omega
      · obtain rfl : k = 8 := by omega
        obtain ⟨c0, c1, c2, c3, c4, c5⟩ := nat_root HN1.out
        go_wp2_with (first
          | (go_at_call 41; refine (some_zero _ _ _ _).mono ?_; rintro e w2 ⟨rfl, hw⟩; subst w2)
          | (go_at_call 42; refine (within_zero _ d g n G I D xs HD1.out _ _ _).mono ?_; rintro e w3 ⟨rfl, hB⟩; have HD3 := Hid.mk (HD1.out.new hB); have HN3 := HN1.out.below hB HN1.out.lt; obtain ⟨e0, e1, e2, e3, e4, e5⟩ := nat_root HN3; have HL3 := Hid.mk (HL.out.below hB (HL.out.lt (by omega))); have HB3 := Hid.mk (HB1.out.trans (hB.mono (Nat.le_of_lt HN1.out.lt))); clear hB HN3)
          | (go_at_call 43; refine (HC.out _ HD3.out).mono ?_; rintro e w4 ⟨rfl, hB⟩; have HL4 := Hid.mk (HL3.out.below hB (HL3.out.lt (by omega))); have HB4 := Hid.mk (HB3.out.trans (hB.mono (Nat.le_trans (Nat.le_of_eq HBE.out) HB3.out.size))); clear hB))
        go_loopw [8, 11] (fun v i wr => v = .slice (some ⟨go, 0, none⟩) 1 co ∧ i = .int .i64 0 ∧ wr = w4) (fun _ _ _ => 0)
        case atStart => exact ⟨rfl, rfl, rfl⟩
        case round =>
          obtain ⟨rfl, rfl, rfl⟩ := hrel
          go_wp2
          go_ret2
          exact ⟨go, co, rfl, HL4.out, HB4.out⟩
end Mk
end Go.Proofs.YtejnmpnioeamhaaGreat
