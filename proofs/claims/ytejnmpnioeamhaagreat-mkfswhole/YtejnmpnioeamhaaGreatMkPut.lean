/-
  What blockOf, putSuper, putHeads, putRoot and putEntries do to an image.
-/
import Derived.Test.YtejnmpnioeamhaaGreatMkSpec
namespace Go.Proofs.YtejnmpnioeamhaaGreat
open Go Go.Proofs Go.RowKit Go.Shelf
namespace Mk
open Sup (superL headL maskL nI nD copy_run)
open Din (inoL fineL inoV)
open Ent (blockL okB)
set_option maxRecDepth 100000 in
theorem blockof_any (w : World) (g n b : Nat) (hb : (b + 1) * 1024 ≤ n) (hn : n ≤ 16777216) : Calls Tryz.prog 28 #[.slice (some ⟨g, 0, none⟩) n n, .int .i64 b] w fun e w' => e = .returned (.slice (some ⟨g, b * 1024, none⟩) 1024 1024) ∧ w' = w := by
  go_enter Tryz.func28, Tryz.ntmps28
  go_wp2
  rw [show (b + 1) * 1024 - b * 1024 = 1024 by omega]
  go_ret
  exact ⟨rfl, rfl⟩

set_option maxRecDepth 100000 in
theorem put_row {w w1 : World} {g n o m c dl : Nat} {xs ys : List Int} {ao : Option Addr} (hr : RAt w g xs) (hB : Below w.heap.size w w1) (hy : BAt w1 ao m ys) (hm : m ≤ dl) (hl : xs.length = n) (ho : o + dl ≤ n) (h0 : 0 < m) :
    ∃ W5, (Builtin.copy_ #[26, 26] 3 #[.slice (some ⟨g, o, none⟩) dl dl, .slice ao m c]).run Tryz.prog w1 = .ok (.int .i64 m) W5 ∧ RAt W5 g (splice xs o ys) ∧ Only (fun k => k = g) w W5 := by
  obtain ⟨W5, h1, h2, h3⟩ := copy_run w1 g o dl dl xs ys ao m c (hr.below hB hr.lt) hy (fun e => by
    obtain ⟨a, ha, -⟩ := hy.2 h0
    rw [ha] at e
    cases e) (by omega)
  rw [Nat.min_eq_left hm] at h1 h2
  rw [List.take_of_length_le (by rw [hy.1]; omega)] at h2
  exact ⟨W5, h1, h2, (Only.of_new _ hB).trans h3 (fun i e => .inl e)⟩
set_option maxRecDepth 100000 in
theorem putsuper_any (w : World) (g n : Nat) (G I D : Int) (hg : good G I D = true) (xs : List Int) (hr : RAt w g xs) (hl : xs.length = n) (h1 : 1024 ≤ n) (hn : n ≤ 16777216) :
    Calls Tryz.prog 13 #[.slice (some ⟨g, 0, none⟩) n n, geo G I D] w fun e w' => e = .returned (.int .i64 0) ∧ RAt w' g (splice xs 0 (superL G I D)) ∧ Only (fun k => k = g) w w' := by
  have HR := Hid.mk hr
  have HL := Hid.mk hl
  have HG := Hid.mk hg
  clear hr hl hg
  go_enter Tryz.func13, Tryz.ntmps13
  go_wp2_with (first
    | (go_at_call 27; refine (Sup.pack_yes _ G I D HG.out).mono ?_; rintro e w1 ⟨q, rfl, hrow, hq, hB⟩; obtain ⟨-, hB1⟩ := behind hB; obtain ⟨W5, hr5, hrow5, ho5⟩ := put_row (n := n) (o := 0) (c := 1024) (dl := 1024) HR.out hB1 (hrow.full (Sup.superL_length G I D)) (by omega) HL.out (by omega) (by omega); have HR5 := Hid.mk hr5; have HROW := Hid.mk hrow5; have HO := Hid.mk ho5; clear hrow hq hB hB1 hr5 hrow5 ho5)
    | (go_at_call 28; refine (blockof_any _ g n 0 (by omega) hn).mono ?_; rintro e w' ⟨rfl, rfl⟩; simp only [Nat.zero_mul])
    | (refine wpList_copy_known rfl (.tmp 13) (.tmp 14) 26 26 rfl _ _ _ _ rfl rfl HR5.out ?_))
  go_ret
  exact ⟨rfl, HROW.out, HO.out⟩
theorem da_zero {G I D : Int} (hg : good G I D = true) : daI G I D 0 = ((2 + I).toNat : Int) ∧ daB G I D 0 = true := by
  have hb := good_iff.1 hg
  have h := da_at (n := 0) (k := 0) hg (by omega) (by omega) (by omega) (by omega)
  rw [h.1, h.2]
  refine ⟨?_, rfl⟩
  omega
set_option maxRecDepth 100000 in
theorem ia_one {G I D : Int} (hg : good G I D = true) : iaI G I D 1 = 2 ∧ iaO G I D 1 = 0 ∧ grB G I D 1 = true := by
  have hb := good_iff.1 hg
  have hB : grB G I D 1 = true := (gr_at (n := 1) (k := 0) hg (by omega) (by omega) (by omega) (by omega)).1
  unfold iaI iaO
  rw [if_pos hB, if_pos hB]
  simp
  exact hB
theorem eat_dots (W : World) (t : TypeId) (b : Nat) (hb : b = W.heap.size) : Ent.EAt (W.alloc (.cells #[.int .i64 1, .string ⟨#[46]⟩, .int .i64 1, .string ⟨#[46, 46]⟩] t)) (some ⟨b, 0, none⟩) 2 dotsL := by
  subst hb
  refine ⟨rfl, fun _ => ⟨_, rfl, by simp, fun k hk => ?_⟩⟩
  have h := blk_new W (.cells #[.int .i64 1, .string ⟨#[46]⟩, .int .i64 1, .string ⟨#[46, 46]⟩] t)
  rw [add_at, add_at, blk_cell h, blk_cell h]
  obtain rfl | rfl : k = 0 ∨ k = 1 := by omega
  · exact ⟨rfl, rfl⟩
  · exact ⟨rfl, rfl⟩
theorem dots_short : ∀ e ∈ dotsL, e.2.size ≤ 1000 := by decide
/-- Behind the box of the argument and one more block. -/
theorem behind2 {w w1 : World} {G I D : Int} {o : Obj} (hB : Below ((w.alloc (.cells #[.int .i64 G, .int .i64 I, .int .i64 D] 23)).alloc o).heap.size ((w.alloc (.cells #[.int .i64 G, .int .i64 I, .int .i64 D] 23)).alloc o) w1) : GAt w.heap.size G I D w1 ∧ Below w.heap.size w w1 := by
  have h1 : Below w.heap.size w ((w.alloc (.cells #[.int .i64 G, .int .i64 I, .int .i64 D] 23)).alloc o) := ((Below.refl _ w).alloc (Nat.le_refl _) _).alloc (by simp) _
  have hg := GAt.new w G I D
  have hg2 := hg.below ((Below.refl _ (w.alloc (.cells #[.int .i64 G, .int .i64 I, .int .i64 D] 23))).alloc (Nat.le_refl _) o) (by simp)
  exact ⟨hg2.below hB (by simp; omega), h1.trans (hB.mono (by simp; omega))⟩
set_option maxRecDepth 100000 in
set_option maxHeartbeats 1000000 in
theorem putentries_any (w : World) (g n : Nat) (G I D : Int) (hg : good G I D = true) (xs : List Int) (hr : RAt w g xs) (hl : xs.length = n) (h1 : ((2 + I).toNat + 1) * 1024 ≤ n) (hn : n ≤ 16777216) :
    Calls Tryz.prog 16 #[.slice (some ⟨g, 0, none⟩) n n, geo G I D] w fun e w' => e = .returned (.int .i64 0) ∧ RAt w' g (splice xs ((2 + I).toNat * 1024) (blockL dotsL)) ∧ Only (fun k => k = g) w w' := by
  have HR := Hid.mk hr
  have HL := Hid.mk hl
  obtain ⟨d, hd⟩ : ∃ d : Nat, d = (2 + I).toNat := ⟨_, rfl⟩
  rw [← hd] at h1 ⊢
  have HD : Hid (∀ W : World, Calls Tryz.prog 31 #[geo G I D, .int .i64 0] W fun e w' => e = .returned (.tuple #[.int .i64 (d : Int), .bool true]) ∧ Below W.heap.size W w') := Hid.mk (fun W => by
    have h := wdata_any W G I D 0
    rwa [(da_zero hg).1, (da_zero hg).2, ← hd] at h)
  clear hr hl hg hd
  go_enter Tryz.func16, Tryz.ntmps16
  go_wp2_with (first
    | (go_at_call 34; refine (Ent.pblock_yes _ _ _ _ dotsL (eat_dots _ _ _ (by simp)) dots_short ok_dots).mono ?_; rintro e w1 ⟨q, rfl, hrow, hq, hB⟩; obtain ⟨hG1, hB1⟩ := behind2 hB; obtain ⟨c0, c1, c2⟩ := hG1.g3; clear hG1; have HROW0 := Hid.mk hrow; have HB1 := Hid.mk hB1; clear hrow hq hB hB1)
    | (go_at_call 31; refine (HD.out _).mono ?_; rintro e w2 ⟨rfl, hB⟩; obtain ⟨W5, hr5, hrow5, ho5⟩ := put_row (n := n) (o := d * 1024) (c := 1024) (dl := 1024) HR.out (HB1.out.trans (hB.mono HB1.out.size)) ((HROW0.out.below hB HROW0.out.lt).full (Ent.blockL_length ok_dots)) (by omega) HL.out (by omega) (by omega); have HR5 := Hid.mk hr5; have HROW := Hid.mk hrow5; have HO := Hid.mk ho5; clear hB hr5 hrow5 ho5)
    | (go_at_call 28; refine (blockof_any _ g n d h1 hn).mono ?_; rintro e w' ⟨rfl, rfl⟩)
    | (refine wpList_copy_known rfl (.tmp 23) (.tmp 24) 26 26 rfl _ _ _ _ rfl rfl HR5.out ?_))
  go_ret
  exact ⟨rfl, HROW.out, HO.out⟩
set_option maxRecDepth 100000 in
theorem putroot_any (w : World) (g n : Nat) (G I D : Int) (hg : good G I D = true) (xs : List Int) (hr : RAt w g xs) (hl : xs.length = n) (h1 : 3072 ≤ n) (hn : n ≤ 16777216) :
    Calls Tryz.prog 15 #[.slice (some ⟨g, 0, none⟩) n n, geo G I D] w fun e w' => e = .returned (.int .i64 0) ∧ RAt w' g (splice xs 2048 (inoL (rootL I))) ∧ Only (fun k => k = g) w w' := by
  have HR := Hid.mk hr
  have HL := Hid.mk hl
  have hb := good_iff.1 hg
  have HF := Hid.mk (fine_root I (by omega) (by omega))
  have HX : Hid ((2 + I).toNat = 2 + I) := Hid.mk (by omega)
  have HD : Hid (∀ W : World, Calls Tryz.prog 31 #[geo G I D, .int .i64 0] W fun e w' => e = .returned (.tuple #[.int .i64 (2 + I), .bool true]) ∧ Below W.heap.size W w') := Hid.mk (fun W => by
    have h := wdata_any W G I D 0
    rwa [(da_zero hg).1, (da_zero hg).2, HX.out] at h)
  have HI : Hid (∀ W : World, Calls Tryz.prog 33 #[geo G I D, .int .i64 1] W fun e w' => e = .returned (.tuple #[.int .i64 2, .int .i64 0, .bool true]) ∧ Below W.heap.size W w') := Hid.mk (fun W => by
    have h := inodeat_any W G I D 1
    rwa [(ia_one hg).1, (ia_one hg).2.1, (ia_one hg).2.2] at h)
  clear hr hl hg hb
  go_enter Tryz.func15, Tryz.ntmps15
  go_wp2_with (first
    | (go_at_call 31; refine (HD.out _).mono ?_; rintro e w1 ⟨rfl, hB⟩; obtain ⟨hG1, hB1⟩ := behind hB; obtain ⟨c0, c1, c2⟩ := hG1.g3; have HG1 := Hid.mk hG1; have HB1 := Hid.mk hB1; clear hB hB1 hG1)
    | (go_at_call 32; refine (Din.pack_yes _ (rootL I) rfl HF.out).mono ?_; rintro e w2 ⟨q, rfl, hrow, hq, hB⟩; have hG2 := HG1.out.below hB HG1.out.lt; obtain ⟨d0, d1, d2⟩ := hG2.g3; have HG2 := Hid.mk hG2; have HROW0 := Hid.mk hrow; have HB2 := Hid.mk (HB1.out.trans (hB.mono HB1.out.size)); clear hG2 hrow hq hB)
    | (go_at_call 33; refine (HI.out _).mono ?_; rintro e w3 ⟨rfl, hB⟩; obtain ⟨W5, hr5, hrow5, ho5⟩ := put_row (n := n) (o := 2048) (c := 64) (dl := 1024) HR.out (HB2.out.trans (hB.mono HB2.out.size)) ((HROW0.out.below hB HROW0.out.lt).full (Din.inoL_length _ rfl)) (by omega) HL.out (by omega) (by omega); have HR5 := Hid.mk hr5; have HROW := Hid.mk hrow5; have HO := Hid.mk ho5; clear hB hr5 hrow5 ho5)
    | (go_at_call 28; refine (blockof_any _ g n 2 (by omega) hn).mono ?_; rintro e w' ⟨rfl, rfl⟩)
    | (refine wpList_copy_known rfl (.tmp 34) (.tmp 35) 26 26 rfl _ _ _ _ rfl rfl HR5.out ?_))
  go_ret
  exact ⟨rfl, HROW.out, HO.out⟩
theorem hd_at {G I D : Int} (hg : good G I D = true) (k : Nat) (hk : (k : Int) < G) : hdB G I D k = true ∧ hdI G I D k = ((1 + k * perN I D : Nat) : Int) := by
  have hb := good_iff.1 hg
  have h : hdB G I D k = true := by unfold hdB; rw [hg]; simp; exact hk
  refine ⟨h, ?_⟩
  unfold hdI
  rw [if_pos h]
  have e : ((perN I D : Nat) : Int) = 1 + I + D := by unfold perN; omega
  rw [Int.natCast_add, Int.natCast_mul, e]
  rfl
theorem heads_start (w : World) (G I D : Int) (g : Nat) (xs : List Int) (hr : RAt w g xs) :
    BAt ((w.alloc (.cells #[.int .i64 G, .int .i64 I, .int .i64 D] 23)).alloc (.cells #[.int .u8 1] 5)) (some ⟨w.heap.size + 1, 0, none⟩) 1 [1] ∧ RAt ((w.alloc (.cells #[.int .i64 G, .int .i64 I, .int .i64 D] 23)).alloc (.cells #[.int .u8 1] 5)) g xs ∧
    GAt w.heap.size G I D ((w.alloc (.cells #[.int .i64 G, .int .i64 I, .int .i64 D] 23)).alloc (.cells #[.int .u8 1] 5)) ∧ Only (fun k => k = g) w ((w.alloc (.cells #[.int .i64 G, .int .i64 I, .int .i64 D] 23)).alloc (.cells #[.int .u8 1] 5)) ∧ w.heap.size + 1 ≠ g := by
  have hlt := hr.lt
  have h1 : Below w.heap.size w ((w.alloc (.cells #[.int .i64 G, .int .i64 I, .int .i64 D] 23)).alloc (.cells #[.int .u8 1] 5)) := ((Below.refl _ w).alloc (Nat.le_refl _) _).alloc (by simp) _
  have h2 : RAt ((w.alloc (.cells #[.int .i64 G, .int .i64 I, .int .i64 D] 23)).alloc (.cells #[.int .u8 1] 5)) (w.heap.size + 1) [1] := by
    have h := blk_new (w.alloc (.cells #[.int .i64 G, .int .i64 I, .int .i64 D] 23)) (.cells #[.int .u8 1] 5)
    rwa [show (w.alloc (.cells #[.int .i64 G, .int .i64 I, .int .i64 D] 23)).heap.size = w.heap.size + 1 by simp] at h
  exact ⟨h2.full rfl, hr.below h1 hlt, (GAt.new w G I D).below ((Below.refl _ _).alloc (Nat.le_refl _) _) (by simp), Only.of_new _ h1, by omega⟩
set_option maxRecDepth 100000 in
set_option maxHeartbeats 4000000 in
theorem putheads_any (w : World) (g n : Nat) (G I D : Int) (hg : good G I D = true) (hr : RAt w g (superL G I D ++ zeros (n - 1024))) (hl : n = totN G I D * 1024) (hn : n ≤ 16777216) :
    Calls Tryz.prog 14 #[.slice (some ⟨g, 0, none⟩) n n, geo G I D] w fun e w' => e = .returned (.int .i64 0) ∧ RAt w' g (refL G I D G.toNat) ∧ Only (fun k => k = g) w w' := by
  have hb := good_iff.1 hg
  have hge : (1 + G.toNat * perN I D) * 1024 = n := hl.symm
  obtain ⟨N, hN⟩ : ∃ N : Nat, G = (N : Int) := ⟨G.toNat, by omega⟩
  have hN2 : G.toNat = N := by omega
  rw [hN2] at hge ⊢
  have HR := Hid.mk hr
  have HG := Hid.mk hg
  have HGE := Hid.mk hge
  have HI0 : Hid (0 ≤ I ∧ 0 ≤ D) := Hid.mk (by omega)
  have HN8 : Hid (N ≤ 8) := Hid.mk (by omega)
  clear hr hl hg hge hb hN2
  subst hN
  go_enter Tryz.func14, Tryz.ntmps14
  go_wp2
  go_loopw [5, 14] (fun v i wr => ∃ (k : Nat) (ao : Option Addr) (m c : Nat), k ≤ N ∧ i = .int .i64 k ∧ v = .slice ao m c ∧ BAt wr ao m (onL k) ∧ (ao = none → m = 0 ∧ c = 0) ∧ (∀ a, ao = some a → a.block ≠ g) ∧ RAt wr g (refL N I D k ++ zeros (n - (1 + k * perN I D) * 1024)) ∧ GAt w.heap.size N I D wr ∧ Only (fun k => k = g) w wr) (fun _ i _ => N - (intOf i).toNat)
  case atStart =>
    obtain ⟨h1, h2, h3, h4, h5⟩ := heads_start w N I D g _ HR.out
    exact ⟨0, _, 1, 1, by omega, rfl, rfl, h1, fun e => by (cases e), fun a e => by (cases e; exact h5), by rw [show (1 + 0 * perN I D) * 1024 = 1024 by omega]; exact h2, h3, h4⟩
  case round =>
    obtain ⟨k, ao, m, c, hk, rfl, rfl, hon, hno, hne, hrow, hG, hO⟩ := hrel
    obtain ⟨c0, c1, c2⟩ := hG.g3
    have HON := Hid.mk hon
    have HNO := Hid.mk hno
    have HNE := Hid.mk hne
    have HROW := Hid.mk hrow
    have HGA := Hid.mk hG
    have HO := Hid.mk hO
    clear hon hno hne hrow hG hO
    have hN8 := HN8.out
    have HGN : Hid (w.heap.size ≠ g) := Hid.mk (by have := HR.out.lt; omega)
    clear HR
    by_cases hlt : k < N
    · have HH := Hid.mk (hd_at HG.out k (by omega))
      obtain ⟨b, hb⟩ : ∃ b, b = 1 + k * perN I D := ⟨_, rfl⟩
      have HHD : Hid (∀ W : World, Calls Tryz.prog 30 #[geo N I D, .int .i64 k] W fun e w' => e = .returned (.tuple #[.int .i64 (b : Int), .bool true]) ∧ Below W.heap.size W w') := Hid.mk (fun W => by
        have h := head_any W N I D k
        rwa [HH.out.1, HH.out.2, ← hb] at h)
      have HSZ : Hid ((1 + (k + 1) * perN I D) * 1024 ≤ n) := Hid.mk (by
        have h1 := HGE.out
        have h2 : (k + 1) * perN I D ≤ N * perN I D := Nat.mul_le_mul_right _ (by omega)
        omega)
      have HB2 : Hid ((b + 1) * 1024 ≤ n) := Hid.mk (by
        have h1 := HSZ.out
        have h3 : 1 ≤ perN I D := by have := HI0.out; unfold perN; omega
        rw [Nat.succ_mul] at h1
        omega)
      have HLEN : Hid ((refL N I D k ++ zeros (n - (1 + k * perN I D) * 1024)).length = n) := Hid.mk (by
        have h1 := HB2.out
        rw [List.length_append, refL_length _ _ _ HI0.out.1 HI0.out.2, zeros_length, ← hb]
        omega)
      have HST := Hid.mk (head_step N I D HI0.out.1 HI0.out.2 k (b * 1024) (by rw [hb]) n HSZ.out)
      have HBE : Hid (b * 1024 = (1 + k * perN I D) * 1024) := Hid.mk (by rw [hb])
      clear hb
      go_wp2_with (first
        | (go_at_call 29; refine (Sup.phead_yes _ N I D k HH.out.1 ao ao m c m c (onL k) (onL k) HON.out HON.out (onL_bound k) (onL_bound k) HNO.out HNO.out).mono ?_; rintro e w1 ⟨q, rfl, hrow, hq, hB⟩; have hG1 := HGA.out.below hB HGA.out.lt; obtain ⟨d0, d1, d2⟩ := hG1.g3; have HG1 := Hid.mk hG1; have HROW0 := Hid.mk hrow; have HB1 := Hid.mk hB; clear hG1 hrow hq hB)
        | (go_at_call 30; refine (HHD.out _).mono ?_; rintro e w2 ⟨rfl, hB⟩; obtain ⟨W5, hr5, hrow5, ho5⟩ := put_row (n := n) (o := b * 1024) (c := 1024) (dl := 1024) HROW.out (HB1.out.trans (hB.mono HB1.out.size)) ((HROW0.out.below hB HROW0.out.lt).full (Sup.headL_length _ _ _ _ _)) (by omega) HLEN.out (by have := HB2.out; omega) (by omega); have HR5 := Hid.mk hr5; have HROW5 := Hid.mk hrow5; have HO5 := Hid.mk ho5; clear hB hr5 hrow5 ho5)
        | (go_at_call 28; refine (blockof_any _ g n b HB2.out hn).mono ?_; rintro e w' ⟨rfl, rfl⟩)
        | (refine wpList_copy_known rfl (.tmp 36) (.tmp 37) 26 26 rfl _ _ _ _ rfl rfl HR5.out ?_))
      go_roundw
      case rel =>
        refine ⟨k + 1, none, 0, 0, by omega, by go_num, rfl, ⟨rfl, fun h => absurd h (Nat.lt_irrefl 0)⟩, fun _ => ⟨rfl, rfl⟩, fun a e => by (cases e), ?_, (HO5.out.block _ HGA.out.lt HGN.out).trans HGA.out, HO.out.trans HO5.out (fun i e => .inl e)⟩
        have h := HROW5.out
        rwa [← HBE.out, HST.out] at h
      case measure => simp [intOf]; omega
    · obtain rfl : k = N := by omega
      go_wp2
      go_ret
      have h := HROW.out
      rw [HGE.out, Nat.sub_self] at h
      exact ⟨rfl, by simpa [zeros] using h, HO.out⟩
end Mk
end Go.Proofs.YtejnmpnioeamhaaGreat
