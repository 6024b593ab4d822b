/-
  What is reached in an empty file system: the root alone, named twice.
-/
import Derived.Test.YtejnmpnioeamhaaGreatWhReach
namespace Go.Proofs.YtejnmpnioeamhaaGreat
open Go Go.Proofs Go.RowKit Go.Shelf
namespace Mk
open Sup (superL headL maskL nI nD)
open Din (inoL fineL inoV NAt)
open Ent (blockL okB EAt Ey entV noS noE)
/-- So many times no. -/
def fals (n : Nat) : List Value := List.replicate n (.bool false)
theorem fals_length (n : Nat) : (fals n).length = n := by simp [fals]
theorem fals_get (n i : Nat) (h : i < n) : (fals n)[i]? = some (.bool false) := by simp [fals, h]
theorem info4 : (Tryz.prog.info? 4).map (fun i => (i.zero, i.size, i.bytes)) = some (some (.bool false), 1, 1) := by kernel_rfl
/-- make([]bool, n). -/
theorem makeb_run (w : World) (n : Nat) (hn : n ≤ 16777216) : (Instr.makeSlice 64 (.int .i64 n) (.int .i64 n)).run Tryz.prog w = .ok (.slice (some ⟨w.heap.size, 0, none⟩) n n) (w.alloc (.cells (fals n).toArray 4)) := by
  cases hi : Tryz.prog.info? 4 with
  | none => have := info4; rw [hi] at this; cases this
  | some i0 =>
    have h2 := info4
    rw [hi] at h2
    simp at h2
    obtain ⟨hz0, hz1, hz2⟩ := h2
    rw [run_makeSlice (P := Tryz.prog) w 64 4 i0 (.bool false) Tryz.underlying64 hi hz0 .i64 .i64 n n (by omega) (by omega) (by rw [hz1]; simp; omega) (by rw [hz2]; omega) (by omega)]
    have e : madeCells (Value.bool false).cells ((n : Int).toNat * i0.size) = (fals n).toArray := by
      rw [hz1]
      apply Array.ext'
      rw [show (fals n).toArray.toList = List.replicate n (Value.bool false) by simp [fals], List.eq_replicate_iff]
      simp [madeCells, Value.cells, Nat.mod_one]
    rw [e]
    simp
/-- The inodes' number. -/
def inoN (G I : Int) : Nat := (G * (I * 16)).toNat
theorem ino_is {G I D : Int} (hg : good G I D = true) : inoI G I D = (inoN G I : Int) ∧ 16 ≤ inoN G I ∧ inoN G I ≤ 512 := by
  have hb := good_iff.1 hg
  have h1 := mul_fits (a := G) (A := 8) (b := I * 16) (B := 64) (by omega) (by omega) (by omega) (by omega)
  have h2 : 1 * (I * 16) ≤ G * (I * 16) := Int.mul_le_mul_of_nonneg_right (by omega) (by omega)
  unfold inoI inoN
  rw [if_pos hg]
  omega
theorem QAt.set {W : World} {g : Nat} {xs : List Int} (h : QAt W g xs) (i : Nat) (y : Int) : QAt (W.setCell ⟨g, i, none⟩ (.int .i64 y)) g (xs.set i y) := by
  unfold QAt
  rw [blk_set h]
  simp [Iy, List.map_set]
theorem QAt.cell {W : World} {g : Nat} {xs : List Int} (h : QAt W g xs) (i : Nat) (hi : i < xs.length) : W.cell? ⟨g, i, none⟩ = some (.int .i64 (xs.getD i 0)) ∧ W.frozen? ⟨g, i, none⟩ = false := by
  refine ⟨?_, blk_free h i⟩
  rw [blk_cell h]
  simp [Iy, List.getD, List.getElem?_eq_getElem hi]
/-- What reached holds in memory: how often each is named, which are seen, the row of those. -/
structure RcAt (w : World) (d g n : Nat) (G I D : Int) (xs : List Int) (gn gs go N : Nat) (k : Int) (W : World) : Prop where
  nam : QAt W gn ((zeros N).set 1 k)
  seen : W.heap[gs]? = some (.cells ((fals N).set 1 (.bool true)).toArray 4 (0, 0))
  out : LAt W (some ⟨go, 0, none⟩) 1 [1]
  dk : DkAt d g n G I D xs W
  below : Below w.heap.size w W
  ge : w.heap.size ≤ gn
  ns : gs ≠ gn
  no : go ≠ gn
  nd : d ≠ gn
  ng : g ≠ gn
theorem RcAt.new {w W W' : World} {d g n : Nat} {G I D : Int} {xs : List Int} {gn gs go N : Nat} {k : Int} (h : RcAt w d g n G I D xs gn gs go N k W) (hB : Below W.heap.size W W') : RcAt w d g n G I D xs gn gs go N k W' :=
  ⟨(hB.block _ (lt_of_block h.nam)).trans h.nam, (hB.block _ (lt_of_block h.seen)).trans h.seen, h.out.below hB (h.out.lt (by omega)), h.dk.new hB, h.below.trans (hB.mono h.below.size), h.ge, h.ns, h.no, h.nd, h.ng⟩
theorem RcAt.bump {w W : World} {d g n : Nat} {G I D : Int} {xs : List Int} {gn gs go N : Nat} {k : Int} (h : RcAt w d g n G I D xs gn gs go N k W) (y : Int) : RcAt w d g n G I D xs gn gs go N y (W.setCell ⟨gn, 1, none⟩ (.int .i64 y)) := by
  have ho : Only (fun j => j = gn) W (W.setCell ⟨gn, 1, none⟩ (.int .i64 y)) := (Only.refl (fun j => j = gn) W).setCell (p := ⟨gn, 1, none⟩) (.inl rfl) _
  refine ⟨?_, (ho.block _ (lt_of_block h.seen) h.ns).trans h.seen, h.out.only ho (fun a e _ => by cases e; exact h.no), ⟨(ho.block _ h.dk.lt h.nd).trans h.dk.dk, (ho.block _ h.dk.row.lt h.ng).trans h.dk.row⟩, h.below.setCell (p := ⟨gn, 1, none⟩) h.ge _, h.ge, h.ns, h.no, h.nd, h.ng⟩
  have h1 := QAt.set h.nam 1 y
  rwa [List.set_set] at h1
theorem RcAt.cells {w W : World} {d g n : Nat} {G I D : Int} {xs : List Int} {gn gs go N : Nat} {k : Int} (h : RcAt w d g n G I D xs gn gs go N k W) (hN : 2 ≤ N) :
    W.cell? ⟨gn, 1, none⟩ = some (.int .i64 k) ∧ W.frozen? ⟨gn, 1, none⟩ = false ∧ W.cell? ⟨gs, 1, none⟩ = some (.bool true) ∧ W.cell? ⟨go, 0, none⟩ = some (.int .i64 1) := by
  have h1 := QAt.cell h.nam 1 (by simp [zeros_length]; omega)
  refine ⟨?_, h1.2, ?_, ?_⟩
  · rw [h1.1, List.getD_eq_getElem?_getD, List.getElem?_set_self (by rw [zeros_length]; omega)]
    rfl
  · rw [blk_cell h.seen, List.getElem?_toArray, List.getElem?_set_self (by rw [fals_length]; omega)]
  · obtain ⟨a, e, -, hc⟩ := h.out.2 (by omega)
    cases e
    exact hc 0 (by omega)
/-- A new variable that holds the root. -/
theorem var_root (W : World) (I : Int) : ∃ X Y b, (Instr.alloc 55 true (.tuple #[])).run Tryz.prog W = .ok (.pointer (some ⟨b, 0, none⟩)) X ∧ (Instr.storeAt 55 (.pointer (some ⟨b, 0, none⟩)) (inoV (rootL I))).run Tryz.prog X = .ok () Y ∧ NAt b (rootL I) Y ∧ Below W.heap.size W Y := by
  obtain ⟨X, Y, b, h1, h2, h3, h4, -⟩ := Din.var24 W (rootL I) rfl
  exact ⟨X, Y, b, h1, h2, h3, h4⟩
theorem set_no (N : Nat) : (zeros N).set 1 0 = zeros N := by
  apply List.ext_getElem (by simp)
  intro i h1 h2
  rw [List.getElem_set]
  split
  · simp [zeros]
  · rfl
theorem reached_start {w w1 w3 Y : World} {d g n : Nat} {G I D : Int} {xs : List Int} {N : Nat} (hN : 16 ≤ N) (hB1 : Below w.heap.size w w1) (hD : DkAt d g n G I D xs w)
    (hB3 : Below ((w1.alloc (.cells (Iy (zeros (N + 1))).toArray 3)).alloc (.cells (fals (N + 1)).toArray 4)).heap.size ((w1.alloc (.cells (Iy (zeros (N + 1))).toArray 3)).alloc (.cells (fals (N + 1)).toArray 4)) w3) (hBY : Below w3.heap.size w3 Y) :
    Y.cell? ⟨w1.heap.size + 1, 1, none⟩ = some (.bool false) ∧ Y.frozen? ⟨w1.heap.size + 1, 1, none⟩ = false ∧
    ∃ go co W6, (Builtin.append_ #[31, 31] 31 #[.slice none 0 0, .slice (some ⟨Y.heap.size, 0, none⟩) 1 1]).run Tryz.prog ((Y.setCell ⟨w1.heap.size + 1, 1, none⟩ (.bool true)).alloc (.cells #[.int .i64 1] 3)) = .ok (.slice (some ⟨go, 0, none⟩) 1 co) W6 ∧ RcAt w d g n G I D xs w1.heap.size (w1.heap.size + 1) go (N + 1) 0 W6 := by
  have hlt := hD.lt
  have hlg := hD.row.lt
  have hs1 := hB1.size
  have hW : Below w1.heap.size w1 ((w1.alloc (.cells (Iy (zeros (N + 1))).toArray 3)).alloc (.cells (fals (N + 1)).toArray 4)) := ((Below.refl _ w1).alloc (Nat.le_refl _) _).alloc (by simp) _
  have hn0 : QAt ((w1.alloc (.cells (Iy (zeros (N + 1))).toArray 3)).alloc (.cells (fals (N + 1)).toArray 4)) w1.heap.size (zeros (N + 1)) := QAt.below (blk_new w1 _) ((Below.refl _ _).alloc (Nat.le_refl _) _) (by simp)
  have hs0 : ((w1.alloc (.cells (Iy (zeros (N + 1))).toArray 3)).alloc (.cells (fals (N + 1)).toArray 4)).heap[w1.heap.size + 1]? = some (.cells (fals (N + 1)).toArray 4 (0, 0)) := by
    have h := blk_new (w1.alloc (.cells (Iy (zeros (N + 1))).toArray 3)) (.cells (fals (N + 1)).toArray 4)
    rwa [show (w1.alloc (.cells (Iy (zeros (N + 1))).toArray 3)).heap.size = w1.heap.size + 1 by simp] at h
  have hz : ((w1.alloc (.cells (Iy (zeros (N + 1))).toArray 3)).alloc (.cells (fals (N + 1)).toArray 4)).heap.size = w1.heap.size + 2 := by simp
  rw [hz] at hB3
  have hs3 := hB3.size
  rw [hz] at hs3
  have hsY := hBY.size
  have hBwY : Below w.heap.size w Y := ((hB1.trans (hW.mono hs1)).trans (hB3.mono (by omega))).trans (hBY.mono (by omega))
  have hnY : QAt Y w1.heap.size (zeros (N + 1)) := (hn0.below hB3 (by omega)).below hBY (by omega)
  have hsY0 : Y.heap[w1.heap.size + 1]? = some (.cells (fals (N + 1)).toArray 4 (0, 0)) := by
    rw [hBY.block _ (by omega), hB3.block _ (by omega)]
    exact hs0
  have hDY : DkAt d g n G I D xs Y := hD.below hBwY hlt hlg
  refine ⟨?_, blk_free hsY0 1, ?_⟩
  · rw [blk_cell hsY0, List.getElem?_toArray]
    exact fals_get _ _ (by omega)
  · obtain ⟨Z, hZ⟩ : ∃ Z, Z = Y.setCell ⟨w1.heap.size + 1, 1, none⟩ (.bool true) := ⟨_, rfl⟩
    have ho : Only (fun k => k = w1.heap.size + 1) Y Z := by rw [hZ]; exact (Only.refl (fun k => k = w1.heap.size + 1) Y).setCell (p := ⟨w1.heap.size + 1, 1, none⟩) (.inl rfl) _
    have hZs : Z.heap.size = Y.heap.size := by rw [hZ]; simp [World.setCell]
    have hsZ : Z.heap[w1.heap.size + 1]? = some (.cells ((fals (N + 1)).set 1 (.bool true)).toArray 4 (0, 0)) := by
      rw [hZ, blk_set hsY0]
      simp
    rw [← hZ, ← hZs]
    have hnew := blk_new Z (.cells #[.int .i64 1] 3)
    have hla : LAt (Z.alloc (.cells #[.int .i64 1] 3)) (some ⟨Z.heap.size, 0, none⟩) 1 [1] := QAt.lat hnew rfl
    obtain ⟨v', W6, hr, hown, hgr⟩ := Din.appendi_run (Z.alloc (.cells #[.int .i64 1] 3)) Z.heap.size (.slice none 0 0) 0 [] (World.ownsRow_nil _ _ _ _) (by simp) ⟨Z.heap.size, 0, none⟩ 1 1 [1] hla (by omega)
    obtain ⟨go, co, rfl, hout, hge⟩ := Din.owns_LAt hown (by omega)
    have hB6 : Below Z.heap.size Z W6 := ((Below.refl _ Z).alloc (Nat.le_refl _) _).trans hgr
    have hBZ : Below w.heap.size w Z := hBwY.trans (ho.below hBwY.size (fun k e => by omega))
    refine ⟨go, co, W6, hr, ?_, ?_, hout, ?_, hBZ.trans (hB6.mono hBZ.size), by omega, by omega, by omega, by omega, by omega⟩
    · rw [set_no]
      have h1 : QAt Z w1.heap.size (zeros (N + 1)) := (ho.block _ hnY.lt (by omega)).trans hnY
      exact h1.below hB6 h1.lt
    · exact (hB6.block _ (lt_of_block hsZ)).trans hsZ
    · have h1 : DkAt d g n G I D xs Z := ⟨(ho.block _ hDY.lt (by omega)).trans hDY.dk, (ho.block _ hDY.row.lt (by omega)).trans hDY.row⟩
      exact h1.new hB6
set_option maxRecDepth 100000 in
set_option maxHeartbeats 4000000 in
theorem reached_root (w : World) (d g n : Nat) (G I D : Int) (hg : good G I D = true) (xs : List Int) (h : DkAt d g n G I D xs w) (hx : ImgIs G I D xs) (hn : n = totN G I D * 1024) :
    Calls Tryz.prog 18 #[.pointer (some ⟨d, 0, none⟩)] w fun e w' => ∃ go co gn gs, e = .returned (.tuple #[.slice (some ⟨go, 0, none⟩) 1 co, .slice (some ⟨gn, 0, none⟩) (inoN G I + 1) (inoN G I + 1), .bool true]) ∧ RcAt w d g n G I D xs gn gs go (inoN G I + 1) 2 w' := by
  obtain ⟨i1, i2, i3⟩ := ino_is hg
  have HIN : Hid (∀ W : World, Calls Tryz.prog 37 #[geo G I D] W fun e w' => e = .returned (.int .i64 (inoN G I : Int)) ∧ Below W.heap.size W w') := Hid.mk (fun W => by
    have h := rinodes_any W G I D
    rwa [i1] at h)
  have HI : Hid (∀ W : World, DkAt d g n G I D xs W → Calls Tryz.prog 19 #[.pointer (some ⟨d, 0, none⟩), .int .i64 1] W fun e w' => e = .returned (.tuple #[inoV (rootL I), .bool true]) ∧ Below W.heap.size W w') := Hid.mk (fun W hd => dinode_one W d g n G I D hg xs hd hx hn)
  have HE : Hid (∀ W : World, DkAt d g n G I D xs W → Calls Tryz.prog 38 #[.pointer (some ⟨d, 0, none⟩), inoV (rootL I)] W fun e w' => ∃ ao c, e = .returned (.slice ao 2 c) ∧ EAt w' ao 2 dotsL ∧ (∀ a, ao = some a → W.heap.size ≤ a.block) ∧ Below W.heap.size W w') := Hid.mk (fun W hd => dentries_root W d g n G I D hg xs hd hx hn)
  obtain ⟨N, hN⟩ : ∃ N, N = inoN G I := ⟨_, rfl⟩
  rw [← hN] at i2 i3 HIN ⊢
  obtain ⟨k0, k1, k2, k3⟩ := h.d4
  have HD := Hid.mk h
  clear h hx hg i1 hN hn
  go_enter Tryz.func18, Tryz.ntmps18
  go_wp2_with (first
    | (go_at_call 37; refine (HIN.out _).mono ?_; rintro e w1 ⟨rfl, hB⟩; have HB1 := Hid.mk hB; have hm1 := makei_run w1 (N + 1) (by omega); have hm2 := makeb_run (w1.alloc (.cells (Iy (zeros (N + 1))).toArray 3)) (N + 1) (by omega); simp only [Int.natCast_add, Int.natCast_one] at hm1 hm2; rw [show (w1.alloc (.cells (Iy (zeros (N + 1))).toArray 3)).heap.size = w1.heap.size + 1 by simp] at hm2; have HM1 := Hid.mk hm1; have HM2 := Hid.mk hm2; clear hm1 hm2 hB)
    | (at_make; refine wpList_make_known rfl _ _ 31 rfl _ _ _ _ rfl rfl HM1.out ?_)
    | (at_make; refine wpList_make_known rfl _ _ 64 rfl _ _ _ _ rfl rfl HM2.out ?_)
    | (go_at_call 19; refine (HI.out _ (HD.out.below (HB1.out.trans ((((Below.refl _ w1).alloc (Nat.le_refl _) _).alloc (by simp) _).mono HB1.out.size)) HD.out.lt HD.out.row.lt)).mono ?_; rintro e w3 ⟨rfl, hB3⟩; obtain ⟨X, Y, b, hrX, hrY, hNY, hBY⟩ := var_root w3 I; obtain ⟨s0, s1, go, co, W6, hr6, hrc⟩ := reached_start i2 HB1.out HD.out hB3 hBY; obtain ⟨c0, c1, c2, c3, c4, c5⟩ := nat_root hNY; have HRX := Hid.mk hrX; have HRY := Hid.mk hrY; have HR6 := Hid.mk hr6; have HRC := Hid.mk hrc; clear hrX hrY hNY hBY hr6 hrc hB3)
    | (refine Din.wpL_alloc rfl rfl _ X HRX.out ?_)
    | (refine Din.wpL_store (.tmp 9) (.tmp 31) rfl rfl _ _ Y rfl rfl HRY.out ?_)
    | (at_builtin; refine wpList_append_known rfl (.tmp 48) (.tmp 49) 31 rfl _ _ _ _ rfl rfl HR6.out ?_))
  have HGB : Hid (w1.heap.size < W6.heap.size) := Hid.mk HRC.out.nam.lt
  generalize w1.heap.size = gn at *
  generalize gn + 1 = gs at *
  clear HM1 HM2 HRX HRY HR6 HB1 HD HIN c0 c1 c2 c3 c4 c5 s0 s1 k0 k1 k2 k3
  go_loopw [7, 8, 11] (fun bv v i wr => ∃ k : Nat, k ≤ 1 ∧ i = .int .i64 k ∧ bv = .bool true ∧ v = .slice (some ⟨go, 0, none⟩) 1 co ∧ RcAt w d g n G I D xs gn gs go (N + 1) (2 * k) wr) (fun _ _ i _ => 1 - (intOf i).toNat)
  case atStart => exact ⟨0, by omega, rfl, rfl, rfl, HRC.out⟩
  case round =>
    obtain ⟨k, hk, rfl, rfl, rfl, hrc⟩ := hrel
    obtain ⟨m0, m1, m2, m3⟩ := hrc.cells (by omega)
    have HR1 := Hid.mk hrc
    clear hrc HRC
    obtain rfl | rfl : k = 0 ∨ k = 1 := by omega
    · go_wp2_with (first
        | (go_at_call 19; refine (HI.out _ HR1.out.dk).mono ?_; rintro e w3 ⟨rfl, hB3⟩; obtain ⟨X3, Y3, b3, hrX, hrY, hNY, hBY⟩ := var_root w3 I; have HR3 := Hid.mk ((HR1.out.new hB3).new hBY); obtain ⟨c0, c1, c2, c3, c4, c5⟩ := nat_root hNY; have HRX := Hid.mk hrX; have HRY := Hid.mk hrY; have HNY := Hid.mk hNY; clear hrX hrY hNY hBY hB3)
        | (refine Din.wpL_alloc rfl rfl _ X3 HRX.out ?_)
        | (refine Din.wpL_store (.tmp 12) (.tmp 64) rfl rfl _ _ Y3 rfl rfl HRY.out ?_)
        | (refine Din.wpL_load (.tmp 12) rfl rfl b3 (rootL I) rfl HNY.out rfl ?_)
        | (go_at_call 38; refine (HE.out _ HR3.out.dk).mono ?_; rintro e w5 ⟨ao, c, rfl, hea, hge, hB5⟩; have HR5 := Hid.mk (HR3.out.new hB5); obtain ⟨ae, hae, -, -⟩ := hea.at 0 (by omega); subst hae; have HEA := Hid.mk hea; have HNE : Hid (ae.block ≠ gn) := Hid.mk (by have h1 := hge ae rfl; have h2 := HR3.out.nam.lt; omega); clear hea hge hB5))
      have HDC : Hid (∀ (W : World) (j : Nat), EAt W (some ae) 2 dotsL → j < 2 → W.cell? (ae.add (j * 2)) = some (.int .i64 1)) := Hid.mk (fun W j he hj => by
        obtain ⟨a', e', -, hc⟩ := he.2 (by omega)
        cases e'
        rw [(hc j hj).1]
        obtain rfl | rfl : j = 0 ∨ j = 1 := by omega
        · rfl
        · rfl)
      clear HRX HRY HNY HR1 HR3 m0 m1 m2 m3 c0 c1 c2 c3 c4 c5 HE
      go_loopw [7, 8, 15] (fun bv v i wr => ∃ j : Nat, j ≤ 2 ∧ i = .int .i64 j ∧ bv = .bool true ∧ v = .slice (some ⟨go, 0, none⟩) 1 co ∧ RcAt w d g n G I D xs gn gs go (N + 1) j wr ∧ EAt wr (some ae) 2 dotsL) (fun _ _ i _ => 2 - (intOf i).toNat)
      case atStart => exact ⟨0, by omega, rfl, rfl, rfl, HR5.out, HEA.out⟩
      case round =>
        obtain ⟨j, hj, rfl, rfl, rfl, hrc, hea⟩ := hrel
        have HR6 := Hid.mk hrc
        have HEA6 := Hid.mk hea
        clear hrc hea HR5 HEA
        by_cases hlt : j < 2
        · have hc6 := HDC.out _ j HEA6.out hlt
          go_wp2_with (first
            | (go_at_call 19; refine (HI.out _ HR6.out.dk).mono ?_; rintro e w7 ⟨rfl, hB7⟩; obtain ⟨X7, Y7, b7, hrX, hrY, hNY, hBY⟩ := var_root w7 I; have HR7 := Hid.mk ((HR6.out.new hB7).new hBY); have HEA7 := Hid.mk ((HEA6.out.below hB7).below hBY); obtain ⟨c0, c1, c2, c3, c4, c5⟩ := nat_root hNY; obtain ⟨m0, m1, m2, m3⟩ := HR7.out.cells (by omega); have HRX := Hid.mk hrX; have HRY := Hid.mk hrY; have hc7 := HDC.out _ j HEA7.out hlt; have HR8 := Hid.mk (HR7.out.bump (j + 1)); have HEA8 := Hid.mk (HEA7.out.only ((Only.refl (fun k => k = gn) Y7).setCell (p := ⟨gn, 1, none⟩) (.inl rfl) (.int .i64 (j + 1))) (fun a e _ => by cases e; exact HNE.out)); have hc8 := HDC.out _ j HEA8.out hlt; have hm8 := (HR8.out.cells (by omega)).2.2.1; clear hrX hrY hNY hBY hB7)
            | (refine Din.wpL_alloc rfl rfl _ X7 HRX.out ?_)
            | (refine Din.wpL_store (.tmp 16) (.tmp 86) rfl rfl _ _ Y7 rfl rfl HRY.out ?_))
          go_roundw
          case rel => exact ⟨j + 1, by omega, by go_num, rfl, rfl, HR8.out, HEA8.out⟩
          case measure => simp [intOf]; omega
        · obtain rfl : j = 2 := by omega
          go_wp2
          go_roundw
          case rel => exact ⟨1, by omega, by go_num, rfl, rfl, HR6.out⟩
          case measure => simp [intOf]
    · go_wp2
      refine bodyPost_ret (v := .tuple #[.slice (some ⟨go, 0, none⟩) 1 co, .slice (some ⟨gn, 0, none⟩) (N + 1) (N + 1), .bool true]) (by simp [results, Tryz.results18, go_sem]) rfl ⟨go, co, gn, gs, rfl, HR1.out⟩
end Mk
end Go.Proofs.YtejnmpnioeamhaaGreat
