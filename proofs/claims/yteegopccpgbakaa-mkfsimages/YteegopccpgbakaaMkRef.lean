/-
  What the reference's Mkfs makes.
-/
import Derived.Test.YteegopccpgbakaaMkImage
namespace Go.Proofs.Yteegopccpgbakaa
open Go Go.Proofs Go.RowKit Go.Shelf
namespace Mk
open Sup (superL headL maskL nI nD copy_run append_row_run)
open Din (inoL fineL inoV)
open Ent (blockL okB)
theorem mask_zero (N size : Nat) : maskL [0] N size = maskL [] N size := by
  unfold maskL
  apply List.map_congr_left
  intro i _
  have e : ([0] : List Int).getD i 0 = ([] : List Int).getD i 0 := by
    cases i <;> rfl
  rw [e]
theorem head_zero (k I D : Int) : headL k I D [0] [0] = headL k I D [] [] := by
  unfold headL
  rw [mask_zero, mask_zero]
/-- copy(b[o:], c), b a row of one's own with room behind its end. -/
theorem copy_own (W : World) (B g n cap o m c : Nat) (xs ys : List Int) (ao : Option Addr) (hown : W.ownsRow B 5 1 (.slice (some ⟨g, 0, none⟩) n cap) n (By xs)) (hb : BAt W ao m ys) (hm : 0 < m) (ho : o + m ≤ n) :
    ∃ W', (Builtin.copy_ #[26, 26] 3 #[.slice (some ⟨g, o, none⟩) (n - o) (cap - o), .slice ao m c]).run Try.prog W = .ok (.int .i64 m) W' ∧ W'.ownsRow B 5 1 (.slice (some ⟨g, 0, none⟩) n cap) n (By (splice xs o ys)) ∧ Only (fun k => k = g) W W' := by
  obtain ⟨i0, hi, hz0, hz1, hz2⟩ := info5p
  obtain ⟨a, rfl, -, hcell⟩ := hb.2 hm
  obtain ⟨h1, h2⟩ := hown
  rcases h2 with h2 | ⟨g', cap', cur, hv, hg, hh, hnc, hmx, hsz, ht⟩
  · simp at h2
  · simp only [Value.slice.injEq, Option.some.injEq, Addr.mk.injEq] at hv
    obtain ⟨⟨rfl, -, -⟩, -, rfl⟩ := hv
    have hyl := hb.1
    have hxl : xs.length = n := by rw [By_length] at h1; omega
    have hmin : Nat.min m (n - o) = m := Nat.min_eq_left (by omega)
    have hcl0 : (By ys).length = m := by rw [By_length, hyl]
    have hcl : (By ys).length = Nat.min m (n - o) := by rw [hmin, hcl0]
    have hr := run_copy_row (P := Try.prog) W 26 26 3 5 g o (n - o) (cap - o) a m c cur 5 (By ys) Try.underlying26 (by rw [hi]; simp [hz1]) hh hcl (fun j u hj => by
      have hjl := (List.getElem?_eq_some_iff.1 hj).1
      rw [By_length] at hjl
      rw [By_get _ j hjl] at hj
      rw [hcell j (by omega)]
      exact hj) (by rw [hcl0]; omega) (By_one _)
    rw [hcl0] at hr
    refine ⟨W.setRow g (cur.toList.take o ++ By ys ++ cur.toList.drop (o + m)).toArray, hr, ⟨?_, .inr ⟨g, cap, _, rfl, hg, setRow_heap W g _ _ 5 _ hh, hnc, hmx, ?_, ?_⟩⟩, (Only.refl (fun k => k = g) W).setRow (.inl rfl) _⟩
    · rw [By_length, splice_length _ _ _ (by omega), hxl, Nat.mul_one]
    · simp [hcl0]
      omega
    · rw [Nat.mul_one] at ht ⊢
      have e1 : cur.toList.take o = (By xs).take o := by rw [← ht, List.take_take, Nat.min_eq_left (by omega)]
      have e2 : (cur.toList.drop (o + m)).take (n - (o + m)) = (By xs).drop (o + m) := by rw [← ht, List.drop_take]
      have e3 : ((By xs).take o).length = o := by rw [List.length_take, h1]; omega
      have e4 : n - o - m = n - (o + m) := by omega
      rw [e1, List.append_assoc, List.take_append, e3, List.take_of_length_le (by rw [e3]; omega), List.take_append, hcl0, List.take_of_length_le (l := By ys) (by rw [hcl0]; omega), e4, e2]
      unfold splice
      simp [By, hyl]
/-- append(b, x...), as a step. -/
theorem grow_row (W : World) (w : World) (B : Nat) (v : Value) (n : Nat) (xs : List Int) (hB : B ≤ w.heap.size) (hown : W.ownsRow B 5 1 v n (By xs)) (hbw : Below B w W) (x : Value) (W4 : World) (hb4 : Below W.heap.size W W4) (ys : List Int) (hx : W4.ownsRow W.heap.size 5 1 x 1024 (By ys)) (hn : n + 1024 ≤ 16777216) :
    ∃ v' W5, (Builtin.append_ #[26, 26] 26 #[v, x]).run Try.prog W4 = .ok v' W5 ∧ W5.ownsRow B 5 1 v' (n + 1024) (By (xs ++ ys)) ∧ Below B w W5 := by
  obtain ⟨ao2, c2, rfl, hb2, -, hne⟩ := owns_BAt hx
  have hsz : B ≤ W.heap.size := Nat.le_trans hB hbw.size
  have ho4 : W4.ownsRow B 5 1 v n (By xs) := owns_at hown (fun j hj => hb4.block j (hown.lt j hj).2)
  cases ao2 with
  | none => exact absurd rfl (hne (by omega))
  | some a2 =>
    obtain ⟨v', W5, h1, h2, h3⟩ := append_row_run W4 B v n xs ho4 (Nat.le_trans hsz hb4.size) a2 1024 c2 ys hb2 hn
    exact ⟨v', W5, h1, h2, (hbw.trans (hb4.mono hsz)).grown h3 (Nat.le_trans hsz hb4.size) (fun j hj => (hown.lt j hj).1)⟩
/-- The reference's row of bytes, between two rounds. -/
structure RfAt (w : World) (v : Value) (n : Nat) (G I D : Int) (xs : List Int) (W : World) : Prop where
  row : W.ownsRow (w.heap.size + 1) 5 1 v n (By xs)
  geo : GAt w.heap.size G I D W
  below : Below w.heap.size w W
theorem RfAt.start {w w1 : World} {G I D : Int} {v : Value} {n : Nat} {xs : List Int} (hB : Below (w.alloc (.cells #[.int .i64 G, .int .i64 I, .int .i64 D] 23)).heap.size (w.alloc (.cells #[.int .i64 G, .int .i64 I, .int .i64 D] 23)) w1) (ho : w1.ownsRow (w.alloc (.cells #[.int .i64 G, .int .i64 I, .int .i64 D] 23)).heap.size 5 1 v n (By xs)) : RfAt w v n G I D xs w1 := by
  obtain ⟨h1, h2⟩ := behind hB
  exact ⟨by simpa using ho, h1, h2⟩
theorem RfAt.later {w W W' : World} {G I D : Int} {v : Value} {n : Nat} {xs : List Int} (h : RfAt w v n G I D xs W) (hB : Below W.heap.size W W') : RfAt w v n G I D xs W' :=
  ⟨owns_at h.row (fun j hj => hB.block j (h.row.lt j hj).2), h.geo.below hB h.geo.lt, h.below.trans (hB.mono h.below.size)⟩
/-- One row more. -/
theorem RfAt.grow {w W W4 : World} {G I D : Int} {v x : Value} {n : Nat} {xs ys : List Int} (h : RfAt w v n G I D xs W) (hb4 : Below W.heap.size W W4) (hx : W4.ownsRow W.heap.size 5 1 x 1024 (By ys)) (hn : n + 1024 ≤ 16777216) :
    ∃ v' W5, (Builtin.append_ #[26, 26] 26 #[v, x]).run Try.prog W4 = .ok v' W5 ∧ RfAt w v' (n + 1024) G I D (xs ++ ys) W5 := by
  have hlt := h.geo.lt
  have h4 := h.later hb4
  obtain ⟨v', W5, h1, h2, h3⟩ := grow_row W W (w.heap.size + 1) v n xs (by omega) h.row (Below.refl _ _) x W4 hb4 ys hx hn
  exact ⟨v', W5, h1, h2, h.geo.below h3 (by omega), h.below.trans (h3.mono (by omega))⟩
/-- Noughts behind it. -/
theorem RfAt.zero {w W : World} {G I D : Int} {v : Value} {n m : Nat} {xs : List Int} (h : RfAt w v n G I D xs W) (hn : n + m ≤ 16777216) :
    ∃ v' W5, (Builtin.append_ #[26, 3] 26 #[v, .int .i64 m]).run Try.prog W = .ok v' W5 ∧ RfAt w v' (n + m) G I D (xs ++ zeros m) W5 := by
  have hlt := h.geo.lt
  obtain ⟨v', W5, h1, h2, h3⟩ := append_zeros_any W (w.heap.size + 1) v n m xs h.row (by omega) hn
  exact ⟨v', W5, h1, h2, h.geo.below h3 (by omega), h.below.trans (h3.mono (by omega))⟩
/-- A row copied into it. -/
theorem RfAt.copy {w W W4 : World} {G I D : Int} {g n cap o m c : Nat} {xs ys : List Int} {ao : Option Addr} (h : RfAt w (.slice (some ⟨g, 0, none⟩) n cap) n G I D xs W) (hb4 : Below W.heap.size W W4) (hy : BAt W4 ao m ys) (hm : 0 < m) (ho : o + m ≤ n) :
    ∃ W5, (Builtin.copy_ #[26, 26] 3 #[.slice (some ⟨g, o, none⟩) (n - o) (cap - o), .slice ao m c]).run Try.prog W4 = .ok (.int .i64 m) W5 ∧ RfAt w (.slice (some ⟨g, 0, none⟩) n cap) n G I D (splice xs o ys) W5 := by
  have h4 := h.later hb4
  have hge := (h4.row.lt g rfl).1
  obtain ⟨W5, h1, h2, h3⟩ := copy_own W4 _ g n cap o m c xs ys ao h4.row hy hm ho
  exact ⟨W5, h1, h2, (h3.block _ h4.geo.lt (by omega)).trans h4.geo, h4.below.trans (h3.below h4.below.size (fun k e => by omega))⟩
theorem on_start (W : World) (x : Int) (b : Nat) (hb : b = W.heap.size) : BAt (W.alloc (.cells #[.int .u8 x] 5)) (some ⟨b, 0, none⟩) 1 [x] := by
  subst hb
  exact RAt.full (blk_new W _) rfl
set_option maxRecDepth 100000 in
set_option maxHeartbeats 1000000 in
theorem rmkfs_any (w : World) (G I D : Int) (hg : good G I D = true) : Calls Try.prog 8 #[geo G I D] w fun e w' => ∃ v, e = .returned v ∧ w'.ownsRow w.heap.size 5 1 v (totN G I D * 1024) (By (imgL G I D)) ∧ Below w.heap.size w w' := by
  have hb := good_iff.1 hg
  obtain ⟨-, t2, t3, t4⟩ := tot_is hg
  obtain ⟨N, rfl⟩ : ∃ N : Nat, G = (N : Int) := ⟨G.toNat, by omega⟩
  obtain ⟨i, rfl⟩ : ∃ i : Nat, I = (i : Int) := ⟨I.toNat, by omega⟩
  obtain ⟨d, rfl⟩ : ∃ d : Nat, D = (d : Int) := ⟨D.toNat, by omega⟩
  have HG := Hid.mk hg
  have hp : perN (i : Int) (d : Int) = 1 + i + d := by unfold perN; omega
  have HP := Hid.mk hp
  have HN1 : Hid (totN N i d = 1 + N * (1 + i + d)) := Hid.mk (by unfold totN; rw [hp]; simp)
  have HF := Hid.mk (fine_root i (by omega) (by omega))
  obtain ⟨q, hq⟩ : ∃ q : Nat, q = 2 + i := ⟨_, rfl⟩
  have HQ := Hid.mk hq
  have HD : Hid (∀ W : World, Calls Try.prog 17 #[geo N i d, .int .i64 0] W fun e w' => e = .returned (.tuple #[.int .i64 (q : Int), .bool true]) ∧ Below W.heap.size W w') := Hid.mk (fun W => by
    have h := rdata_any W N i d 0
    rw [(da_zero hg).1, (da_zero hg).2] at h
    rwa [show ((2 + (i : Int)).toNat : Int) = q by omega] at h)
  have HPI : Hid (∀ W : World, Calls Try.prog 19 #[inoV [2, 2, 1024, (q : Int), 0, 0, 0, 0, 0, 0, 0, 0, 0]] W fun e w' => ∃ ao c, e = .returned (.tuple #[.slice ao 64 c, .bool true]) ∧ BAt w' ao 64 (inoL (rootL i)) ∧ Below W.heap.size W w') := Hid.mk (fun W => by
    have h := Din.rpack_yes W (rootL i) rfl HF.out
    rwa [show rootL (i : Int) = [2, 2, 1024, (q : Int), 0, 0, 0, 0, 0, 0, 0, 0, 0] by unfold rootL; rw [show (2 + (i : Int)) = q by omega]] at h ⊢)
  have HI : Hid (∀ W : World, Calls Try.prog 18 #[geo N i d, .int .i64 1] W fun e w' => e = .returned (.tuple #[.int .i64 2, .int .i64 0, .bool true]) ∧ Below W.heap.size W w') := Hid.mk (fun W => by
    have h := rinodeat_any W N i d 1
    rwa [(ia_one hg).1, (ia_one hg).2.1, (ia_one hg).2.2] at h)
  obtain ⟨hN1, hN8, hi1, hi4, hd8, hd1⟩ : 1 ≤ N ∧ N ≤ 8 ∧ 1 ≤ i ∧ i ≤ 4 ∧ 8 ≤ d ∧ d ≤ 1000 := by omega
  have HT3 := Hid.mk t3
  have HT4 := Hid.mk t4
  have hq6 : 3 ≤ q ∧ q ≤ 6 := by omega
  clear hg hb hp t2 t3 t4 hq
  go_enter Try.func8, Try.ntmps8
  go_wp2_with (go_at_call 15; refine (Sup.packsuper_any _ N i d HG.out).mono ?_; rintro e w1 ⟨v, rfl, hrow, hB⟩; have HS := Hid.mk (RfAt.start hB hrow); clear hB hrow)
  go_loopw [3, 4] (fun v j wr => ∃ k : Nat, k ≤ N ∧ j = .int .i64 k ∧ RfAt w v ((1 + k * (1 + i + d)) * 1024) N i d (refL N i d k) wr) (fun _ j _ => N - (intOf j).toNat)
  case atStart => exact ⟨0, by omega, rfl, by simpa [refL] using HS.out⟩
  case round =>
    obtain ⟨k, hk, rfl, hrf⟩ := hrel
    obtain ⟨c0, c1, c2⟩ := hrf.geo.g3
    have HRF := Hid.mk hrf
    clear hrf HS
    by_cases hlt : k < N
    · have HSM : Hid ((k + 1) * (1 + i + d) = k * (1 + i + d) + (1 + i + d)) := Hid.mk (Nat.succ_mul _ _)
      have HLE : Hid ((1 + (k + 1) * (1 + i + d)) * 1024 ≤ 16777216) := Hid.mk (by
        have h1 := HT3.out
        have h2 : (k + 1) * (1 + i + d) ≤ N * (1 + i + d) := Nat.mul_le_mul_right _ (by omega)
        rw [HN1.out] at h1
        omega)
      have HE : Hid (refL N i d (k + 1) = (refL N i d k ++ headL k i d (onL k) (onL k)) ++ zeros ((i + d) * 1024)) := Hid.mk (by
        rw [refL, show ((i : Int) + d).toNat = i + d by omega])
      -- what both ways do behind 'on'
      have HST : Hid (∀ (W2 W4 : World) (x : Value) (os : List Int), Below wr.heap.size wr W2 → Below W2.heap.size W2 W4 → headL k i d os os = headL k i d (onL k) (onL k) → W4.ownsRow W2.heap.size 5 1 x 1024 (By (headL k i d os os)) →
          ∃ v5 W5, (Builtin.append_ #[26, 26] 26 #[u3, x]).run Try.prog W4 = .ok v5 W5 ∧ GAt w.heap.size N i d W5 ∧ ∃ v6 W6, (Builtin.append_ #[26, 3] 26 #[v5, .int .i64 ((i + d) * 1024)]).run Try.prog W5 = .ok v6 W6 ∧ RfAt w v6 ((1 + (k + 1) * (1 + i + d)) * 1024) N i d (refL N i d (k + 1)) W6) := Hid.mk (fun W2 W4 x os hb2 hb4 hos hx => by
        have h1 := HLE.out
        have h2 := HSM.out
        have hr2 := HRF.out.later hb2
        obtain ⟨v5, W5, r5, h5⟩ := hr2.grow hb4 hx (by omega)
        obtain ⟨v6, W6, r6, h6⟩ := h5.zero (m := (i + d) * 1024) (by omega)
        rw [hos, ← HE.out, show (1 + k * (1 + i + d)) * 1024 + 1024 + (i + d) * 1024 = (1 + (k + 1) * (1 + i + d)) * 1024 by omega] at h6
        refine ⟨v5, W5, r5, h5.geo, v6, W6, ?_, h6⟩
        rw [← r6]
        simp)
      have HPH : Hid (∀ (x : Int) (kI : Int) (W2 : World) (b : Nat), kI = k → 0 ≤ x ∧ x ≤ 255 → headL k i d [x] [x] = headL k i d (onL k) (onL k) → Below wr.heap.size wr W2 → BAt W2 (some ⟨b, 0, none⟩) 1 [x] →
          Calls Try.prog 16 #[geo N i d, .int .i64 kI, .slice (some ⟨b, 0, none⟩) 1 1, .slice (some ⟨b, 0, none⟩) 1 1] W2 fun e W4 => ∃ y, e = .returned y ∧
          ∃ v5 W5, (Builtin.append_ #[26, 26] 26 #[u3, y]).run Try.prog W4 = .ok v5 W5 ∧ GAt w.heap.size N i d W5 ∧ ∃ v6 W6, (Builtin.append_ #[26, 3] 26 #[v5, .int .i64 ((i + d) * 1024)]).run Try.prog W5 = .ok v6 W6 ∧ RfAt w v6 ((1 + (k + 1) * (1 + i + d)) * 1024) N i d (refL N i d (k + 1)) W6) := Hid.mk (fun x kI W2 b hkI hx hos hb2 hon => by
        subst hkI
        refine (Sup.packhead_any W2 N i d k HG.out (by omega) (by omega) _ _ 1 1 1 1 [x] [x] hon hon (by simpa using hx) (by simpa using hx)).mono ?_
        rintro e W4 ⟨y, rfl, hrow, hB⟩
        exact ⟨y, rfl, HST.out W2 W4 y [x] hb2 hB hos hrow⟩)
      clear HST
      by_cases h0 : k = 0
      · subst h0
        have HB2 : Hid (Below wr.heap.size wr ((wr.alloc (.cells #[.int .u8 0] 5)).alloc (.cells #[.int .u8 1] 5))) := Hid.mk (((Below.refl _ wr).alloc (Nat.le_refl _) _).alloc (by simp) _)
        have HON := Hid.mk (on_start (wr.alloc (.cells #[.int .u8 0] 5)) 1 (wr.heap.size + 1) (by simp))
        obtain ⟨d0, d1, d2⟩ := (HRF.out.later HB2.out).geo.g3
        have HC := Hid.mk (HPH.out 1 0 _ _ rfl (by omega) rfl HB2.out HON.out)
        clear HB2 HON HPH
        go_wp2_with (first
          | (go_at_call 16; refine HC.out.mono ?_; rintro e W4 ⟨x, rfl, v5, W5, r5, hG5, v6, W6, r6, h6⟩; obtain ⟨e0, e1, e2⟩ := hG5.g3; have HR5 := Hid.mk r5; have HR6 := Hid.mk r6; have H6 := Hid.mk h6; clear r5 hG5 r6 h6)
          | (at_builtin; refine wpList_append_known rfl (.tmp 27) (.tmp 32) 26 rfl _ _ _ _ rfl rfl HR5.out ?_)
          | (at_builtin; refine wpList_appendz_known rfl (.tmp 34) (.tmp 40) 26 3 rfl _ _ _ _ rfl rfl HR6.out ?_))
        go_roundw
        case rel => exact ⟨1, by omega, by go_num, H6.out⟩
        case measure => simp [intOf]; omega
      · have HB2 : Hid (Below wr.heap.size wr (wr.alloc (.cells #[.int .u8 0] 5))) := Hid.mk ((Below.refl _ wr).alloc (Nat.le_refl _) _)
        have HON := Hid.mk (on_start wr 0 wr.heap.size rfl)
        obtain ⟨d0, d1, d2⟩ := (HRF.out.later HB2.out).geo.g3
        have HC := Hid.mk (HPH.out 0 k _ _ rfl (by omega) (by rw [head_zero, onL, if_neg h0]) HB2.out HON.out)
        have hk0 : ¬ (k : Int) = 0 := by omega
        clear HB2 HON HPH
        go_wp2_with (first
          | (go_at_call 16; refine HC.out.mono ?_; rintro e W4 ⟨x, rfl, v5, W5, r5, hG5, v6, W6, r6, h6⟩; obtain ⟨e0, e1, e2⟩ := hG5.g3; have HR5 := Hid.mk r5; have HR6 := Hid.mk r6; have H6 := Hid.mk h6; clear r5 hG5 r6 h6)
          | (at_builtin; refine wpList_append_known rfl (.tmp 27) (.tmp 32) 26 rfl _ _ _ _ rfl rfl HR5.out ?_)
          | (at_builtin; refine wpList_appendz_known rfl (.tmp 34) (.tmp 40) 26 3 rfl _ _ _ _ rfl rfl HR6.out ?_))
        go_roundw
        case rel => exact ⟨k + 1, by omega, by go_num, H6.out⟩
        case measure => simp [intOf]; omega
    · obtain rfl : k = N := by omega
      obtain ⟨n, hn⟩ : ∃ n, n = (1 + k * (1 + i + d)) * 1024 := ⟨_, rfl⟩
      have HNE : Hid (n = totN k i d * 1024) := Hid.mk (by rw [hn, HN1.out])
      have hrf := HRF.out
      rw [← hn] at hrf
      have hn3 : 11 * 1024 ≤ n ∧ n ≤ 16777216 ∧ (q + 1) * 1024 ≤ n := by
        have h1 := HT3.out
        have h2 := HT4.out
        rw [← HNE.out] at h1
        have h3 := HQ.out
        have h4 : 1 * (1 + i + d) ≤ k * (1 + i + d) := Nat.mul_le_mul_right _ (by omega)
        rw [HN1.out] at h2
        omega
      obtain ⟨hn3, hn4, hn5⟩ := hn3
      clear hn
      rcases hrf.row.2 with ⟨-, h0⟩ | ⟨g, cap, cur, rfl, -, -, hcap, hmx, -⟩
      · omega
      unfold maxLen at hmx
      have HRF1 := Hid.mk hrf
      have HIM : Hid (imgL k i d = splice (splice (refL k i d k) 2048 (inoL (rootL i))) (q * 1024) (blockL dotsL)) := Hid.mk (by
        unfold imgL
        rw [show ((k : Int)).toNat = k by omega, show (2 + (i : Int)).toNat = q by have := HQ.out; omega])
      clear hrf HRF
      go_wp2_with (first
        | (go_at_call 17; refine (HD.out _).mono ?_; rintro e w1 ⟨rfl, hB⟩; have h2 := HRF1.out.later hB; obtain ⟨d0, d1, d2⟩ := h2.geo.g3; have HRF2 := Hid.mk h2; clear h2 hB HRF1)
        | (go_at_call 18; refine (HI.out _).mono ?_; rintro e w2 ⟨rfl, hB⟩; have HRF3 := Hid.mk (HRF2.out.later hB); clear hB HRF2)
        | (go_at_call 19; refine (HPI.out _).mono ?_; rintro e w3 ⟨ao, c, rfl, hbt, hB⟩; obtain ⟨W5, r5, h5⟩ := HRF3.out.copy (o := 2048) (c := c) hB hbt (by omega) (by omega); have HR5 := Hid.mk r5; have HRF4 := Hid.mk h5; clear hB HRF3 hbt r5 h5)
        | (go_at_call 20; refine (Ent.rpblock_yes _ _ _ _ dotsL (eat_dots _ _ _ (by simp)) dots_short ok_dots).mono ?_; rintro e w4 ⟨ao, c, rfl, hbt, hB⟩; obtain ⟨W6, r6, h6⟩ := (HRF4.out.later ((Below.refl _ _).alloc (Nat.le_refl _) _)).copy (o := q * 1024) (c := c) hB hbt (by omega) (by omega); have HR6 := Hid.mk r6; have HRF5 := Hid.mk h6; clear hB HRF4 hbt r6 h6)
        | (refine wpList_copy_known rfl (.tmp 65) (.tmp 66) 26 26 rfl _ _ _ _ rfl rfl HR5.out ?_)
        | (refine wpList_copy_known rfl (.tmp 78) (.tmp 79) 26 26 rfl _ _ _ _ rfl rfl HR6.out ?_))
      go_ret
      have h := HRF5.out
      rw [← HIM.out] at h
      exact ⟨_, rfl, by rw [← HNE.out]; exact owns_base h.row (by omega), h.below⟩
end Mk
end Go.Proofs.Yteegopccpgbakaa
