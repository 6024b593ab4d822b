/-
  The entries of the root, and what is reached.
-/
import Derived.Test.YtejnmpnioeamhaaGreatWhTree
namespace Go.Proofs.YtejnmpnioeamhaaGreat
open Go Go.Proofs Go.RowKit Go.Shelf
namespace Mk
open Sup (superL headL maskL nI nD)
open Din (inoL fineL inoV NAt)
open Ent (blockL okB EAt Ey entV noS noE)
theorem free_at (j : Nat) (h2 : 2 ≤ j) : freeL.getD j noE = (0, noS) := by
  unfold freeL dotsL noE
  rw [List.getD_eq_getElem?_getD, List.getElem?_append_right (by simp; omega), List.getElem?_replicate]
  split <;> rfl
/-- Those of the first j entries that are in use. -/
def usedL (j : Nat) : List (Int × ByteArray) := dotsL.take j
set_option maxRecDepth 100000 in
set_option maxHeartbeats 4000000 in
theorem dentries_root (w : World) (d g n : Nat) (G I D : Int) (hg : good G I D = true) (xs : List Int) (h : DkAt d g n G I D xs w) (hx : ImgIs G I D xs) (hn : n = totN G I D * 1024) :
    Calls Tryz.prog 38 #[.pointer (some ⟨d, 0, none⟩), inoV (rootL I)] w fun e w' => ∃ ao c, e = .returned (.slice ao 2 c) ∧ EAt w' ao 2 dotsL ∧ (∀ a, ao = some a → w.heap.size ≤ a.block) ∧ Below w.heap.size w w' := by
  obtain ⟨t1, t2, t3, t4⟩ := tot_is hg
  rw [← hn] at t3
  have hb := good_iff.1 hg
  obtain ⟨q, hq⟩ : ∃ q : Nat, q = (2 + I).toNat := ⟨_, rfl⟩
  have hq2 : (q : Int) = 2 + I := by omega
  have hqn : (q + 1) * 1024 ≤ n := by omega
  have hq0 : 3 ≤ q ∧ q ≤ 6 := by omega
  have hB0 : Below w.heap.size w (w.alloc (.cells (Iy (rootL I)).toArray 55)) := (Below.refl _ w).alloc (Nat.le_refl _) _
  have HB0 := Hid.mk hB0
  have HN0 := Hid.mk (NAt.new w (rootL I))
  have HD0 := Hid.mk (h.new hB0)
  have HLD : Hid (∀ W : World, DkAt d g n G I D xs W → Calls Tryz.prog 78 #[.pointer (some ⟨d, 0, none⟩), inoV (rootL I), .int .i64 0] W fun e w' => e = .returned (.int .i64 (q : Int)) ∧ Below W.heap.size W w') := Hid.mk (fun W hd => by
    rw [hq2]
    exact lead_zero W d g n G I D hg xs hd)
  have HEN : Hid (∀ W : World, DkAt d g n G I D xs W → Calls Tryz.prog 79 #[.slice (some ⟨g, q * 1024, none⟩) 1024 (n - q * 1024)] W fun e w' => ∃ ap cp, e = .returned (.slice ap 32 cp) ∧ EAt w' ap 32 freeL ∧ Below W.heap.size W w') := Hid.mk (fun W hd => by
    have hba := hd.row.bat (q * 1024) 1024 (by rw [hx.len, ← hn]; omega)
    have hp := hx.dots
    rw [← hq] at hp
    unfold piece at hp
    rw [hp] at hba
    have h := Ent.rents_any W (some ⟨g, q * 1024, none⟩) 1024 (n - q * 1024) _ hba dots_bound (by omega) (by omega)
    rwa [ents_dots] at h)
  clear h hx hg hb hq hq2 hB0 t1 t2 t4 hn
  obtain ⟨B, hBe⟩ : ∃ B, B = w.heap.size := ⟨_, rfl⟩
  have HBE := Hid.mk hBe
  rw [← hBe] at HB0 HN0 ⊢
  clear hBe
  go_enter Tryz.func38, Tryz.ntmps38
  obtain ⟨c0, c1, c2, c3, c4, c5⟩ := nat_root HN0.out
  go_wp2_with (first
    | (refine Din.wpL_box (.tmp 1) rfl rfl (rootL I) rfl ?_; rw [← HBE.out])
    | (go_at_call 77; refine (count_block _).mono ?_; rintro e w1 ⟨rfl, hw⟩; subst w1))
  go_loopw [5, 7] (fun v i wr => ∃ k : Nat, k ≤ 1 ∧ i = .int .i64 k ∧ (k = 0 → v = .slice none 0 0) ∧ (k = 1 → ∃ ao c, v = .slice ao 2 c ∧ EAt wr ao 2 dotsL ∧ ∀ a, ao = some a → B ≤ a.block) ∧ NAt B (rootL I) wr ∧ DkAt d g n G I D xs wr ∧ Below B w wr) (fun _ i _ => 1 - (intOf i).toNat)
  case atStart => exact ⟨0, by omega, rfl, fun _ => rfl, fun h => by omega, HN0.out, HD0.out, HB0.out⟩
  case round =>
    obtain ⟨k, hk, rfl, hv0, hv1, hna, hdk, hbl⟩ := hrel
    clear c0 c1 c2 c3 c4 c5
    obtain ⟨c0, c1, c2, c3, c4, c5⟩ := nat_root hna
    have HN1 := Hid.mk hna
    have HD1 := Hid.mk hdk
    have HB1 := Hid.mk hbl
    clear hna hdk hbl HN0 HD0 HB0
    obtain rfl | rfl : k = 0 ∨ k = 1 := by omega
    · have hv := hv0 rfl
      subst hv
      clear hv0 hv1
      go_wp2_with (first
        | (refine Din.wpL_load (.tmp 3) rfl rfl B (rootL I) rfl HN1.out rfl ?_)
        | (go_at_call 78; refine (HLD.out _ HD1.out).mono ?_; rintro e w2 ⟨rfl, hB⟩; have HD2 := Hid.mk (HD1.out.new hB); have HB2 := Hid.mk hB; clear hB)
        | (go_at_call 49; refine (dblock_any _ d g n G I D xs HD2.out q hqn t3).mono ?_; rintro e w3 ⟨rfl, hw⟩; subst w3)
        | (go_at_call 79; refine (HEN.out _ HD2.out).mono ?_; rintro e w4 ⟨ap, cp, rfl, hea, hB⟩; have HEA := Hid.mk hea; have HB4 := Hid.mk hB; have HD4 := Hid.mk (HD2.out.new hB); clear hB hea))
      obtain ⟨ae, hae, -, -⟩ := HEA.out.at 0 (by omega)
      subst hae
      obtain ⟨B4, hB4⟩ : ∃ B4, B4 = w4.heap.size := ⟨_, rfl⟩
      have HE4 : Hid (∀ W : World, Below B4 w4 W → EAt W (some ae) 32 freeL) := Hid.mk (fun W hB => HEA.out.below (by rw [hB4] at hB; exact hB))
      have HBS : Hid (B4 ≤ w4.heap.size) := Hid.mk (by omega)
      have HBB : Hid (B ≤ B4) := Hid.mk (by have h1 := HN1.out.lt; have h2 := HB2.out.size; have h3 := HB4.out.size; omega)
      have HBW : Hid (∀ W : World, Below B4 w4 W → NAt B (rootL I) W ∧ DkAt d g n G I D xs W ∧ Below B w W) := Hid.mk (fun W hB => by
        rw [hB4] at hB
        have hbb := HB1.out.trans (HB2.out.mono (Nat.le_of_lt HN1.out.lt))
        have hlt2 := Nat.lt_of_lt_of_le HN1.out.lt HB2.out.size
        have hlt4 := Nat.lt_of_lt_of_le hlt2 HB4.out.size
        exact ⟨((HN1.out.below HB2.out HN1.out.lt).below HB4.out hlt2).below hB hlt4, HD4.out.new hB, (hbb.trans (HB4.out.mono (Nat.le_of_lt hlt2))).trans (hB.mono (Nat.le_of_lt hlt4))⟩)
      clear hB4 HEA HB4 HD4 HB2 HD2 HB1 HD1 HN1 HEN HLD c0 c1 c2 c3 c4 c5
      go_loopw [5, 10] (fun v j wr => ∃ m : Nat, m ≤ 32 ∧ j = .int .i64 m ∧ wr.ownsRow B4 84 2 v (min m 2) (Ey (usedL m)) ∧ Below B4 w4 wr) (fun _ j _ => 32 - (intOf j).toNat)
      case atStart => exact ⟨0, by omega, rfl, World.ownsRow_nil _ _ _ _, Below.refl _ _⟩
      case round =>
        obtain ⟨m, hm, rfl, hown, hbl⟩ := hrel
        by_cases hlt : m < 32
        · obtain ⟨a', e', -, hld, -⟩ := (HE4.out _ hbl).at m hlt
          cases e'
          have hcell : wr.cell? (ae.add (m * 2)) = some (.int .i64 (freeL.getD m noE).1) := by
            obtain ⟨a', e', -, hc⟩ := (HE4.out _ hbl).2 (by omega)
            cases e'
            exact (hc m hlt).1
          by_cases h2 : m < 2
          · have hv : freeL.getD m noE = dotsL.getD m noE ∧ (freeL.getD m noE).1 = 1 := by
              obtain rfl | rfl : m = 0 ∨ m = 1 := by omega
              · exact ⟨rfl, rfl⟩
              · exact ⟨rfl, rfl⟩
            have hus : usedL (m + 1) = usedL m ++ [(1, (freeL.getD m noE).2)] := by
              unfold usedL
              rw [Ent.takeE_snoc dotsL m (by rw [show dotsL.length = 2 from rfl]; exact h2), ← hv.1]
              rw [show freeL.getD m noE = (1, (freeL.getD m noE).2) from by rw [← hv.2]]
            rw [hv.2] at hcell hld
            generalize (freeL.getD m noE).2 = sx at *
            have hap := Ent.appende_run wr B4 u5 (min m 2) (usedL m) 1 sx hown (Nat.le_trans HBS.out hbl.size) (by omega)
            obtain ⟨v', W', hr', hown', hB'⟩ := hap
            rw [← hus, show min m 2 + 1 = min (m + 1) 2 by omega] at hown'
            have HR := Hid.mk hr'
            have HO' := Hid.mk hown'
            have HB' := Hid.mk (hbl.trans hB')
            have HLD := Hid.mk hld
            clear hr' hown' hB' hld hus hv hown hbl
            go_wp2_with (first
              | (refine Ent.wpL_loadat (.tmp 54) rfl rfl _ 1 sx rfl HLD.out ?_)
              | (refine Ent.wpL_one (.tmp 55) rfl rfl 1 sx _ _ rfl rfl rfl ?_)
              | (at_builtin; refine wpList_append_known rfl (.tmp 51) (.tmp 56) 39 rfl _ _ _ _ rfl rfl HR.out ?_))
            go_roundw
            case rel => exact ⟨m + 1, by omega, by go_num, HO'.out, HB'.out⟩
            case measure => simp [intOf]; omega
          · have hv := free_at m (by omega)
            rw [hv] at hcell
            have hus : usedL (m + 1) = usedL m := by
              unfold usedL
              rw [List.take_of_length_le (by rw [show dotsL.length = 2 from rfl]; omega), List.take_of_length_le (by rw [show dotsL.length = 2 from rfl]; omega)]
            have HO' : Hid (wr.ownsRow B4 84 2 u5 (min (m + 1) 2) (Ey (usedL (m + 1)))) := Hid.mk (by rw [hus, show min (m + 1) 2 = min m 2 by omega]; exact hown)
            have HB' := Hid.mk hbl
            clear hv hus hown hbl hld
            go_wp2
            go_roundw
            case rel => exact ⟨m + 1, by omega, by go_num, HO'.out, HB'.out⟩
            case measure => simp [intOf]; omega
        · obtain rfl : m = 32 := by omega
          have HO' := Hid.mk hown
          have HB' := Hid.mk hbl
          clear hown hbl
          go_wp2
          go_roundw
          case rel =>
            obtain ⟨ao, c, rfl, he, hge, -⟩ := Ent.owns_EAt HO'.out
            obtain ⟨h1, h2, h3⟩ := HBW.out _ HB'.out
            exact ⟨1, by omega, by go_num, fun h => by omega, fun _ => ⟨ao, c, rfl, he, fun a e => Nat.le_trans HBB.out (hge a e).1⟩, h1, h2, h3⟩
          case measure => simp [intOf]
    · obtain ⟨ao, c, hv, he, hge⟩ := hv1 rfl
      subst hv
      have HE := Hid.mk he
      have HGE := Hid.mk hge
      clear he hge hv0 hv1
      go_wp2
      go_ret
      exact ⟨ao, c, rfl, HE.out, HGE.out, HB1.out⟩
end Mk
end Go.Proofs.YtejnmpnioeamhaaGreat
