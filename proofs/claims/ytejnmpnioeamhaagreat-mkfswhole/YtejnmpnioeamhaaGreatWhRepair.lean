/-
  The reference's Repair of an empty file system, once image is known.
-/
import Derived.Test.YtejnmpnioeamhaaGreatWhSame
namespace Go.Proofs.YtejnmpnioeamhaaGreat
open Go Go.Proofs Go.RowKit Go.Shelf
namespace Mk
open Sup (superL headL maskL nI nD bD)
open Din (inoL fineL inoV NAt)
open Ent (blockL okB EAt Ey entV noS noE)
/-- What image makes of a repair that fix made. -/
def ImgYes (n : Nat) (G I D : Int) (xs : List Int) : Prop :=
  ∀ (W : World) (p : Rp) t gl c go co gd cd ae cm, DrAt p n (blkN G D) (inoN G I + 1) G I D xs t gl c go co gd cd (.slice (some ae) 32 cm) W → EAt W (some ae) 32 freeL →
    Calls Tryz.prog 23 #[.pointer (some ⟨p.r, 0, none⟩)] W fun e w' => ∃ g4 cap, n ≤ cap ∧ e = .returned (.slice (some ⟨g4, 0, none⟩) n cap) ∧ BAt w' (some ⟨g4, 0, none⟩) n xs ∧ Below W.heap.size W w'
theorem BAt.bit {W : World} {g n : Nat} {xs : List Int} (h : BAt W (some ⟨g, 0, none⟩) n xs) (o m : Nat) (hm : o + m ≤ n) : BAt W (some ⟨g, o, none⟩) m (piece xs o m) := by
  refine ⟨piece_length xs o m (by rw [h.1]; exact hm), fun hp => ?_⟩
  obtain ⟨a, e, hlt, hc⟩ := h.2 (by omega)
  cases e
  refine ⟨_, rfl, hlt, fun i hi => ?_⟩
  have h2 := hc (o + i) (by omega)
  rw [show (⟨g, 0, none⟩ : Addr).add (o + i) = (⟨g, o, none⟩ : Addr).add i from by by_cases hi0 : i = 0 <;> by_cases ho0 : o = 0 <;> simp [Addr.add, hi0, ho0]] at h2
  rw [h2]
  unfold piece
  simp [List.getD_eq_getElem?_getD, hi]
set_option maxRecDepth 100000 in
/-- b[o:o+1024]. -/
theorem exec_cutb {ev : Operand → Value} {oi : Oper} {x l h : Operand} {g n c k : Nat} {W : World} (ho : oi.op = .slice 26 x (some l) (some h) none) (hx : ev x = .slice (some ⟨g, 0, none⟩) n c) (hl : ev l = .int .i64 ((k : Int) * 1024)) (hh : ev h = .int .i64 ((k : Int) * 1024 + 1024)) (h1 : (k + 1) * 1024 ≤ n) (h2 : n ≤ c) :
    (execOp ev oi).run Tryz.prog W = .ok (.value (.slice (some ⟨g, k * 1024, none⟩) 1024 (c - k * 1024))) W := by
  unfold execOp
  rw [ho]
  simp only [hx]
  go_simp
  rw [if_pos ⟨by omega, by omega⟩, if_pos ⟨by omega, by omega⟩, if_neg (by omega), show ((k : Int) * 1024).toNat = k * 1024 by omega, show ((k : Int) * 1024 + 1024).toNat = k * 1024 + 1024 by omega, show k * 1024 + 1024 - k * 1024 = 1024 by omega]
theorem gmade {w w1 : World} {g : Nat} {G I D : Int} {xs : List Int} (hr : RAt w g xs) (hB : Below w.heap.size w w1) :
    GAt w1.heap.size G I D (w1.alloc (.cells #[.int .i64 G, .int .i64 I, .int .i64 D] 23)) ∧ RAt (w1.alloc (.cells #[.int .i64 G, .int .i64 I, .int .i64 D] 23)) g xs ∧ Below w.heap.size w (w1.alloc (.cells #[.int .i64 G, .int .i64 I, .int .i64 D] 23)) := by
  have h1 : Below w1.heap.size w1 (w1.alloc (.cells #[.int .i64 G, .int .i64 I, .int .i64 D] 23)) := (Below.refl _ w1).alloc (Nat.le_refl _) _
  have hlt := hr.lt
  have hs := hB.size
  exact ⟨GAt.new w1 G I D, (hr.below hB hlt).below h1 (by omega), hB.trans (h1.mono hs)⟩
set_option maxRecDepth 100000 in
set_option maxHeartbeats 8000000 in
theorem repair_yes (w : World) (g n : Nat) (G I D : Int) (hg : good G I D = true) (xs : List Int) (hr : RAt w g xs) (hx : ImgIs G I D xs) (hn : n = totN G I D * 1024) (him : ImgYes n G I D xs) :
    Calls Tryz.prog 8 #[.slice (some ⟨g, 0, none⟩) n n] w fun e w' => ∃ v, e = .returned (.tuple #[v, .slice none 0 0, .bool true]) ∧ Below w.heap.size w w' := by
  have HU : Hid (Calls Tryz.prog 17 #[.slice (some ⟨g, 0, none⟩) n n] w fun e w' => e = .returned (.tuple #[geo G I D, .bool true]) ∧ Below w.heap.size w w') := Hid.mk (usable_yes w g n G I D hg xs hr hx hn)
  have HF := Hid.mk (fun W hr => fix_root W g n G I D hg xs hr hx hn)
  have HIM := Hid.mk him
  obtain ⟨-, t2, t3, -⟩ := tot_is hg
  have hxl := hx.len
  rw [← hn] at t3 hxl
  have hdv : n / 1024 * 1024 = n := by omega
  have HR0 := Hid.mk hr
  have HXL := Hid.mk hxl
  clear hr hx hn hg him t2 hxl
  go_enter Tryz.func8, Tryz.ntmps8
  go_wp2_with (first
    | (go_at_call 17; refine HU.out.mono ?_; rintro e w1 ⟨rfl, hB⟩; obtain ⟨hgt, hr1, hb1⟩ := gmade (G := G) (I := I) (D := D) HR0.out hB; obtain ⟨c0, c1, c2⟩ := hgt.g3; have HR1 := Hid.mk hr1; have HB1 := Hid.mk hb1; clear hr1 hb1 hB hgt)
    | (go_at_call 22; refine (HF.out _ HR1.out).mono ?_; rintro e w2 ⟨p, t, gl, c, go, co, gd, cd, ae, cm, rfl, hpg, hdr, hea, hB2⟩; have HD2 := Hid.mk hdr; have HE2 := Hid.mk hea; have HR2 := Hid.mk (HR1.out.below hB2 HR1.out.lt); have HB2 := Hid.mk (HB1.out.trans (hB2.mono HB1.out.size)); clear hdr hea hB2 HR1 HB1 hpg)
    | (go_at_call 23; refine (HIM.out _ p t gl c go co gd cd ae cm HD2.out HE2.out).mono ?_; rintro e w3 ⟨g4, cap, hc1, rfl, hba, hB3⟩; have HA3 := Hid.mk hba; have HR3 := Hid.mk (HR2.out.below hB3 HR2.out.lt); have HB3 := Hid.mk (HB2.out.trans (hB3.mono HB2.out.size)); clear hba hB3 HR2 HB2 HD2 HE2))
  clear c0 c1 c2 HF HIM HU HR0
  go_loopw [8, 9] (fun v i wr => ∃ k : Nat, v = .slice none 0 0 ∧ i = .int .i64 (k : Int) ∧ k ≤ n / 1024 ∧ RAt wr g xs ∧ BAt wr (some ⟨g4, 0, none⟩) n xs ∧ Below w.heap.size w wr) (fun _ i _ => n / 1024 - (intOf i).toNat)
  case atStart => exact ⟨0, rfl, rfl, Nat.zero_le _, HR3.out, HA3.out, HB3.out⟩
  case round =>
    obtain ⟨k, rfl, rfl, hk, hr5, ha5, hb5⟩ := hrel
    have HR5 := Hid.mk hr5
    have HA5 := Hid.mk ha5
    have HB5 := Hid.mk hb5
    clear hr5 ha5 hb5 HR3 HA3 HB3
    by_cases hlt : k < n / 1024
    · go_upto_region 9 with fail
      obtain ⟨SX, hSX⟩ : ∃ SX, SX = strOfNums (piece xs (k * 1024) 1024) := ⟨_, rfl⟩
      have hH : (convert 26 9 (.slice (some ⟨g, k * 1024, none⟩) 1024 (n - k * 1024))).run Tryz.prog wr.drew = .ok (.string SX) wr.drew ∧ (convert 26 9 (.slice (some ⟨g4, k * 1024, none⟩) 1024 (cap - k * 1024))).run Tryz.prog wr.drew = .ok (.string SX) wr.drew := by
        rw [hSX]
        exact ⟨conv_bytes wr.drew _ _ _ _ (BAt.bit (W := wr.drew) (HR5.out.full HXL.out) (k * 1024) 1024 (by omega)), conv_bytes wr.drew _ _ _ _ (BAt.bit (W := wr.drew) HA5.out (k * 1024) 1024 (by omega))⟩
      clear hSX
      refine wp_region_held_drew (S := fun W' => (convert 26 9 (.slice (some ⟨g, k * 1024, none⟩) 1024 (n - k * 1024))).run Tryz.prog W' = .ok (.string SX) W' ∧ (convert 26 9 (.slice (some ⟨g4, k * 1024, none⟩) 1024 (cap - k * 1024))).run Tryz.prog W' = .ok (.string SX) W') (by kernel_rfl) hH (fun hH => ?_)
      change wpAnyH Tryz.prog Region.Mode.any _ _ _ 17 _ _ _
      refine takeH 0 28 (.slice (some ⟨g, 0, none⟩) n n) rfl (by kernel_rfl) (by kernel_rfl) (by kernel_rfl) (by kernel_rfl) (fun _ _ _ h => h) (by kernel_rfl) (fun w hw => by kernel_rfl) hH ?_
      simp only [List.setIfInBounds_toArray, List.set_cons_zero, List.set_cons_succ]
      refine takeH 1 29 (.int .i64 (k : Int)) rfl (by kernel_rfl) (by kernel_rfl) (by kernel_rfl) (by kernel_rfl) (fun _ _ _ h => h) (by kernel_rfl) (fun w hw => by kernel_rfl) hH ?_
      simp only [List.setIfInBounds_toArray, List.set_cons_zero, List.set_cons_succ]
      refine takeH 2 30 (.int .i64 ((k : Int) * 1024)) rfl (by kernel_rfl) (by kernel_rfl) (by kernel_rfl) (by kernel_rfl) (fun _ _ _ h => h) (by kernel_rfl) (fun w hw => by (clear hw; go_simp; rw [IntKind.wrap_i64]; omega)) hH ?_
      simp only [List.setIfInBounds_toArray, List.set_cons_zero, List.set_cons_succ]
      refine takeH 3 31 (.int .i64 (k : Int)) rfl (by kernel_rfl) (by kernel_rfl) (by kernel_rfl) (by kernel_rfl) (fun _ _ _ h => h) (by kernel_rfl) (fun w hw => by kernel_rfl) hH ?_
      simp only [List.setIfInBounds_toArray, List.set_cons_zero, List.set_cons_succ]
      refine takeH 4 32 (.int .i64 ((k : Int) * 1024)) rfl (by kernel_rfl) (by kernel_rfl) (by kernel_rfl) (by kernel_rfl) (fun _ _ _ h => h) (by kernel_rfl) (fun w hw => by (clear hw; go_simp; rw [IntKind.wrap_i64]; omega)) hH ?_
      simp only [List.setIfInBounds_toArray, List.set_cons_zero, List.set_cons_succ]
      refine takeH 5 33 (.int .i64 ((k : Int) * 1024 + 1024)) rfl (by kernel_rfl) (by kernel_rfl) (by kernel_rfl) (by kernel_rfl) (fun _ _ _ h => h) (by kernel_rfl) (fun w hw => by (clear hw; go_simp; rw [IntKind.wrap_i64]; omega)) hH ?_
      simp only [List.setIfInBounds_toArray, List.set_cons_zero, List.set_cons_succ]
      refine takeH 6 34 (.slice (some ⟨g, k * 1024, none⟩) 1024 (n - k * 1024)) rfl (by kernel_rfl) (by kernel_rfl) (by kernel_rfl) (by kernel_rfl) (fun _ _ _ h => h) (by kernel_rfl) (fun w hw => by (clear hw; exact exec_cutb (n := n) (x := .tmp 28) (l := .tmp 30) (h := .tmp 33) rfl (by kernel_rfl) (by kernel_rfl) (by kernel_rfl) (by omega) (by omega))) hH ?_
      simp only [List.setIfInBounds_toArray, List.set_cons_zero, List.set_cons_succ]
      refine takeH 7 35 (.string SX) rfl (by kernel_rfl) (by kernel_rfl) (by kernel_rfl) (by kernel_rfl) (fun _ _ _ h => h) (by kernel_rfl) (fun w hw => by exact exec_convert (x := .tmp 34) rfl (by kernel_rfl) hw.1) hH ?_
      simp only [List.setIfInBounds_toArray, List.set_cons_zero, List.set_cons_succ]
      refine takeH 8 36 (.slice (some ⟨g4, 0, none⟩) n cap) rfl (by kernel_rfl) (by kernel_rfl) (by kernel_rfl) (by kernel_rfl) (fun _ _ _ h => h) (by kernel_rfl) (fun w hw => by kernel_rfl) hH ?_
      simp only [List.setIfInBounds_toArray, List.set_cons_zero, List.set_cons_succ]
      refine takeH 9 37 (.int .i64 (k : Int)) rfl (by kernel_rfl) (by kernel_rfl) (by kernel_rfl) (by kernel_rfl) (fun _ _ _ h => h) (by kernel_rfl) (fun w hw => by kernel_rfl) hH ?_
      simp only [List.setIfInBounds_toArray, List.set_cons_zero, List.set_cons_succ]
      refine takeH 10 38 (.int .i64 ((k : Int) * 1024)) rfl (by kernel_rfl) (by kernel_rfl) (by kernel_rfl) (by kernel_rfl) (fun _ _ _ h => h) (by kernel_rfl) (fun w hw => by (clear hw; go_simp; rw [IntKind.wrap_i64]; omega)) hH ?_
      simp only [List.setIfInBounds_toArray, List.set_cons_zero, List.set_cons_succ]
      refine takeH 11 39 (.int .i64 (k : Int)) rfl (by kernel_rfl) (by kernel_rfl) (by kernel_rfl) (by kernel_rfl) (fun _ _ _ h => h) (by kernel_rfl) (fun w hw => by kernel_rfl) hH ?_
      simp only [List.setIfInBounds_toArray, List.set_cons_zero, List.set_cons_succ]
      refine takeH 12 40 (.int .i64 ((k : Int) * 1024)) rfl (by kernel_rfl) (by kernel_rfl) (by kernel_rfl) (by kernel_rfl) (fun _ _ _ h => h) (by kernel_rfl) (fun w hw => by (clear hw; go_simp; rw [IntKind.wrap_i64]; omega)) hH ?_
      simp only [List.setIfInBounds_toArray, List.set_cons_zero, List.set_cons_succ]
      refine takeH 13 41 (.int .i64 ((k : Int) * 1024 + 1024)) rfl (by kernel_rfl) (by kernel_rfl) (by kernel_rfl) (by kernel_rfl) (fun _ _ _ h => h) (by kernel_rfl) (fun w hw => by (clear hw; go_simp; rw [IntKind.wrap_i64]; omega)) hH ?_
      simp only [List.setIfInBounds_toArray, List.set_cons_zero, List.set_cons_succ]
      refine takeH 14 42 (.slice (some ⟨g4, k * 1024, none⟩) 1024 (cap - k * 1024)) rfl (by kernel_rfl) (by kernel_rfl) (by kernel_rfl) (by kernel_rfl) (fun _ _ _ h => h) (by kernel_rfl) (fun w hw => by (clear hw; exact exec_cutb (n := n) (x := .tmp 36) (l := .tmp 38) (h := .tmp 41) rfl (by kernel_rfl) (by kernel_rfl) (by kernel_rfl) (by omega) (by omega))) hH ?_
      simp only [List.setIfInBounds_toArray, List.set_cons_zero, List.set_cons_succ]
      refine takeH 15 43 (.string SX) rfl (by kernel_rfl) (by kernel_rfl) (by kernel_rfl) (by kernel_rfl) (fun _ _ _ h => h) (by kernel_rfl) (fun w hw => by exact exec_convert (x := .tmp 42) rfl (by kernel_rfl) hw.2) hH ?_
      simp only [List.setIfInBounds_toArray, List.set_cons_zero, List.set_cons_succ]
      refine takeH 16 44 (.bool false) rfl (by kernel_rfl) (by kernel_rfl) (by kernel_rfl) (by kernel_rfl) (fun _ _ _ h => h) (by kernel_rfl) (fun w hw => by (clear hw; go_simp)) hH ?_
      simp only [List.setIfInBounds_toArray, List.set_cons_zero, List.set_cons_succ]
      refine wpAnyH_done (by kernel_rfl) ?_ _
      clear hH
      go_wp2
      go_roundw
      case rel => exact ⟨k + 1, rfl, by go_num, by omega, HR5.out, HA5.out, HB5.out.drew⟩
      case measure => simp [intOf]; omega
    · go_wp2
      go_ret3
      exact ⟨_, rfl, HB5.out⟩
end Mk
end Go.Proofs.YtejnmpnioeamhaaGreat
