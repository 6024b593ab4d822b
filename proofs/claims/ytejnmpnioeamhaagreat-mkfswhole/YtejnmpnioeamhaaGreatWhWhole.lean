/-
  MkfsWhole: an empty file system is whole, and has a root without names.
-/
import Derived.Test.YtejnmpnioeamhaaGreatMkAlive
import Derived.Test.YtejnmpnioeamhaaGreatWhCheck
import Derived.Test.YtejnmpnioeamhaaGreatWhRepair
import Derived.Test.YtejnmpnioeamhaaGreatWhImage
import Derived.Test.YtejnmpnioeamhaaGreatWhRaw
namespace Go.Proofs.YtejnmpnioeamhaaGreat
open Go Go.Proofs Go.RowKit Go.Shelf
namespace Mk
open Sup (superL headL)
open Din (inoL)
open Ent (blockL)
set_option maxRecDepth 100000 in
set_option maxHeartbeats 1000000 in
theorem whole_no (w : World) (G I D : Int) (hg : good G I D = false) : Calls Tryz.prog 3 #[geo G I D] w fun e w' => e = .returned (.bool true) ∧ Below w.heap.size w w' := by
  have HG := Hid.mk hg
  clear hg
  go_enter Tryz.func3, Tryz.ntmps3
  go_wp2_with (first
    | (go_at_call 4; refine (alive_any _).mono ?_; rintro e w1 ⟨rfl, hB⟩; obtain ⟨hG1, hB1⟩ := behind hB; obtain ⟨c0, c1, c2⟩ := hG1.g3; have HG1 := Hid.mk hG1; have HB1 := Hid.mk hB1; clear hB hG1 hB1)
    | (go_at_call 5; refine (good_is _ G I D false HG.out).mono ?_; rintro e w1 ⟨rfl, hB⟩; obtain ⟨hG1, hB1⟩ := HG1.out.then HB1.out hB; clear c0 c1 c2 HG1 HB1; obtain ⟨c0, c1, c2⟩ := hG1.g3; have HG1 := Hid.mk hG1; have HB1 := Hid.mk hB1; clear hB hG1 hB1))
  go_ret
  exact ⟨rfl, HB1.out⟩
set_option maxRecDepth 100000 in
set_option maxHeartbeats 1000000 in
theorem whole_big (w : World) (G I D : Int) (hg : good G I D = true) (hm : 200 < G * D) : Calls Tryz.prog 3 #[geo G I D] w fun e w' => e = .returned (.bool true) ∧ Below w.heap.size w w' := by
  have hb := good_iff.1 hg
  have HG := Hid.mk hg
  have m1 := mul_fits (a := G) (A := 8) (b := D) (B := 1000) (by omega) (by omega) (by omega) (by omega)
  have hw : IntKind.i64.wrap (G * D) = G * D := by rw [IntKind.wrap_i64]; omega
  clear hg hb
  go_enter Tryz.func3, Tryz.ntmps3
  go_wp2_with (first
    | (go_at_call 4; refine (alive_any _).mono ?_; rintro e w1 ⟨rfl, hB⟩; obtain ⟨hG1, hB1⟩ := behind hB; obtain ⟨c0, c1, c2⟩ := hG1.g3; have HG1 := Hid.mk hG1; have HB1 := Hid.mk hB1; clear hB hG1 hB1)
    | (go_at_call 5; refine (good_is _ G I D true HG.out).mono ?_; rintro e w1 ⟨rfl, hB⟩; obtain ⟨hG1, hB1⟩ := HG1.out.then HB1.out hB; clear c0 c1 c2 HG1 HB1; obtain ⟨c0, c1, c2⟩ := hG1.g3; have HG1 := Hid.mk hG1; have HB1 := Hid.mk hB1; clear hB hG1 hB1))
  go_ret
  exact ⟨rfl, HB1.out⟩
set_option maxRecDepth 100000 in
set_option maxHeartbeats 4000000 in
theorem whole_yes (w : World) (G I D : Int) (hg : good G I D = true) (hm : G * D ≤ 200) : Calls Tryz.prog 3 #[geo G I D] w fun e w' => e = .returned (.bool true) ∧ Below w.heap.size w w' := by
  have hb := good_iff.1 hg
  have HG := Hid.mk hg
  have hxi : ImgIs G I D (imgL G I D) := img_is hg
  have HIM := Hid.mk (fun W => image_yes W G I D hg)
  obtain ⟨n, hn⟩ : ∃ n, n = totN G I D * 1024 := ⟨_, rfl⟩
  have HCK := Hid.mk (fun W g hr => check_root W g n G I D hg (imgL G I D) hr hxi hn)
  have him := image_root n G I D hg (imgL G I D) hxi hn
  have HRP := Hid.mk (fun W g hr => repair_yes W g n G I D hg (imgL G I D) hr hxi hn him)
  have HRW := Hid.mk (fun W g hr => raw_yes W g n G I D hg (imgL G I D) hr hxi hn him)
  rw [← hn] at HIM
  have m1 := mul_fits (a := G) (A := 8) (b := D) (B := 1000) (by omega) (by omega) (by omega) (by omega)
  have hw : IntKind.i64.wrap (G * D) = G * D := by rw [IntKind.wrap_i64]; omega
  clear hg hb hn him hxi
  go_enter Tryz.func3, Tryz.ntmps3
  go_wp2_with (first
    | (go_at_call 4; refine (alive_any _).mono ?_; rintro e w1 ⟨rfl, hB⟩; obtain ⟨hG1, hB1⟩ := behind hB; obtain ⟨c0, c1, c2⟩ := hG1.g3; have HG1 := Hid.mk hG1; have HB1 := Hid.mk hB1; clear hB hG1 hB1)
    | (go_at_call 5; refine (good_is _ G I D true HG.out).mono ?_; rintro e w1 ⟨rfl, hB⟩; obtain ⟨hG1, hB1⟩ := HG1.out.then HB1.out hB; clear c0 c1 c2 HG1 HB1; obtain ⟨c0, c1, c2⟩ := hG1.g3; have HG1 := Hid.mk hG1; have HB1 := Hid.mk hB1; clear hB hG1 hB1)
    | (go_at_call 6; refine (HIM.out _).mono ?_; rintro e w3 ⟨g, rfl, hrow, hge, hB⟩; have HB3 := Hid.mk (HB1.out.trans (hB.mono HB1.out.size)); clear c0 c1 c2 HG1 HB1; have HR3 := Hid.mk hrow; clear hB hrow hge)
    | (go_at_call 7; refine (HCK.out _ _ HR3.out).mono ?_; rintro e w4 ⟨rfl, hB⟩; have HB4 := Hid.mk (HB3.out.trans (hB.mono HB3.out.size)); have HR4 := Hid.mk (HR3.out.below hB HR3.out.lt); clear hB)
    | (go_at_call 8; refine (HRP.out _ _ HR4.out).mono ?_; rintro e w5 ⟨v5, rfl, hB⟩; have HB5 := Hid.mk (HB4.out.trans (hB.mono HB4.out.size)); have HR5 := Hid.mk (HR4.out.below hB HR4.out.lt); clear hB)
    | (go_at_call 9; refine (HRW.out _ _ HR5.out).mono ?_; rintro e w6 ⟨gN, cN, ao, cc, rfl, hc, k1, k2, k5, hB⟩; have HB6 := Hid.mk (HB5.out.trans (hB.mono HB5.out.size)); clear hB)
    | (go_at_call 10; refine (num_any _ _).mono ?_; rintro e w7 ⟨rfl, hw⟩; subst w7))
  go_ret
  exact ⟨rfl, HB6.out⟩
theorem whole_any (w : World) (G I D : Int) : Calls Tryz.prog 3 #[geo G I D] w fun e w' => e = .returned (.bool true) ∧ Below w.heap.size w w' := by
  cases hg : good G I D with
  | false => exact whole_no w G I D hg
  | true =>
    by_cases hm : G * D ≤ 200
    · exact whole_yes w G I D hg hm
    · exact whole_big w G I D hg (by omega)
end Mk
end Go.Proofs.YtejnmpnioeamhaaGreat
