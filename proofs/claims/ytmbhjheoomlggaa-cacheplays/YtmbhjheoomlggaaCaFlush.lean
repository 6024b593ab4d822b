/-
  The cache's calls: Flush.
-/
import Derived.Test.YtmbhjheoomlggaaCaPut
namespace Go.Proofs.Ytmbhjheoomlggaa
open Go Go.Proofs Go.RowKit Go.Shelf
abbrev RgF (c dd : Nat) (x : Pl) (W : World) : Prop := W.cell? ⟨c, 0, none⟩ = some (ptV dd) ∧ W.cell? ⟨x.p, 0, none⟩ = some (ptV x.h) ∧ W.cell? ⟨x.h, 3, none⟩ = some (.slice (some ⟨x.g, 0, none⟩) 1024 x.cap)
section
variable {F : Nat → Prop} {w : World} {c m : Nat} {reads : Int} {d : Value}
set_option maxRecDepth 100000 in
set_option maxHeartbeats 4000000 in
theorem flush_no (L : List Pl) (n : Int) (size : Int) (hw : (Lit.int .i64 n).wf = true) (hn : ∀ y ∈ L, y.num ≠ n) (h : CaAt F w c m d size reads L) :
    Calls Try.prog 19 #[ptV c, .int .i64 n] w fun e w' => e = .returned (.bool true) ∧ w' = w := by
  obtain ⟨c5, hlk⟩ := find_none_look L n hw hn h
  clear h hn hw
  go_enter Try.func19, Try.ntmps19
  go_wp2
  go_ret
  exact ⟨rfl, rfl⟩
set_option maxRecDepth 100000 in
set_option maxHeartbeats 4000000 in
theorem flush_clean (A B : List Pl) (x : Pl) (size : Int) (h : CaAt F w c m d size reads (A ++ x :: B)) (hp : x.dirty = false) :
    Calls Try.prog 19 #[ptV c, .int .i64 x.num] w fun e w' => e = .returned (.bool true) ∧ w' = w := by
  obtain ⟨c5, hlk⟩ := find_kept_look A B x h
  have p0 := (pl_c1 h.ls.seg.at.2.1).1
  obtain ⟨a0, a1, a2, a3, a4, a5, a6⟩ := hd_cells (h.held x (by simp))
  rw [hp] at a2
  clear h hp
  go_enter Try.func19, Try.ntmps19
  go_wp2
  go_ret
  exact ⟨rfl, rfl⟩
set_option maxRecDepth 100000 in
set_option maxHeartbeats 4000000 in
theorem flush_dirty (Fd : Nat → Prop) (dd : Nat) (s : Dk.DS) (L : Nat) (A B : List Pl) (x : Pl) (size : Nat) (h : CaAt F w c m (ptV dd) size reads (A ++ x :: B)) (hl : (A ++ x :: B).length ≤ 1000000) (hp : x.dirty = true) (hd : Dk.DiskAt Fd w dd s) (hdis : ∀ k, F k → ¬ Fd k) (hi : s.img.length ≤ 20480000) (hs : Dk.Sane s L) (hL : L ≤ 900000) :
    Calls Try.prog 19 #[ptV c, .int .i64 x.num] w fun e w' => e = .returned (.bool (Dk.wrS s x.num x.dat).1) ∧ CaAt (fun k => F k ∧ k < w.heap.size) w' c m (ptV dd) size reads (if (Dk.wrS s x.num x.dat).1 = true then shrL size (A ++ x.by x.pins false :: B) else A ++ x :: B) ∧ Dk.DiskAt (fun k => Fd k ∨ w.heap.size ≤ k) w' dd (Dk.wrS s x.num x.dat).2 ∧ Only (fun k => F k ∨ Fd k) w w' := by
  obtain ⟨c5, hlk⟩ := find_kept_look A B x h
  have hxm : x ∈ A ++ x :: B := by simp
  have p0 := (pl_c1 h.ls.seg.at.2.1).1
  have c0 := (ca_cells h.ls.blk).1
  have hhx := h.held x hxm
  obtain ⟨a0, a1, a2, a3, a4, a5, a6⟩ := hd_cells hhx
  rw [hp] at a2
  have h0 : CaAt (fun k => F k ∧ k < w.heap.size) w c m (ptV dd) size reads (A ++ x :: B) := h.mono (fun k hk hl => ⟨hk, hl⟩)
  have HWRITE : Hid (Calls Try.prog 18 #[ptV dd, .int .i64 x.num, .slice (some ⟨x.g, 0, none⟩) 1024 x.cap] w.drew fun e w' => e = .returned (.bool (Dk.wrS s x.num x.dat).1) ∧ Dk.DiskAt (fun k => Fd k ∨ w.heap.size ≤ k) w' dd (Dk.wrS s x.num x.dat).2 ∧ Only Fd w.drew w') := Hid.mk (by
    obtain ⟨g', cap', e', hg', hlt', hcap', _, hcell⟩ := owns_bytes hhx.row (by simp)
    cases e'
    exact Dk.write_any Fd w.drew dd s L (hd.only (Only.refl (fun _ => False) w).drew (fun _ _ _ h => h)) hi hs hL x.num (some ⟨x.g, 0, none⟩) 1024 x.cap x.dat ⟨hhx.len, fun _ => ⟨_, rfl, hlt', hcell⟩⟩ hcap' (by omega) (fun a e _ => by cases e; exact fun hf => hdis _ (h.inF x hxm).2.2 hf))
  have HAFTER : Hid (∀ w5, Only Fd w.drew w5 → CaAt (fun k => F k ∧ k < w.heap.size) w5 c m (ptV dd) size reads (A ++ x :: B)) := Hid.mk (fun w5 ho => h0.drew.only ho (fun k _ hk hf => hdis k hk.1 hf))
  have HS0 : Hid (RgF c dd x w.drew) := Hid.mk ⟨c0, p0, a3⟩
  have HST : Hid (∀ w5, Only Fd w.drew w5 → RgF c dd x w5) := Hid.mk (fun w5 ho => by
    have h5 := HAFTER.out w5 ho
    exact ⟨(ca_cells h5.ls.blk).1, (pl_c1 h5.ls.seg.at.2.1).1, (hd_cells (h5.held x hxm)).2.2.2.1⟩)
  have HNEW : Hid (∀ (W W' : World), CaAt (fun k => F k ∧ k < w.heap.size) W c m (ptV dd) size reads (A ++ x :: B) → w.heap.size ≤ W.heap.size → Dk.DiskAt (fun k => Fd k ∨ w.heap.size ≤ k) W dd (Dk.wrS s x.num x.dat).2 → Only (fun k => F k ∧ k < w.heap.size) W W' → Dk.DiskAt (fun k => Fd k ∨ w.heap.size ≤ k) W' dd (Dk.wrS s x.num x.dat).2) := Hid.mk (fun W W' _ _ hD ho => hD.only ho (fun k _ hk hf => by
    rcases hk with hk | hk
    · exact hdis k hf.1 hk
    · have := hf.2; omega))
  have HX := Hid.mk hxm
  clear h hp hd hs hhx hxm h0
  obtain ⟨ok, hok⟩ : ∃ ok, ok = (Dk.wrS s x.num x.dat).1 := ⟨_, rfl⟩
  rw [← hok]
  obtain ⟨R, hR⟩ : ∃ R, R = (if ok = true then shrL size (A ++ x.by x.pins false :: B) else A ++ x :: B) := ⟨_, rfl⟩
  rw [← hR]
  have HOK := Hid.mk hok
  have HR := Hid.mk hR
  clear hok hR
  go_enter Try.func19, Try.ntmps19
  go_wp2_with fail
  refine wp_region_held_drew (S := RgF c dd x) (by kernel_rfl) HS0.out (fun hH => ?_)
  change wpAnyH Try.prog Region.Mode.any _ _ _ 14 _ _ _
  refine takeH 0 24 (.pointer (some ⟨c, 0, none⟩)) rfl (by kernel_rfl) (by kernel_rfl) (by kernel_rfl) (by kernel_rfl) (fun _ _ _ h => h) (by kernel_rfl) (fun w hw => by kernel_rfl) hH ?_
  simp only [List.setIfInBounds_toArray, List.set_cons_zero, List.set_cons_succ]
  refine takeH 1 25 (.pointer (some ⟨c, 0, none⟩)) rfl (by kernel_rfl) (by kernel_rfl) (by kernel_rfl) (by kernel_rfl) (fun _ _ _ h => h) (by kernel_rfl) (fun w hw => by (try dsimp only at hw); go_simp) hH ?_
  simp only [List.setIfInBounds_toArray, List.set_cons_zero, List.set_cons_succ]
  refine takeH 2 26 (.pointer (some ⟨c, 0, none⟩)) rfl (by kernel_rfl) (by kernel_rfl) (by kernel_rfl) (by kernel_rfl) (fun _ _ _ h => h) (by kernel_rfl) (fun w hw => by (try dsimp only at hw); go_simp) hH ?_
  simp only [List.setIfInBounds_toArray, List.set_cons_zero, List.set_cons_succ]
  refine takeH 3 27 (.pointer (some ⟨dd, 0, none⟩)) rfl (by kernel_rfl) (by kernel_rfl) (by kernel_rfl) (by kernel_rfl) (fun _ _ _ h => h) (by kernel_rfl) (fun w hw => by (try dsimp only at hw); go_simp) hH ?_
  simp only [List.setIfInBounds_toArray, List.set_cons_zero, List.set_cons_succ]
  refine takeH 4 28 (.int .i64 x.num) rfl (by kernel_rfl) (by kernel_rfl) (by kernel_rfl) (by kernel_rfl) (fun _ _ _ h => h) (by kernel_rfl) (fun w hw => by kernel_rfl) hH ?_
  simp only [List.setIfInBounds_toArray, List.set_cons_zero, List.set_cons_succ]
  refine takeH 5 29 (.pointer (some ⟨x.p, 0, none⟩)) rfl (by kernel_rfl) (by kernel_rfl) (by kernel_rfl) (by kernel_rfl) (fun _ _ _ h => h) (by kernel_rfl) (fun w hw => by kernel_rfl) hH ?_
  simp only [List.setIfInBounds_toArray, List.set_cons_zero, List.set_cons_succ]
  refine takeH 6 30 (.pointer (some ⟨x.p, 0, none⟩)) rfl (by kernel_rfl) (by kernel_rfl) (by kernel_rfl) (by kernel_rfl) (fun _ _ _ h => h) (by kernel_rfl) (fun w hw => by (try dsimp only at hw); go_simp) hH ?_
  simp only [List.setIfInBounds_toArray, List.set_cons_zero, List.set_cons_succ]
  refine takeH 7 31 (.pointer (some ⟨x.p, 0, none⟩)) rfl (by kernel_rfl) (by kernel_rfl) (by kernel_rfl) (by kernel_rfl) (fun _ _ _ h => h) (by kernel_rfl) (fun w hw => by (try dsimp only at hw); go_simp) hH ?_
  simp only [List.setIfInBounds_toArray, List.set_cons_zero, List.set_cons_succ]
  refine takeH 8 32 (.pointer (some ⟨x.h, 0, none⟩)) rfl (by kernel_rfl) (by kernel_rfl) (by kernel_rfl) (by kernel_rfl) (fun _ _ _ h => h) (by kernel_rfl) (fun w hw => by (try dsimp only at hw); go_simp) hH ?_
  simp only [List.setIfInBounds_toArray, List.set_cons_zero, List.set_cons_succ]
  refine takeH 9 33 (.pointer (some ⟨x.h, 0, none⟩)) rfl (by kernel_rfl) (by kernel_rfl) (by kernel_rfl) (by kernel_rfl) (fun _ _ _ h => h) (by kernel_rfl) (fun w hw => by (try dsimp only at hw); go_simp) hH ?_
  simp only [List.setIfInBounds_toArray, List.set_cons_zero, List.set_cons_succ]
  refine takeH 10 34 (.pointer (some ⟨x.h, 3, none⟩)) rfl (by kernel_rfl) (by kernel_rfl) (by kernel_rfl) (by kernel_rfl) (fun _ _ _ h => h) (by kernel_rfl) (fun w hw => by (try dsimp only at hw); go_simp) hH ?_
  simp only [List.setIfInBounds_toArray, List.set_cons_zero, List.set_cons_succ]
  refine takeH 11 35 (.slice (some ⟨x.g, 0, none⟩) 1024 x.cap) rfl (by kernel_rfl) (by kernel_rfl) (by kernel_rfl) (by kernel_rfl) (fun _ _ _ h => h) (by kernel_rfl) (fun w hw => by (try dsimp only at hw); go_simp) hH ?_
  simp only [List.setIfInBounds_toArray, List.set_cons_zero, List.set_cons_succ]
  refine stepH_call 12 36 rfl (by kernel_rfl) (by kernel_rfl) (by kernel_rfl) 18 #[.tmp 27, .tmp 28, .tmp 35] #[24, 3, 35] (by kernel_rfl) (enters_of Try.func18 (by kernel_rfl) rfl) #[ptV dd, .int .i64 x.num, .slice (some ⟨x.g, 0, none⟩) 1024 x.cap] (by kernel_rfl) HWRITE.out ?_
  rintro e w5 ⟨rfl, hD5, hO5⟩
  have hH5 := HST.out w5 hO5
  refine ⟨_, rfl, hH5, ?_⟩
  simp only [List.setIfInBounds_toArray, List.set_cons_zero, List.set_cons_succ]
  refine takeH 13 37 (.bool (!(Dk.wrS s x.num x.dat).1)) rfl (by kernel_rfl) (by kernel_rfl) (by kernel_rfl) (by kernel_rfl) (fun _ _ _ h => h) (by kernel_rfl) (fun w hw => by (try dsimp only at hw); go_simp) hH5 ?_
  simp only [List.setIfInBounds_toArray, List.set_cons_zero, List.set_cons_succ]
  refine wpAnyH_done (by kernel_rfl) ?_ _
  rw [← HOK.out]
  have HC5 := Hid.mk (HAFTER.out w5 hO5)
  have HD5 := Hid.mk hD5
  have HO5 := Hid.mk hO5
  clear hD5 hO5 hH hH5 HS0 HST HWRITE HAFTER p0 c0 a0 a1 a2 a3 a4 a5 a6 c5 hlk
  cases ok with
  | false =>
    have hR : R = A ++ x :: B := by rw [HR.out]; rfl
    have HR2 := Hid.mk hR
    clear hR
    go_wp2
    go_ret
    exact ⟨rfl, by rw [HR2.out]; exact HC5.out, HD5.out, (((Only.refl _ w).drew).trans HO5.out (fun _ h => .inl (.inr h)))⟩
  | true =>
    have hR : R = shrL size (A ++ x.by x.pins false :: B) := by rw [HR.out]; rfl
    have HR2 := Hid.mk hR
    clear hR
    have hC5 := HC5.out
    have hS1 : RgP x w5.drew := ⟨(pl_c1 hC5.ls.seg.at.2.1).1, (hd_cells (hC5.held x HX.out)).2.1⟩
    have HS0 := Hid.mk hS1
    have HTURN := Hid.mk (turn_any A B x x.pins false hC5.drew hl)
    have HST : Hid (∀ W, CaAt (fun k => F k ∧ k < w.heap.size) W c m (ptV dd) size reads (A ++ x.by x.pins false :: B) → RgP x W) := Hid.mk (fun W hC => RgP.of hC)
    have HSH : Hid (∀ W, CaAt (fun k => F k ∧ k < w.heap.size) W c m (ptV dd) size reads (A ++ x.by x.pins false :: B) → Calls Try.prog 31 #[ptV c] W fun e w' => e = .returned (.tuple #[]) ∧ CaAt (fun k => F k ∧ k < w.heap.size) w' c m (ptV dd) size reads (shrL size (A ++ x.by x.pins false :: B)) ∧ Only (fun k => F k ∧ k < w.heap.size) W w') := Hid.mk (fun W hC => shrink_any size _ hC (by simpa using hl))
    clear hC5 hS1 hl
    go_wp2_with fail
    refine wp_region_held_drew (S := RgP x) (by kernel_rfl) HS0.out (fun hH => ?_)
    change wpAnyH Try.prog Region.Mode.any _ _ _ 13 _ _ _
    refine takeH 0 38 (.pointer (some ⟨c, 0, none⟩)) rfl (by kernel_rfl) (by kernel_rfl) (by kernel_rfl) (by kernel_rfl) (fun _ _ _ h => h) (by kernel_rfl) (fun w hw => by kernel_rfl) hH ?_
    simp only [List.setIfInBounds_toArray, List.set_cons_zero, List.set_cons_succ]
    refine takeH 1 39 (.pointer (some ⟨x.p, 0, none⟩)) rfl (by kernel_rfl) (by kernel_rfl) (by kernel_rfl) (by kernel_rfl) (fun _ _ _ h => h) (by kernel_rfl) (fun w hw => by kernel_rfl) hH ?_
    simp only [List.setIfInBounds_toArray, List.set_cons_zero, List.set_cons_succ]
    refine takeH 2 40 (.pointer (some ⟨x.p, 0, none⟩)) rfl (by kernel_rfl) (by kernel_rfl) (by kernel_rfl) (by kernel_rfl) (fun _ _ _ h => h) (by kernel_rfl) (fun w hw => by (try dsimp only at hw); go_simp) hH ?_
    simp only [List.setIfInBounds_toArray, List.set_cons_zero, List.set_cons_succ]
    refine takeH 3 41 (.pointer (some ⟨x.p, 0, none⟩)) rfl (by kernel_rfl) (by kernel_rfl) (by kernel_rfl) (by kernel_rfl) (fun _ _ _ h => h) (by kernel_rfl) (fun w hw => by (try dsimp only at hw); go_simp) hH ?_
    simp only [List.setIfInBounds_toArray, List.set_cons_zero, List.set_cons_succ]
    refine takeH 4 42 (.pointer (some ⟨x.h, 0, none⟩)) rfl (by kernel_rfl) (by kernel_rfl) (by kernel_rfl) (by kernel_rfl) (fun _ _ _ h => h) (by kernel_rfl) (fun w hw => by (try dsimp only at hw); go_simp) hH ?_
    simp only [List.setIfInBounds_toArray, List.set_cons_zero, List.set_cons_succ]
    refine takeH 5 43 (.pointer (some ⟨x.p, 0, none⟩)) rfl (by kernel_rfl) (by kernel_rfl) (by kernel_rfl) (by kernel_rfl) (fun _ _ _ h => h) (by kernel_rfl) (fun w hw => by kernel_rfl) hH ?_
    simp only [List.setIfInBounds_toArray, List.set_cons_zero, List.set_cons_succ]
    refine takeH 6 44 (.pointer (some ⟨x.p, 0, none⟩)) rfl (by kernel_rfl) (by kernel_rfl) (by kernel_rfl) (by kernel_rfl) (fun _ _ _ h => h) (by kernel_rfl) (fun w hw => by (try dsimp only at hw); go_simp) hH ?_
    simp only [List.setIfInBounds_toArray, List.set_cons_zero, List.set_cons_succ]
    refine takeH 7 45 (.pointer (some ⟨x.p, 0, none⟩)) rfl (by kernel_rfl) (by kernel_rfl) (by kernel_rfl) (by kernel_rfl) (fun _ _ _ h => h) (by kernel_rfl) (fun w hw => by (try dsimp only at hw); go_simp) hH ?_
    simp only [List.setIfInBounds_toArray, List.set_cons_zero, List.set_cons_succ]
    refine takeH 8 46 (.pointer (some ⟨x.h, 0, none⟩)) rfl (by kernel_rfl) (by kernel_rfl) (by kernel_rfl) (by kernel_rfl) (fun _ _ _ h => h) (by kernel_rfl) (fun w hw => by (try dsimp only at hw); go_simp) hH ?_
    simp only [List.setIfInBounds_toArray, List.set_cons_zero, List.set_cons_succ]
    refine takeH 9 47 (.pointer (some ⟨x.h, 0, none⟩)) rfl (by kernel_rfl) (by kernel_rfl) (by kernel_rfl) (by kernel_rfl) (fun _ _ _ h => h) (by kernel_rfl) (fun w hw => by (try dsimp only at hw); go_simp) hH ?_
    simp only [List.setIfInBounds_toArray, List.set_cons_zero, List.set_cons_succ]
    refine takeH 10 48 (.pointer (some ⟨x.h, 1, none⟩)) rfl (by kernel_rfl) (by kernel_rfl) (by kernel_rfl) (by kernel_rfl) (fun _ _ _ h => h) (by kernel_rfl) (fun w hw => by (try dsimp only at hw); go_simp) hH ?_
    simp only [List.setIfInBounds_toArray, List.set_cons_zero, List.set_cons_succ]
    refine takeH 11 49 (.int .i64 ((x.pins : Nat) : Int)) rfl (by kernel_rfl) (by kernel_rfl) (by kernel_rfl) (by kernel_rfl) (fun _ _ _ h => h) (by kernel_rfl) (fun w hw => by (try dsimp only at hw); go_simp) hH ?_
    simp only [List.setIfInBounds_toArray, List.set_cons_zero, List.set_cons_succ]
    refine stepH_call 12 50 rfl (by kernel_rfl) (by kernel_rfl) (by kernel_rfl) 30 #[.tmp 38, .tmp 42, .tmp 49, .const (.bool false)] #[26, 64, 3, 4] (by kernel_rfl) (enters_of Try.func30 (by kernel_rfl) rfl) #[ptV c, ptV x.h, .int .i64 ((x.pins : Nat) : Int), .bool false] (by kernel_rfl) HTURN.out ?_
    rintro e w7 ⟨rfl, hC7, hO7⟩
    have hH7 := HST.out w7 hC7
    refine ⟨_, rfl, hH7, ?_⟩
    simp only [List.setIfInBounds_toArray, List.set_cons_zero, List.set_cons_succ]
    refine wpAnyH_done (by kernel_rfl) ?_ _
    have HC7 := Hid.mk hC7
    have HO7 := Hid.mk hO7
    clear hC7 hO7 hH hH7 HS0 HST HTURN
    go_wp2_with (go_at_call 31; refine (HSH.out _ HC7.out).mono ?_; rintro e w8 ⟨rfl, hC8, hO8⟩; have HC8 := Hid.mk hC8; have HO8 := Hid.mk hO8; clear hC8 hO8)
    go_ret
    have o58 : Only (fun k => F k ∧ k < w.heap.size) w5 w8 := ((Only.refl _ w5).drew.trans HO7.out (fun _ h => .inl h)).trans HO8.out (fun _ h => .inl h)
    have o5 : Only (fun k => F k ∨ Fd k) w w5 := ((Only.refl _ w).drew).trans HO5.out (fun _ h => .inl (.inr h))
    exact ⟨rfl, by rw [HR2.out]; exact HC8.out, HNEW.out w5 w8 HC5.out o5.size HD5.out o58, o5.trans o58 (fun _ h => .inl (.inl h.1))⟩
set_option maxRecDepth 100000 in
theorem reads_any (size : Int) (L : List Pl) (h : CaAt F w c m d size reads L) : Calls Try.prog 24 #[ptV c] w fun e w' => e = .returned (.int .i64 reads) ∧ w' = w := by
  have c2 := (ca_cells h.ls.blk).2.2.1
  clear h
  go_enter Try.func24, Try.ntmps24
  go_wp2
  go_ret
  exact ⟨rfl, rfl⟩
/-- How many blocks a cache keeps. -/
def szN (n : Int) : Nat := (max n 1).toNat
set_option maxRecDepth 100000 in
set_option maxHeartbeats 4000000 in
theorem cnew_any (w : World) (d : Option Nat) (n : Int) :
    Calls Try.prog 10 #[match d with | some b => ptV b | none => niV, .int .i64 n] w fun e w' => ∃ c m, e = .returned (ptV c) ∧ w.heap.size ≤ c ∧ CaAt (fun k => w.heap.size ≤ k) w' c m (match d with | some b => ptV b | none => niV) (szN n) 0 [] ∧ Below w.heap.size w w' := by
  obtain ⟨v, hv⟩ : ∃ v : Value, v = (match d with | some b => ptV b | none => niV) := ⟨_, rfl⟩
  obtain ⟨ad, hpt⟩ : ∃ ad, v = .pointer ad := by cases d <;> exact ⟨_, hv⟩
  rw [← hv, hpt]
  have hmm := @run_makeMap Try.prog
  obtain ⟨sz, hsz⟩ : ∃ sz : Int, sz = (szN n : Nat) := ⟨_, rfl⟩
  rw [← hsz]
  have FIN : Hid (∃ c m, (Value.pointer (some ⟨w.heap.size + 1, 0, none⟩) = ptV c) ∧ w.heap.size ≤ c ∧ CaAt (fun k => w.heap.size ≤ k) ((w.alloc (.map #[] 0)).alloc (.cells #[.pointer ad, .int .i64 sz, .int .i64 0, niV, niV, .map (some w.heap.size), .int .i64 0] 61)) c m (.pointer ad) sz 0 [] ∧ Below w.heap.size w ((w.alloc (.map #[] 0)).alloc (.cells #[.pointer ad, .int .i64 sz, .int .i64 0, niV, niV, .map (some w.heap.size), .int .i64 0] 61))) := Hid.mk (by
    have hb := blk_new (w.alloc (.map #[] 0)) (.cells #[.pointer ad, .int .i64 sz, .int .i64 0, niV, niV, .map (some w.heap.size), .int .i64 0] 61)
    rw [World.size_alloc] at hb
    refine ⟨w.heap.size + 1, w.heap.size, rfl, by omega, ⟨by omega, Nat.le_refl _, ⟨hb, trivial, List.nodup_nil⟩, ?_, fun x hx => (by cases hx), fun x hx => (by cases hx), List.nodup_nil, List.nodup_nil, fun x hx => (by cases hx)⟩, ((Below.refl _ w).alloc (Nat.le_refl _) _).alloc (by simp) _⟩
    refine ((MAt.new w 3).kept (Below.heap_alloc _ _ _ (by simp))).say (fun _ kl _ => ?_)
    unfold keyF
    split <;> rfl)
  have hsz2 : sz = max n 1 := by rw [hsz]; unfold szN; omega
  clear hv hsz hpt
  rcases Int.lt_or_le n 1 with h1 | h1
  · have e : max n 1 = 1 := by omega
    rw [e] at hsz2
    subst hsz2
    clear e
    go_enter Try.func10, Try.ntmps10
    go_wp2
    go_ret
    obtain ⟨c, m, e, h⟩ := FIN.out
    exact ⟨c, m, by rw [← e]; rfl, h⟩
  · have e : max n 1 = n := by omega
    rw [e] at hsz2
    subst hsz2
    clear e
    go_enter Try.func10, Try.ntmps10
    go_wp2
    go_ret
    obtain ⟨c, m, e, h⟩ := FIN.out
    exact ⟨c, m, by rw [← e]; rfl, h⟩
end
end Go.Proofs.Ytmbhjheoomlggaa
