/-
  DiskAgain, walked: it returns true for every row of acts, and nothing that lay has turned.
-/
import Derived.Test.YtochgjajlojfeaaWriteAny
import Derived.Deep.RegionHeld3
namespace Go.Proofs.Ytochgjajlojfeaa
open Go Go.Proofs Go.RowKit Go.Shelf

theorem step_call3 {P : Program} {ops : Array Oper} {o : Oper} {a : Act} {w : World} {K : Act → World → Prop} {Q : Exit → Act → World → Prop} {E : Prop}
    (hg : o.guard = none) (f : Nat) (x y z : Operand) (tys : Array TypeId) (hop : o.op = Op.call { callee := .value (.func f), args := #[x, y, z], argTypes := tys })
    (eg : ∀ vs w, (callFunc f vs).run P w = .ok (.enter f vs) w) (v u t : Value) (hx : a.eval x = v) (hy : a.eval y = u) (hz : a.eval z = t) {R : Ending → World → Prop} (hc : Calls P f #[v, u, t] w R)
    (hK : ∀ e w', R e w' → ∃ v, e = .returned v ∧ K (a.put o.dst v) w') :
    if Region.wanted o (yielded ops a.tmps) = true then Oper.wp P o a w K Q else E :=
  step_call hg f #[x, y, z] tys hop eg #[v, u, t] (by simp [hx, hy, hz]) hc hK

/-- One act of a row of acts. -/
structure ActV where
  way : Int
  block : Int
  n : Int
  bo : Option Addr
  bn : Nat
  bc : Nat
  bs : List Int
instance : Inhabited ActV := ⟨⟨0, 0, 0, none, 0, 0, []⟩⟩

/-- A row of acts as it lies in a world. -/
structure ActAt (w : World) (b o : Nat) (A : ActV) : Prop where
  way : w.cell? ⟨b, o, none⟩ = some (.int .i64 A.way)
  block : w.cell? ⟨b, o + 1, none⟩ = some (.int .i64 A.block)
  n : w.cell? ⟨b, o + 2, none⟩ = some (.int .i64 A.n)
  bs : w.cell? ⟨b, o + 3, none⟩ = some (.slice A.bo A.bn A.bc)
  way0 : -9223372036854775808 ≤ A.way ∧ A.way ≤ 9223372036854775807
  block0 : -9223372036854775808 ≤ A.block ∧ A.block ≤ 9223372036854775807
  n0 : -9223372036854775808 ≤ A.n ∧ A.n ≤ 9223372036854775807
  bat : BAt w A.bo A.bn A.bs
  cap : A.bn ≤ A.bc
  big : A.bn ≤ 9223372036854775807
  nilb : A.bo = none → A.bn = 0 ∧ A.bc = 0
  byte : ∀ x ∈ A.bs, 0 ≤ x ∧ x ≤ 255

def ActsAt (w : World) (ao : Option Addr) (len : Nat) (A : Nat → ActV) : Prop :=
  0 < len → ∃ b off, ao = some ⟨b, off, none⟩ ∧ b < w.heap.size ∧ ∀ i, i < len → ActAt w b (off + i * 4) (A i)

theorem ActAt.below {w w' : World} {b o : Nat} {A : ActV} (h : ActAt w b o A) (hb : b < w.heap.size) (hB : Below w.heap.size w w') : ActAt w' b o A :=
  ⟨(hB.cell (p := ⟨b, o, none⟩) hb).trans h.way, (hB.cell (p := ⟨b, o + 1, none⟩) hb).trans h.block, (hB.cell (p := ⟨b, o + 2, none⟩) hb).trans h.n, (hB.cell (p := ⟨b, o + 3, none⟩) hb).trans h.bs,
    h.way0, h.block0, h.n0, h.bat.only (Only.of_new (fun _ => False) hB) (fun _ _ _ x => x), h.cap, h.big, h.nilb, h.byte⟩

theorem ActsAt.below {w w' : World} {ao : Option Addr} {len : Nat} {A : Nat → ActV} (h : ActsAt w ao len A) (hB : Below w.heap.size w w') : ActsAt w' ao len A := fun h0 => by
  obtain ⟨b, off, e, hb, h1⟩ := h h0
  exact ⟨b, off, e, Nat.lt_of_lt_of_le hb hB.size, fun i hi => (h1 i hi).below hb hB⟩

set_option maxRecDepth 100000 in
set_option maxHeartbeats 4000000 in
theorem again_long (ao : Option Addr) (len cap : Nat) (w : World) (hl : 100 < len) (hl2 : len ≤ 9223372036854775807) :
    Calls Try.prog 6 #[.slice ao len cap] w fun e w' => e = .returned (.bool true) ∧ Below w.heap.size w w' := by
  go_enter Try.func6, Try.ntmps6
  go_wp2_with (go_at_call 7; refine (alive_any w).mono ?_; rintro e w1 ⟨rfl, hb⟩)
  go_ret
  exact ⟨rfl, hb⟩

theorem make_five {w w' : World} (hown : w'.ownsRow w.heap.size 5 1 (.slice (some ⟨w.heap.size, 0, none⟩) 1024 1024) 1024 (madeCells (Value.int .u8 0).cells (1024 * 1)).toList) (hg : w.grownBy w' none) :
    w'.heap[w.heap.size]? = some (.cells (By (zeros 1024)).toArray 5 (0, 0)) ∧ w'.cell? ⟨w.heap.size, 5, none⟩ = some (.int .u8 0) ∧ w'.frozen? ⟨w.heap.size, 5, none⟩ = false ∧ w.grownBy w' none := by
  obtain ⟨hb, _⟩ := make_zeros hown hg
  refine ⟨hb, ?_, blk_free hb 5, hg⟩
  have := bytes_at hb 0 5 (by rw [zeros_len]; omega)
  rw [add_at, Nat.zero_add] at this
  rw [this]
  have h2 := zeros_get 1024 5
  simp only [List.getD, h2]

/-- A disk that is not cut, behind a write of a whole block. -/
theorem write_whole (Z xs : List Int) (q : Nat) (hx : xs.length = 1024) (hq : 1024 * q + 1024 ≤ Z.length) :
    ∃ T : DS, writeS ⟨Z, [], false, false, 0⟩ q xs = (true, T) ∧ T.img.length = Z.length ∧ (T.img.drop (1024 * q)).take 1024 = xs ∧ T.log.length = 2 ∧ T.dead = false ∧ ∀ k, k < T.log.length → (T.log.getD k (0, [])).2.length ≤ 1000000 := by
  have l0 : ((xs.drop 0).take 512).length = 512 := by simp [hx]
  have l1 : ((xs.drop 512).take 512).length = 512 := by simp [hx]
  have e : writeS ⟨Z, [], false, false, 0⟩ q xs = (true, ⟨splice (splice Z (1024 * q) ((xs.drop 0).take 512)) (1024 * q + 512) ((xs.drop 512).take 512), [((((2 * q + 0 : Nat) : Int)), (xs.drop 0).take 512), ((((2 * q + 1 : Nat) : Int)), (xs.drop 512).take 512)], false, false, 0⟩) := by
    simp [writeS, stepS, pow, putS, show 512 * (2 * q) = 1024 * q by omega, show 512 * (2 * q + 1) = 1024 * q + 512 by omega]
  refine ⟨_, e, ?_, window_written Z xs (1024 * q) hx hq, rfl, rfl, ?_⟩
  · show (splice _ _ _).length = _
    have l2 : (splice Z (1024 * q) ((xs.drop 0).take 512)).length = Z.length := length_splice _ _ _ (by omega)
    rw [length_splice _ _ _ (by omega), l2]
  · intro k hk
    match k, hk with
    | 0, _ => show ((xs.drop 0).take 512).length ≤ _; omega
    | 1, _ => show ((xs.drop 512).take 512).length ≤ _; omega

theorem again_write {w7 w8 : World} {ed base : Nat} {Z : List Int} (hZ : Z.length = 6144) (hD : DiskAt (fun k => base ≤ k ∧ k < w7.heap.size) w7 ed ⟨Z, [], false, false, 0⟩) (hb : base ≤ w7.heap.size)
    (hm : w8.heap[w7.heap.size]? = some (.cells (By (zeros 1024)).toArray 5 (0, 0))) (hg : w7.grownBy w8 none) :
    Calls Try.prog 9 #[.pointer (some ⟨ed, 0, none⟩), .int .i64 2, .slice (some ⟨w7.heap.size, 0, none⟩) 1024 1024] (w8.setCell ⟨w7.heap.size, 5, none⟩ (.int .u8 9)) fun e w' =>
      e = .returned (.bool true) ∧ ∃ (T : DS) (X : List Int), T.img.length = 6144 ∧ (T.img.drop (1024 * 2)).take 1024 = X ∧ T.log.length = 2 ∧ T.dead = false ∧ (∀ k, k < T.log.length → (T.log.getD k (0, [])).2.length ≤ 1000000) ∧
        DiskAt (fun k => base ≤ k ∧ k < w'.heap.size) w' ed T ∧ Below base w7 w' ∧ BAt w' (some ⟨w7.heap.size, 0, none⟩) 1024 X := by
  have hbk : (w8.setCell ⟨w7.heap.size, 5, none⟩ (.int .u8 9)).heap[w7.heap.size]? = some (.cells (By ((zeros 1024).set 5 9)).toArray 5 (0, 0)) := by
    rw [← By_set]
    exact blk_set hm
  have hO : Only (fun _ => False) w7 (w8.setCell ⟨w7.heap.size, 5, none⟩ (.int .u8 9)) := ((Only.refl (fun _ => False) w7).grown hg (by simp)).setCell (.inr (Nat.le_refl _)) _
  generalize w8.setCell ⟨w7.heap.size, 5, none⟩ (.int .u8 9) = w9 at *
  have hx : ((zeros 1024).set 5 9).length = 1024 := by simp [zeros_len]
  generalize (zeros 1024).set 5 9 = xs at *
  have hD9 := hD.only hO (fun _ _ _ h => h)
  have hlt := lt_of_block hbk
  have hcells : ∀ i, i < 1024 → w9.cell? ((⟨w7.heap.size, 0, none⟩ : Addr).add i) = some (.int .u8 (xs.getD i 0)) := fun i hi => by
    have := bytes_at hbk 0 i (by omega); rwa [Nat.zero_add] at this
  obtain ⟨T, t1, t2, t3, t4, t5, t6⟩ := write_whole Z xs 2 hx (by omega)
  refine (write_yes (fun k => base ≤ k ∧ k < w7.heap.size) w9 ed _ hD9 (by dsimp only; omega) (by dsimp only; omega) (by dsimp only; omega) (by simp) 2 ⟨w7.heap.size, 0, none⟩ 1024 xs (by simp [hasB, hZ]) rfl hx (Nat.le_refl _) (fun h => by have := h.2; simp at this) hlt hcells).mono ?_
  rintro e w' ⟨rfl, h1, h2⟩
  rw [t1] at h1 ⊢
  refine ⟨rfl, T, xs, by rw [t2, hZ], t3, t4, t5, t6, h1.mono (fun k hk e => ⟨?_, hk.lt⟩), (hO.below hb (fun _ h => h.elim)).trans (h2.below (Nat.le_trans hb hO.size) (fun k e => e.1)), ?_⟩
  · rcases e with e | e
    · exact e.1
    · have := hO.size; omega
  · exact BAt.only (W := w9) ⟨hx, fun _ => ⟨_, rfl, hlt, hcells⟩⟩ h2 (fun a e hl hF => by cases e; have := hF.2; simp at this)

/-- The disk behind some acts. -/
structure AgI (s : DS) (k : Nat) : Prop where
  img : s.img.length = 6144
  sane : Sane s (2 * k)

theorem AgI.cut {s : DS} {k : Nat} (h : AgI s k) (n : Int) (hn : n ≤ 9223372036854775807) : AgI { s with cut := decide (0 ≤ n), left := max n 0 } (k + 1) :=
  ⟨h.img, ⟨by have := h.sane.log; dsimp only; omega, h.sane.dat, by dsimp only; omega, by dsimp only; omega⟩⟩

theorem AgI.write {s : DS} {k : Nat} (h : AgI s k) (block : Int) (xs : List Int) : AgI (wrS s block xs).2 (k + 1) :=
  ⟨by rw [(wr_sane h.sane).2, h.img], (wr_sane h.sane).1.mono (by omega)⟩

theorem AgI.start : AgI ⟨List.replicate (1024 * capB 6) 0, [], false, false, 0⟩ 0 := by
  refine ⟨?_, ⟨by decide, fun k hk => by simp at hk, by decide, by decide⟩⟩
  rw [List.length_replicate]
  decide

set_option maxRecDepth 100000 in
set_option maxHeartbeats 4000000 in
theorem again_short (ao : Option Addr) (len cap : Nat) (A : Nat → ActV) (w : World) (hl : len ≤ 100) (h : ActsAt w ao len A) :
    Calls Try.prog 6 #[.slice ao len cap] w fun e w' => e = .returned (.bool true) ∧ Below w.heap.size w w' := by
  obtain ⟨i0, hi, hz0, hz1, hz2⟩ := info5p
  have hnd : decide ((100 : Int) < (len : Int)) = false := by simp; omega
  have HA := Hid.mk h
  clear h
  go_enter Try.func6, Try.ntmps6
  go_wp2_with fail
  refine (alive_any w).mono ?_
  rintro e w1 ⟨rfl, hb1⟩
  have HB1 := Hid.mk hb1
  clear hb1
  go_wp2_with fail
  refine (new_any w1 6).mono ?_
  rintro e w2 ⟨d, rfl, hd2, hD2, hB2⟩
  have HB2 := Hid.mk (HB1.out.trans (hB2.mono HB1.out.size))
  have HD2 := Hid.mk (hD2.mono (H := fun k => w.heap.size ≤ k ∧ k < w2.heap.size) (fun k hk e => ⟨Nat.le_trans HB1.out.size e, hk.lt⟩))
  clear hD2 hB2 HB1
  go_wp2_with fail
  go_loopw [5] (fun i wr => ∃ k : Nat, k ≤ len ∧ i = .int .i64 k ∧ Below w.heap.size w wr ∧ ∃ s, AgI s k ∧ DiskAt (fun j => w.heap.size ≤ j ∧ j < wr.heap.size) wr d s) (fun i _ => len - (intOf i).toNat)
  case atStart => exact ⟨0, by omega, rfl, HB2.out, _, AgI.start, HD2.out⟩
  case round =>
    obtain ⟨k, hk, rfl, hbw, s, hai, hdk⟩ := hrel
    have HBW := Hid.mk hbw
    have HAI := Hid.mk hai
    have HDK := Hid.mk hdk
    clear hbw hai hdk HB2 HD2
    by_cases hlt : k < len
    · obtain ⟨b, off, rfl, hbl, hacts⟩ := HA.out (by omega)
      have hact := (hacts k hlt).below hbl HBW.out
      have HACT := Hid.mk hact
      obtain ⟨ha1, ha2, ha3, ha4, hw0, hbk0, hn0, hbat, hbc, hbig, hbno, hby⟩ := hact
      have hbat0 := (hacts k hlt).bat
      clear hbat hbno hby hacts HA
      generalize A k = V at *
      obtain ⟨vw, vb, vn, vo, vm, vc, vs⟩ := V
      dsimp only at *
      by_cases h3 : 3000 < vm
      · go_wp2
        go_ret
        exact ⟨rfl, HBW.out⟩
      have h3d : decide ((3000 : Int) < (vm : Int)) = false := by simp; omega
      by_cases h2 : vw = 2
      · have h2b : (vw == 2) = true := by simp [h2]
        clear h2
        go_wp2_with fail
        refine (cut_any _ wr d s HDK.out vn).mono ?_
        rintro e w5 ⟨rfl, hD5, hO5⟩
        have HB5 := Hid.mk (HBW.out.trans (hO5.below HBW.out.size (fun j e => e.1)))
        have HD5 := Hid.mk (hD5.mono (H := fun j => w.heap.size ≤ j ∧ j < w5.heap.size) (fun j hj e => ⟨e.1, hj.lt⟩))
        have HI5 := Hid.mk (HAI.out.cut vn hn0.2)
        clear hD5 hO5 HAI HDK HBW HACT
        go_wp2
        go_roundw
        case rel => exact ⟨k + 1, by omega, by go_num, HB5.out, _, HI5.out, HD5.out⟩
        case measure => (clear HB5 HI5 HD5; simp [intOf]; omega)
      · have h2b : (vw == 2) = false := by simp [h2]
        clear h2
        have HWR : Hid (Calls Try.prog 9 #[.pointer (some ⟨d, 0, none⟩), .int .i64 vb, .slice vo vm vc] wr.drew fun e w' => ∃ bt : Bool, e = .returned (.bool bt) ∧
            Hid (w'.cell? ⟨b, off + k * 4 + 1, none⟩ = some (.int .i64 vb) ∧ w'.cell? ⟨b, off + k * 4 + 3, none⟩ = some (.slice vo vm vc)) ∧ Hid (Below w.heap.size w w') ∧ Hid (∃ s', AgI s' (k + 1) ∧ DiskAt (fun j => w.heap.size ≤ j ∧ j < w'.heap.size) w' d s')) := by
          have hlg := HAI.out.sane
          refine (write_any (fun j => w.heap.size ≤ j ∧ j < wr.heap.size) wr.drew d s (2 * k) (HDK.out.at (fun _ _ => rfl)) (by rw [HAI.out.img]; omega) hlg (by omega) vb vo vm vc vs ⟨HACT.out.bat.1, HACT.out.bat.2⟩ hbc (by omega) ?_).mono ?_
          · intro a e h0 hF
            obtain ⟨a', e', hl', _⟩ := hbat0.2 h0
            rw [e] at e'
            cases e'
            omega
          · rintro e w' ⟨rfl, h1, h2⟩
            have hbl2 : b < wr.drew.heap.size := Nat.lt_of_lt_of_le hbl HBW.out.size
            have hsame := h2.block b hbl2 (fun hF => by omega)
            refine ⟨_, rfl, ⟨?_, ?_⟩, HBW.out.trans (⟨h2.os, h2.tape, h2.output, h2.size, fun j hj => h2.block j (Nat.lt_of_lt_of_le hj HBW.out.size) (fun hF => by omega)⟩), _, HAI.out.write vb vs, h1.mono (fun j hj e => ⟨?_, hj.lt⟩)⟩
            · exact (World.cell?_of_block (w := wr.drew) (a := ⟨b, off + k * 4 + 1, none⟩) hsame).trans ha2
            · exact (World.cell?_of_block (w := wr.drew) (a := ⟨b, off + k * 4 + 3, none⟩) hsame).trans ha4
            · rcases e with e | e
              · exact e.1
              · exact Nat.le_trans HBW.out.size e
        clear HAI HDK HBW HACT
        go_wp2_with fail
        go_region_held3 (fun W => W.cell? ⟨b, off + k * 4 + 1, none⟩ = some (.int .i64 vb) ∧ W.cell? ⟨b, off + k * 4 + 3, none⟩ = some (.slice vo vm vc)) (first | exact ⟨ha2, ha4⟩ | exact HS5.out) (first
          | (refine step_call3 rfl 9 (.tmp 47) (.tmp 52) (.tmp 57) #[24, 3, 27] rfl (enters_of Try.func9 (by kernel_rfl) rfl) (.pointer (some ⟨d, 0, none⟩)) (.int .i64 vb) (.slice vo vm vc) rfl rfl rfl HWR.out ?_; rintro e w5 ⟨bt, rfl, HS5, HB5, HD5⟩; refine ⟨_, rfl, ?_⟩))
        have hb5 := HB5.out
        obtain ⟨s', hi5, hd5⟩ := HD5.out
        have HI5 := Hid.mk hi5
        have HD5' := Hid.mk hd5
        clear hi5 hd5 hb5 HD5 HWR HS5
        go_wp2
        go_roundw
        case rel => exact ⟨k + 1, by omega, by go_num, HB5.out, s', HI5.out, HD5'.out⟩
        case measure => (clear HB5 HI5 HD5'; simp [intOf]; omega)
    · obtain rfl : len = k := by omega
      go_wp2_with fail
      refine (image_any _ wr d s HDK.out (by rw [HAI.out.img]; omega)).mono ?_
      rintro e w6 ⟨v6, rfl, hown6, hnn6, hB6⟩
      obtain ⟨g6, cap6, rfl, hg6, hlt6, hcap6, hlen6, hcell6⟩ := owns_bytes hown6 hnn6
      have HW6 := Hid.mk (HBW.out.trans (hB6.mono HBW.out.size))
      have HOF := of_any w6 (some ⟨g6, 0, none⟩) s.img.length cap6 s.img rfl (by rw [HAI.out.img]; omega) (fun _ => ⟨_, rfl, hlt6, hcell6⟩)
      have hofs : ofB s.img = ⟨s.img, [], false, false, 0⟩ := by
        unfold ofB
        rw [HAI.out.img]
        rw [show 1024 * min (6144 / 1024) 20000 = 6144 from by decide, List.take_of_length_le (by rw [HAI.out.img]; omega)]
      rw [hofs] at HOF
      have himg := HAI.out.img
      generalize s.img = Z at *
      have HZ := Hid.mk himg
      have HOF := Hid.mk HOF
      clear hown6 hnn6 hB6 hcell6 hlen6 hofs himg HAI HDK HBW hg6 hlt6 HA
      go_wp2_with fail
      refine HOF.out.mono ?_
      clear HOF
      rintro e w7 ⟨ed, rfl, hd7, hD7, hB7⟩
      have HD7 := Hid.mk (hD7.mono (H := fun k => w.heap.size ≤ k ∧ k < w7.heap.size) (fun k hk e => ⟨Nat.le_trans HW6.out.size e, hk.lt⟩))
      have HW7 := Hid.mk (HW6.out.trans (hB7.mono HW6.out.size))
      clear hD7 hB7 HW6
      go_wp2_with (at_make; refine wpList_make_full _ rfl _ _ 27 rfl w7.heap.size 5 i0 (.int .u8 0) 1 Try.underlying27 hi hz0 hz1 .i64 .i64 _ _ 1024 rfl rfl rfl rfl (by rw [hz2]; omega) (by decide) (Nat.le_refl _) ?_; intro w8 hown hg; have hm := make_five hown hg; obtain ⟨hm1, hm2, hm3, hm6⟩ := hm; have HM := Hid.mk hm1; have HM6 := Hid.mk hm6; clear hown hg hm1 hm6)
      refine (again_write HZ.out HD7.out HW7.out.size HM.out HM6.out).mono ?_
      rintro e w9 ⟨rfl, T, X, t1, t2, t3, t4, t5, hD9, hB9, hbt⟩
      have HT1 := Hid.mk t1
      have HT2 := Hid.mk t2
      have HT3 := Hid.mk t3
      have HT4 := Hid.mk t4
      have HT5 := Hid.mk t5
      have HD9 := Hid.mk hD9
      have HW9 := Hid.mk (HW7.out.trans hB9)
      have HBT := Hid.mk hbt
      clear t1 t2 t3 t4 t5 hD9 hB9 hbt hm2 hm3 HM HM6 HZ HD7 HW7
      go_wp2_with fail
      refine (read_yes _ w9 ed T HD9.out (by rw [HT1.out]; omega) 2 (by simp [hasB, HT1.out]) HT4.out).mono ?_
      rintro e w10 ⟨v10, rfl, hown10, hnn10, hB10⟩
      rw [HT2.out] at hown10
      obtain ⟨xo, xc, rfl, hxb, _, _⟩ := owns_BAt hown10
      have hD10 := HD9.out.only (Only.of_new (fun _ => False) hB10) (fun _ _ _ x => x)
      have hbb := HBT.out.only (Only.of_new (fun _ => False) hB10) (fun _ _ _ x => x)
      have cv1 := conv_bytes w10 xo 1024 xc X hxb
      have cv2 := conv_bytes w10 (some ⟨w7.heap.size, 0, none⟩) 1024 1024 X hbb
      generalize strOfNums X = SX at *
      have HW10 := Hid.mk (HW9.out.trans (hB10.mono HW9.out.size))
      have HDE := dead_any _ w10 ed T hD10
      rw [HT4.out] at HDE
      have HDE := Hid.mk HDE
      have HLO := log_any _ w10 ed T hD10 (by rw [HT3.out]; omega) HT5.out
      rw [HT3.out] at HLO
      have HLO := Hid.mk HLO
      have HBL : Hid (∀ W, Below w10.heap.size w10 W → Calls Try.prog 16 #[.pointer (some ⟨ed, 0, none⟩)] W fun e w' => e = .returned (.int .i64 6) ∧ w' = W) := fun W hW => by
        have := blocks_any _ W ed T (hD10.only (Only.of_new (fun _ => False) hW) (fun _ _ _ x => x)) (by rw [HT1.out]; omega)
        rw [HT1.out] at this
        exact this
      clear hown10 hnn10 hB10 hxb hbb hD10 HBT HD9
      go_wp2_with (first | (go_at_call 14; refine HDE.out.mono ?_; rintro e w11 ⟨rfl, hw⟩; subst w11) | (go_at_call 15; refine HLO.out.mono ?_; rintro e w11 ⟨g11, cells11, rfl, r1, r2, r3, hb11⟩; have HB11 := Hid.mk hb11; clear r1 r2 r3 hb11) | (go_at_call 16; refine (HBL.out _ HB11.out).mono ?_; rintro e w12 ⟨rfl, hw⟩; subst w12))
      go_ret
      exact ⟨rfl, HW10.out.trans (HB11.out.mono HW10.out.size)⟩

end Go.Proofs.Ytochgjajlojfeaa
