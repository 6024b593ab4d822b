/-
  wood.into: the paths of what is within a directory.
-/
import Derived.Test.YtbahbhaoimabdaaWkStr
import Derived.Sort.CutIn
namespace Go.Proofs.Ytbahbhaoimabdaa
open Go Go.Proofs Go.RowKit Go.Shelf
attribute [local go_sem] Oper.semAt_some

def catB (pre nm : ByteArray) : ByteArray := pre ++ ⟨#[47]⟩ ++ nm
theorem catB_size (pre nm : ByteArray) : (catB pre nm).size = pre.size + 1 + nm.size := by
  unfold catB
  rw [ByteArray.size_append, ByteArray.size_append]
  rfl
abbrev Gone := Nat → Bool
/-- What one slot adds. -/
def stepS (m : Nat) (Nd : Nat → NoV) (rec : Gone → Nat → ByteArray → List ByteArray × Gone) (pre : ByteArray) (e : EnV) (r : List ByteArray × Gone) : List ByteArray × Gone :=
  if e.ino = 0 ∨ 500 < pre.size + 1 + e.nm.size then r else
  match firstN m Nd e.ino with
  | some t => if (Nd t).kind = 2 ∧ r.2 t = false then (r.1 ++ catB pre e.nm :: (rec r.2 t (catB pre e.nm)).1, (rec r.2 t (catB pre e.nm)).2) else (r.1 ++ [catB pre e.nm], r.2)
  | none => (r.1 ++ [catB pre e.nm], r.2)
/-- What the first j slots add. -/
def slotS (m : Nat) (Nd : Nat → NoV) (rec : Gone → Nat → ByteArray → List ByteArray × Gone) (pre : ByteArray) (E : Nat → EnV) (G : Gone) : Nat → List ByteArray × Gone
  | 0 => ([], G)
  | j + 1 => stepS m Nd rec pre (E j) (slotS m Nd rec pre E G j)
/-- The paths within a directory, and which directories were gone into behind it. -/
def intoS (m : Nat) (Nd : Nat → NoV) : Nat → Gone → Nat → ByteArray → List ByteArray × Gone
  | 0, G, _, _ => ([], G)
  | f + 1, G, d, pre => slotS m Nd (intoS m Nd f) pre (Nd d).E (goneF G d) (Nd d).sn
section
variable {m : Nat} {Nd : Nat → NoV} {rec : Gone → Nat → ByteArray → List ByteArray × Gone} {pre : ByteArray} {E : Nat → EnV} {G : Gone}
theorem slotS_pre (j : Nat) : (slotS m Nd rec pre E G j).1 <+: (slotS m Nd rec pre E G (j + 1)).1 := by
  rw [slotS]
  unfold stepS
  split
  · exact List.prefix_refl _
  · split
    · split <;> exact List.prefix_append _ _
    · exact List.prefix_append _ _
theorem slotS_le (i j : Nat) (h : i ≤ j) : (slotS m Nd rec pre E G i).1 <+: (slotS m Nd rec pre E G j).1 := by
  induction j with
  | zero => obtain rfl : i = 0 := by omega
            exact List.prefix_refl _
  | succ j ih =>
    rcases Nat.lt_or_ge i (j + 1) with h1 | h1
    · exact (ih (by omega)).trans (slotS_pre j)
    · obtain rfl : i = j + 1 := by omega
      exact List.prefix_refl _
end
theorem pre_at {L X Y : List ByteArray} {s : ByteArray} {k : Nat} (h : (X ++ s :: Y) <+: L.drop k) : L.getD (k + X.length) ⟨#[]⟩ = s ∧ k + X.length < L.length ∧ Y <+: L.drop (k + X.length + 1) := by
  obtain ⟨r, hr⟩ := h
  have h1 : L.drop (k + X.length) = s :: Y ++ r := by
    rw [← List.drop_drop, ← hr]
    simp
  have hlt : k + X.length < L.length := by
    rcases Nat.lt_or_ge (k + X.length) L.length with h | h
    · exact h
    · rw [List.drop_of_length_le h] at h1; cases h1
  refine ⟨?_, hlt, ?_⟩
  · rw [List.drop_eq_getElem_cons hlt] at h1
    have := (List.cons.inj h1).1
    simp [List.getD, List.getElem?_eq_getElem hlt, this]
  · rw [← List.drop_drop, h1]
    simp
/-- A wood's box. -/
def BoxAt (W : World) (bx : Nat) (ao : Option Addr) (m cc b gb gc l : Nat) : Prop := W.heap[bx]? = some (.cells #[.slice ao m cc, .map (some b), .slice (some ⟨gb, 0, none⟩) m gc, .func (.yield l) #[] #[]] 79 (0, 0))
/-- What holds while into runs, behind some of the slots. -/
structure InI (W0 : World) (S : Nat → Prop) (J : (Nat → Prop) → Nat → World → Prop) (ao : Option Addr) (m cc b gb gc l k : Nat) (G : Gone) (W : World) : Prop where
  j : J (fun x => S x ∨ x = W0.heap.size) k W
  gone : GoAt W gb m G
  box : BoxAt W W0.heap.size ao m cc b gb gc l
  kept : ∀ x, S x → x ≠ gb → W.heap[x]? = W0.heap[x]?
  size : W0.heap.size < W.heap.size
/-- The same within a round: the slot's box is the iterator's own too. -/
structure InR (W0 : World) (S : Nat → Prop) (J : (Nat → Prop) → Nat → World → Prop) (ao : Option Addr) (m cc b gb gc l eb : Nat) (e : EnV) (k : Nat) (G : Gone) (W : World) : Prop where
  j : J (fun x => (S x ∨ x = W0.heap.size) ∨ x = eb) k W
  gone : GoAt W gb m G
  box : BoxAt W W0.heap.size ao m cc b gb gc l
  ent : W.heap[eb]? = some (.cells #[.int .i64 e.ino, .string e.nm] 41 (0, 0))
  kept : ∀ x, S x → x ≠ gb → W.heap[x]? = W0.heap[x]?
  size : W0.heap.size < eb ∧ eb < W.heap.size
section
variable {W0 A B : World} {S : Nat → Prop} {J : (Nat → Prop) → Nat → World → Prop} {ao : Option Addr} {m cc b gb gc l eb k N : Nat} {e : EnV} {G G' : Gone} {V : Nat → Array Value}
theorem InI.enter (h : InI W0 S J ao m cc b gb gc l k G A) (hJ : Jt Try.prog l N V J) (hS : ∀ x, S x → x < W0.heap.size) : InR W0 S J ao m cc b gb gc l A.heap.size e k G (A.alloc (.cells #[.int .i64 e.ino, .string e.nm] 41)) := by
  have hs := h.size
  refine ⟨hJ.step _ _ _ _ _ h.j ((Only.refl _ A).alloc _) (fun x hx => hx.imp id (fun e => by subst e; simp)), h.gone.kept (Below.heap_alloc _ _ _ h.gone.lt), ?_, blk_new A _, fun x hx hne => ?_, hs, by simp⟩
  · exact (Below.heap_alloc _ _ _ hs).trans h.box
  · exact (Below.heap_alloc _ _ _ (by have := hS x hx; omega)).trans (h.kept x hx hne)
theorem InR.leave (h : InR W0 S J ao m cc b gb gc l eb e k G A) (hJ : Jt Try.prog l N V J) : InI W0 S J ao m cc b gb gc l k G A :=
  ⟨hJ.step _ _ _ _ _ h.j (Only.refl _ A) (fun _ hx => .inl (.inl hx)), h.gone, h.box, h.kept, by have := h.size; omega⟩
theorem InR.below (h : InR W0 S J ao m cc b gb gc l eb e k G A) (hJ : Jt Try.prog l N V J) (hS : ∀ x, S x → x < W0.heap.size) (hB : Below A.heap.size A B) : InR W0 S J ao m cc b gb gc l eb e k G B := by
  have hs := h.size
  exact ⟨hJ.step _ _ _ _ _ h.j (Only.of_new _ hB) (fun _ hx => .inl hx), h.gone.kept (hB.block _ h.gone.lt), (hB.block _ (by omega)).trans h.box, (hB.block _ hs.2).trans h.ent, fun x hx hne => (hB.block _ (by have := hS x hx; omega)).trans (h.kept x hx hne), hs.1, Nat.lt_of_lt_of_le hs.2 hB.size⟩
theorem InR.told (h : InR W0 S J ao m cc b gb gc l eb e k G A) (hgb : S gb) (hj : J (fun x => (S x ∨ x = W0.heap.size) ∨ x = eb) (k + 1) B) (hk : ∀ x, (S x ∨ x = W0.heap.size) ∨ x = eb → B.heap[x]? = A.heap[x]?) (hz : A.heap.size ≤ B.heap.size) : InR W0 S J ao m cc b gb gc l eb e (k + 1) G B :=
  ⟨hj, h.gone.kept (hk gb (.inl (.inl hgb))), (hk _ (.inl (.inr rfl))).trans h.box, (hk _ (.inr rfl)).trans h.ent, fun x hx hne => (hk x (.inl (.inl hx))).trans (h.kept x hx hne), h.size.1, Nat.lt_of_lt_of_le h.size.2 hz⟩
theorem InR.went (h : InR W0 S J ao m cc b gb gc l eb e k G A) (hgb : gb < W0.heap.size) {n : Nat} (hj : J (fun x => (S x ∨ x = W0.heap.size) ∨ x = eb) n B) (hg : GoAt B gb m G') (hk : ∀ x, (S x ∨ x = W0.heap.size) ∨ x = eb → x ≠ gb → B.heap[x]? = A.heap[x]?) (hz : A.heap.size ≤ B.heap.size) : InR W0 S J ao m cc b gb gc l eb e n G' B :=
  ⟨hj, hg, (hk _ (.inl (.inr rfl)) (by omega)).trans h.box, (hk _ (.inr rfl) (by have := h.size; omega)).trans h.ent, fun x hx hne => (hk x (.inl (.inl hx)) hne).trans (h.kept x hx hne), h.size.1, Nat.lt_of_lt_of_le h.size.2 hz⟩
end
set_option maxRecDepth 100000 in
set_option maxHeartbeats 4000000 in
theorem into_any {l N : Nat} {L : List ByteArray} {J : (Nat → Prop) → Nat → World → Prop} (hJ : Jt Try.prog l N (fun k => #[.string (L.getD k ⟨#[]⟩)]) J) (hL : L.length = N) {ao : Option Addr} {m cc b gb gc : Nat} {Nd : Nat → NoV} (hNo : ∀ S k A, J S k A → NoAt A ao m Nd) (hnm : ∀ d j, d < m → j < (Nd d).sn → ((Nd d).E j).nm.size ≤ 1000) (hm : m ≤ 9223372036854775806) (hne : b ≠ gb) :
    ∀ (fuel n d : Nat) (pre : ByteArray) (G : Gone) (k c : Nat) (S : Nat → Prop) (W : World), d < m → pre.size ≤ 500 → 501 ≤ pre.size + fuel → J S k W → S b → S gb → MAt W 3 b c (plcF m Nd m) → GoAt W gb m G → (∀ x, S x → x < W.heap.size) → (intoS m Nd fuel G d pre).1 <+: L.drop k →
      CallsIn Fence.wide n Try.prog 43 #[woodV ao m cc b (some ⟨gb, 0, none⟩) m gc (.func (.yield l) #[] #[]), .int .i64 d, .string pre] W fun e W' => e = .returned (.bool true) ∧ J S (k + (intoS m Nd fuel G d pre).1.length) W' ∧ GoAt W' gb m (intoS m Nd fuel G d pre).2 ∧ (∀ x, S x → x ≠ gb → W'.heap[x]? = W.heap[x]?) ∧ W.heap.size ≤ W'.heap.size := by
  intro fuel
  induction fuel with
  | zero => intro n d pre G k c S W hd hp hf; omega
  | succ f ih =>
    intro n d pre G k c S W hd hp hf hj hb hgb hM hG hS hpre
    rw [intoS] at hpre ⊢
    have IH := Hid.mk ih
    have HF := Hid.mk hf
    have HPR := Hid.mk hpre
    have HM := Hid.mk hM
    have HS := Hid.mk hS
    have HJ := Hid.mk hJ
    have HNO := Hid.mk hNo
    have HNM := Hid.mk hnm
    have HSB := Hid.mk (And.intro hb hgb)
    have HMM := Hid.mk hm
    obtain ⟨c0, f0⟩ := hG.cell hd
    obtain ⟨f1, o1, rfl, he1, ⟨z0, z1, z2, z3, z4, z5⟩, -, hE, hwf⟩ := no_at (hNo S k W hj) hd
    have HE := Hid.mk hE
    have HWF := Hid.mk hwf
    have h0d : (0 : Int) ≤ (d : Int) := by omega
    have hdm : (d : Int) < (m : Int) := by omega
    have H0 := Hid.mk (And.intro hj hG)
    clear ih hf hpre hM hG hS hJ hNo hnm hb hgb hm hj hE hwf he1
    unfold woodV
    refine callsIn_of_wp Try.func43 rfl trivial ?_ rfl
    simp only [Try.ntmps43, List.size_toArray, List.length_cons, List.length_nil, Nat.reduceAdd, Nat.reduceSub, Array.replicate_succ, Array.replicate_zero, List.push_toArray, List.append_toArray, List.nil_append, List.cons_append]
    gi_upto_region 1 with fail
    obtain ⟨X, hX⟩ : ∃ X, X = W.alloc (.cells #[.slice (some ⟨f1, o1, none⟩) m cc, .map (some b), .slice (some ⟨gb, 0, none⟩) m gc, .func (.yield l) #[] #[]] 79) := ⟨_, rfl⟩
    rw [← hX]
    have OX : Only (fun _ => False) W X := by rw [hX]; exact (Only.refl _ W).alloc _
    have sX : X.heap.size = W.heap.size + 1 := by rw [hX]; simp
    have gX : BoxAt X W.heap.size (some ⟨f1, o1, none⟩) m cc b gb gc l := by rw [hX]; exact blk_new W _
    have hgX : GoAt X gb m G := H0.out.2.kept (OX.block gb H0.out.2.lt (fun h => h))
    obtain ⟨c1, f2⟩ := hgX.cell hd
    have HGS := Hid.mk (hgX.set hd)
    have HGX := Hid.mk (And.intro gX (And.intro sX OX))
    have x2 := blk_cell gX 2
    simp at x2
    clear hX c0 f0 hgX gX sX OX z0 z1 z2 z3 z4 z5
    gi_upto_region 2 with fail
    obtain ⟨Y, hY⟩ : ∃ Y, Y = X.setCell ⟨gb, d, none⟩ (.bool true) := ⟨_, rfl⟩
    rw [← hY] at HGS ⊢
    have hOY : Only S W Y := by
      rw [hY]
      exact (HGX.out.2.2.mono (fun _ _ h => h.elim)).setCell (.inl HSB.out.2) _
    have hbY : BoxAt Y W.heap.size (some ⟨f1, o1, none⟩) m cc b gb gc l := by
      rw [hY]
      exact (Below.heap_setCell _ _ _ _ (fun e => by have := HS.out gb HSB.out.2; simp at e; omega)).trans HGX.out.1
    have hsY : W.heap.size < Y.heap.size := by
      have h1 := HGX.out.2.1
      rw [hY, World.size_setCell]
      omega
    have HY0 : Hid (InI W S J (some ⟨f1, o1, none⟩) m cc b gb gc l k (goneF G d) Y) := Hid.mk ⟨HJ.out.step _ _ _ _ _ H0.out.1 hOY (fun x h => h.imp id (fun e => by omega)), HGS.out, hbY, fun x hx hne2 => by
      rw [hY]
      exact (Below.heap_setCell _ _ _ _ (fun e => hne2 (by simpa using e))).trans (HGX.out.2.2.block x (HS.out x hx) (fun h => h)), hsY⟩
    obtain ⟨f2, o2, e2, -, ⟨z0, z1, z2, z3, z4, z5⟩, -, -, -⟩ := no_at (HNO.out _ _ _ HY0.out.j) hd
    cases e2
    have x0 := blk_cell hbY 0
    simp at x0
    clear hY hOY hbY hsY HGX HGS x2 c1 f2 H0
    gi_wp2
    clear x0 z0 z1 z2 z3 z4 z5
    gi_loopw [23] (fun iv wr => ∃ j : Nat, j ≤ (Nd d).sn ∧ iv = .int .i64 (j : Int) ∧ Hid (InI W S J (some ⟨f1, o1, none⟩) m cc b gb gc l (k + (slotS m Nd (intoS m Nd f) pre (Nd d).E (goneF G d) j).1.length) (slotS m Nd (intoS m Nd f) pre (Nd d).E (goneF G d) j).2 wr)) (fun iv _ => (((Nd d).sn : Int) - Go.RowKit.intOf iv).toNat)
    case atStart => exact ⟨0, by omega, rfl, Hid.mk HY0.out⟩
    case round =>
      obtain ⟨j, hj, rfl, HK⟩ := hrel
      by_cases hlt : j < (Nd d).sn
      · obtain ⟨-, -, -, -, -, -, hEw, hwf⟩ := no_at (HNO.out _ _ _ HK.out.j) hd
        obtain ⟨eb, eo, hso, -, hec⟩ := hEw (by omega)
        obtain ⟨y0, y1⟩ := hec j hlt
        have hnm := HNM.out d j hd hlt
        have hiw := hwf.2.2.2 j hlt
        have hpj := (slotS_le (m := m) (Nd := Nd) (rec := intoS m Nd f) (pre := pre) (E := (Nd d).E) (G := goneF G d) (j + 1) (Nd d).sn hlt).trans HPR.out
        rw [slotS] at hpj
        have hnx : slotS m Nd (intoS m Nd f) pre (Nd d).E (goneF G d) (j + 1) = stepS m Nd (intoS m Nd f) pre ((Nd d).E j) (slotS m Nd (intoS m Nd f) pre (Nd d).E (goneF G d) j) := rfl
        have HNX := Hid.mk hnx
        generalize hr : slotS m Nd (intoS m Nd f) pre (Nd d).E (goneF G d) j = r at *
        generalize he : (Nd d).E j = e at *
        obtain ⟨ei, en⟩ := e
        dsimp only at *
        have hj0 : (0 : Int) ≤ (j : Int) := by omega
        have hjs : (j : Int) < ((Nd d).sn : Int) := by omega
        rw [hso]
        gi_upto_region 5 with fail
        obtain ⟨X1, hX1⟩ : ∃ X1, X1 = wr.alloc (.cells #[.int .i64 ei, .string en] 41) := ⟨_, rfl⟩
        have HR0 : Hid (InR W S J (some ⟨f1, o1, none⟩) m cc b gb gc l wr.heap.size ⟨ei, en⟩ (k + r.1.length) r.2 X1) := Hid.mk (by rw [hX1]; exact HK.out.enter (e := ⟨ei, en⟩) HJ.out HS.out)
        rw [← hX1]
        have v0 := blk_cell HR0.out.ent 0
        have v1 := blk_cell HR0.out.ent 1
        simp at v0 v1
        clear hX1 y0 y1 hEw hwf hec HK
        generalize hbx : wr.heap.size = bx at HR0 v0 v1 ⊢
        clear hbx
        have hjj : IntKind.i64.wrap ((j : Int) + 1) = (j : Int) + 1 := by have := HWF.out.2.1; rw [IntKind.wrap_i64]; omega
        by_cases h0 : ei = 0
        · subst h0
          have hst : stepS m Nd (intoS m Nd f) pre ⟨0, en⟩ r = r := by unfold stepS; rw [if_pos (.inl rfl)]
          rw [hst] at HNX
          clear hpj hiw hnm
          gi_wp2
          go_roundw
          case rel => exact ⟨j + 1, hlt, by push_cast; rfl, Hid.mk (by rw [HNX.out]; exact HR0.out.leave HJ.out)⟩
          case measure => simp [Go.RowKit.intOf]; omega
        · have h0b : (ei == 0) = false := by simpa using h0
          have hw1 : IntKind.i64.wrap ((pre.size : Int) + 1) = (pre.size : Int) + 1 := by rw [IntKind.wrap_i64]; omega
          have hw2 : IntKind.i64.wrap ((pre.size : Int) + 1 + (en.size : Int)) = (pre.size : Int) + 1 + (en.size : Int) := by rw [IntKind.wrap_i64]; omega
          by_cases h5 : 500 < pre.size + 1 + en.size
          · have hgt : (500 : Int) < (pre.size : Int) + 1 + (en.size : Int) := by omega
            have hst : stepS m Nd (intoS m Nd f) pre ⟨ei, en⟩ r = r := by unfold stepS; rw [if_pos (.inr h5)]
            rw [hst] at HNX
            clear hpj hiw hnm
            gi_wp2
            go_roundw
            case rel => exact ⟨j + 1, hlt, by push_cast; rfl, Hid.mk (by rw [HNX.out]; exact HR0.out.leave HJ.out)⟩
            case measure => simp [Go.RowKit.intOf]; omega
          · have hgt : ¬ (500 : Int) < (pre.size : Int) + 1 + (en.size : Int) := by omega
            gi_upto_region 7 with fail
            have hcat : catB pre en = pre ++ { data := #[47] } ++ en := rfl
            have hcs := catB_size pre en
            rw [← hcat]
            have hst : stepS m Nd (intoS m Nd f) pre ⟨ei, en⟩ r = (match firstN m Nd ei with
              | some t => if (Nd t).kind = 2 ∧ r.2 t = false then (r.1 ++ catB pre en :: (intoS m Nd f r.2 t (catB pre en)).1, (intoS m Nd f r.2 t (catB pre en)).2) else (r.1 ++ [catB pre en], r.2)
              | none => (r.1 ++ [catB pre en], r.2)) := by unfold stepS; rw [if_neg (fun h => h.elim h0 h5)]
            rw [hst] at HNX hpj
            have hask : L.getD (k + r.1.length) ⟨#[]⟩ = catB pre en ∧ k + r.1.length < N := by
              rw [← hL]
              cases hq : firstN m Nd ei with
              | none =>
                rw [hq] at hpj
                exact ⟨(pre_at hpj).1, (pre_at hpj).2.1⟩
              | some t =>
                rw [hq] at hpj
                dsimp only at hpj
                by_cases hc : (Nd t).kind = 2 ∧ r.2 t = false
                · rw [if_pos hc] at hpj
                  exact ⟨(pre_at hpj).1, (pre_at hpj).2.1⟩
                · rw [if_neg hc] at hpj
                  exact ⟨(pre_at hpj).1, (pre_at hpj).2.1⟩
            have hY := HJ.out.ask n _ _ _ HR0.out.j hask.2
            rw [hask.1] at hY
            generalize hs : catB pre en = s at *
            obtain ⟨fn, tmps, assign, body, hy, hR⟩ := hY
            have HR := Hid.mk hR
            have x3 := blk_cell HR0.out.box 3
            simp at x3
            have HPJ := Hid.mk hpj
            have HSZ := Hid.mk hcs
            have H50 := Hid.mk h5
            have HIW := Hid.mk hiw
            clear hR hask hst hcat hpj hcs h5 hiw hs
            gi_upto_if 49 with (refine ⟨(fun h => by simp [Fence.wide] at h), (roundIn_any HR.out).mono ?_⟩; rintro e W4 ⟨rfl, hj4, hk4, hz4⟩)
            have HR1 : Hid (InR W S J (some ⟨f1, o1, none⟩) m cc b gb gc l bx ⟨ei, en⟩ (k + r.1.length + 1) r.2 W4) := Hid.mk (HR0.out.told HSB.out.2 hj4 hk4 hz4)
            have HM4 : Hid (MAt W4 3 b c (plcF m Nd m)) := Hid.mk (HM.out.kept (HR1.out.kept b HSB.out.1 hne))
            have u0 := blk_cell HR1.out.ent 0
            have q0 := blk_cell HR1.out.box 0
            have q1 := blk_cell HR1.out.box 1
            have q2 := blk_cell HR1.out.box 2
            have q3 := blk_cell HR1.out.box 3
            simp at u0 q0 q1 q2 q3
            clear v0 v1 x3 hy HR hj4 hk4 hz4 HR0
            have hpl := plc_first m Nd ei
            cases hq : firstN m Nd ei with
            | none =>
              rw [hq] at hpl HNX HPJ
              have HCL := Hid.mk (closed_none W4 (some ⟨f1, o1, none⟩) m cc b (some ⟨gb, 0, none⟩) m gc (.func (.yield l) #[] #[]) c _ HM4.out ei HIW.out hpl)
              clear hpl hq
              gi_wp2_with (first | (refine ⟨trivial, (fun h => by simp [Fence.wide] at h), ?_⟩; gi_at_call 42; refine (callsIn_wide.2 HCL.out).mono ?_; rintro e w5 ⟨rfl, hB5⟩) | refine ⟨trivial, ?_⟩)
              have HR5 := Hid.mk (HR1.out.below HJ.out HS.out hB5)
              clear hB5 HCL HR1 HM4 u0 q0 q1 q2 q3
              go_roundw
              case rel =>
                refine ⟨j + 1, hlt, by push_cast; rfl, Hid.mk ?_⟩
                rw [HNX.out]
                have := HR5.out.leave HJ.out
                simpa [Nat.add_assoc] using this
              case measure => simp [Go.RowKit.intOf]; omega
            | some t =>
              rw [hq] at hpl HNX HPJ
              dsimp only at HNX HPJ
              obtain ⟨ht, -⟩ := firstN_some hq
              have HT := Hid.mk ht
              have HCL := Hid.mk (closed_some W4 (some ⟨f1, o1, none⟩) m cc b gb m gc (.func (.yield l) #[] #[]) c _ HM4.out ei HIW.out t hpl ht Nd (HNO.out _ _ _ HR1.out.j) (r.2 t) ht (HR1.out.gone.cell ht).1)
              clear hpl hq ht
              by_cases hc : (Nd t).kind = 2 ∧ r.2 t = false
              · rw [if_pos hc] at HNX HPJ
                rw [hc.1, hc.2] at HCL
                simp only [decide_true, Bool.not_false, Bool.and_self] at HCL
                clear hc
                gi_upto_region 10 with (refine ⟨trivial, (fun h => by simp [Fence.wide] at h), ?_⟩; gi_at_call 42; refine (callsIn_wide.2 HCL.out).mono ?_; rintro e w5 ⟨rfl, hB5⟩)
                have HR5 := Hid.mk (HR1.out.below HJ.out HS.out hB5)
                have HM5 : MAt w5 3 b c (plcF m Nd m) := HM.out.kept (HR5.out.kept b HSB.out.1 hne)
                clear hB5 HCL HR1 HM4 u0 q0 q1 q2 q3
                have q0 := blk_cell HR5.out.box 0
                have q1 := blk_cell HR5.out.box 1
                have q2 := blk_cell HR5.out.box 2
                have q3 := blk_cell HR5.out.box 3
                simp at q0 q1 q2 q3
                have HCI := Hid.mk (IH.out (n - 1) t s r.2 (k + r.1.length + 1) c _ w5 HT.out (by have := HSZ.out; have := H50.out; omega) (by have := HSZ.out; have := HF.out; omega) HR5.out.j (.inl (.inl HSB.out.1)) (.inl (.inl HSB.out.2)) HM5 HR5.out.gone (by
                  have h1 := HR5.out.size
                  rintro x ((hx | hx) | hx)
                  · have := HS.out x hx; omega
                  · omega
                  · omega) (pre_at HPJ.out).2.2)
                unfold woodV at HCI
                clear HM5
                gi_upto_if 64 with (refine ⟨trivial, (fun h => by simp [Fence.wide] at h), ?_⟩; gi_at_call 43; refine HCI.out.mono ?_; rintro e w6 ⟨rfl, hj6, hg6, hk6, hz6⟩)
                have HR6 := Hid.mk (HR5.out.went (HS.out gb HSB.out.2) hj6 hg6 hk6 hz6)
                clear HCI HR5 q0 q1 q2 q3 hj6 hg6 hk6 hz6
                gi_wp2
                go_roundw
                case rel =>
                  refine ⟨j + 1, hlt, by push_cast; rfl, Hid.mk ?_⟩
                  rw [HNX.out]
                  have := HR6.out.leave HJ.out
                  simpa [Nat.add_assoc, Nat.add_comm, Nat.add_left_comm] using this
                case measure => simp [Go.RowKit.intOf]; omega
              · rw [if_neg hc] at HNX HPJ
                have hcb : (decide ((Nd t).kind = 2) && !r.2 t) = false := by
                  by_cases h1 : (Nd t).kind = 2
                  · cases h2 : r.2 t with
                    | false => exact absurd ⟨h1, h2⟩ hc
                    | true => simp
                  · simp [h1]
                rw [hcb] at HCL
                clear hc hcb
                gi_wp2_with (first | (refine ⟨trivial, (fun h => by simp [Fence.wide] at h), ?_⟩; gi_at_call 42; refine (callsIn_wide.2 HCL.out).mono ?_; rintro e w5 ⟨rfl, hB5⟩) | refine ⟨trivial, ?_⟩)
                have HR5 := Hid.mk (HR1.out.below HJ.out HS.out hB5)
                clear hB5 HCL HR1 HM4 u0 q0 q1 q2 q3
                go_roundw
                case rel =>
                  refine ⟨j + 1, hlt, by push_cast; rfl, Hid.mk ?_⟩
                  rw [HNX.out]
                  have := HR5.out.leave HJ.out
                  simpa [Nat.add_assoc] using this
                case measure => simp [Go.RowKit.intOf]; omega
      · obtain rfl : j = (Nd d).sn := by omega
        gi_wp2
        refine bodyPost_ret (results_tmp rfl _ _ _) rfl ?_
        exact ⟨rfl, HJ.out.step _ _ _ _ _ HK.out.j (Only.refl _ wr) (fun _ hx => .inl (.inl hx)), HK.out.gone, HK.out.kept, by have := HK.out.size; omega⟩
end Go.Proofs.Ytbahbhaoimabdaa
