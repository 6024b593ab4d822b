/-
  The law's Both.
-/
import Derived.Test.YthmbhcmicebcpaaDpBig
namespace Go.Proofs.Ythmbhcmicebcpaa
open Go Go.Proofs Go.RowKit Go.Shelf
attribute [local go_sem] Oper.semAt_some
/-- A row that may be written. -/
def HrAt (W : World) (ao : Option Addr) (n : Nat) : Prop := 0 < n → ∃ g, ao = some ⟨g, 0, none⟩ ∧ ∃ cur, W.heap[g]? = some (.cells cur 3 (0, 0)) ∧ n ≤ cur.size
theorem hr_of {W : World} {base n c : Nat} {ao : Option Addr} {xs : List Value} (h : W.ownsRow base 3 1 (.slice ao n c) n xs) : HrAt W ao n ∧ ∀ k, (Value.slice ao n c).ownBlock = some k → base ≤ k ∧ k < W.heap.size := by
  rcases h.2 with ⟨e, rfl⟩ | ⟨g, cap, cur, e, hg, hw, h1, _, h2, _⟩
  · cases e
    exact ⟨fun q => by omega, fun k q => by cases q⟩
  · cases e
    exact ⟨fun _ => ⟨g, rfl, cur, hw, by omega⟩, fun k q => by cases q; exact ⟨hg, lt_of_block hw⟩⟩
theorem hr_keep {W W' : World} {n c : Nat} {ao : Option Addr} (h : HrAt W ao n) (hk : ∀ k, (Value.slice ao n c).ownBlock = some k → W'.heap[k]? = W.heap[k]?) : HrAt W' ao n := fun q => by
  obtain ⟨g, e, cur, hw, hl⟩ := h q
  exact ⟨g, e, cur, (hk g (by rw [e]; rfl)).trans hw, hl⟩
theorem hr_cell {W : World} {n k : Nat} {ao : Option Addr} (h : HrAt W ao n) (hk : k < n) : ∃ g u, ao = some ⟨g, 0, none⟩ ∧ W.cell? ⟨g, k, none⟩ = some u ∧ W.frozen? ⟨g, k, none⟩ = false ∧ ∀ v, HrAt (W.setCell ⟨g, k, none⟩ v) (some ⟨g, 0, none⟩) n := by
  obtain ⟨g, rfl, cur, h2, h3⟩ := h (by omega)
  refine ⟨g, cur[k], rfl, ?_, blk_free h2 k, fun v _ => ⟨g, rfl, _, blk_set h2, by simpa using h3⟩⟩
  rw [blk_cell h2]
  exact Array.getElem?_eq_getElem (by omega)
/-- Add in both. -/
theorem both_add {w : World} {g r : Nat} {G : Gp} {A : Ga} (hR : Rel G A) (hG : G.Ok) (hn : G.n < 800000) (b : Int) (hwb : (Lit.int .i64 b).wf = true) (xs : List Int) : ∃ p q : Int, ∃ A1 G1, (Rel G1 A1 ∧ G1.Ok ∧ G1.n ≤ G.n + 1) ∧
    (∀ Y W v ao m cc, Bo Y w W g r v G A → LAt W ao m xs → m < 1000000 → (∀ a, ao = some a → 0 < m → Y a.block) → Calls Try.prog 27 #[ptV g, .int .i64 b, .slice ao m cc] W fun e W' => e = .returned (.tuple #[.int .i64 p, .int .i64 q]) ∧ Hid (Bo Y w W' g r v G A1 ∧ Ky Y W W')) ∧
    (∀ Y W v ao m cc, Bo Y w W g r v G A1 → LAt W ao m xs → (ao = none → m = 0 ∧ cc = 0) → m ≤ 1000000 → Calls Try.prog 30 #[ptV r, .int .i64 b, .slice ao m cc] W fun e W' => e = .returned (.tuple #[.int .i64 p, .int .i64 q]) ∧ Hid (∃ v', Bo Y w W' g r v' G1 A1 ∧ Ky Y W W')) := by
  cases hany : xs.any (noneB G.n) with
  | true =>
    refine ⟨0, 1, A, G, ⟨hR, hG, by omega⟩, fun Y W v ao m cc h hx hm hro => ?_, fun Y W v ao m cc h hx h0 hm => ?_⟩
    · refine (b_add h hR hG hn b hwb ao m cc xs hx hm hro).mono ?_
      rintro e W' ⟨p, q, rfl, HQ⟩
      rcases HQ.out with ⟨⟨_, rfl, rfl, h1⟩ | ⟨e, _⟩, h2⟩
      · exact ⟨rfl, Hid.mk ⟨h1, h2⟩⟩
      · rw [hany] at e; cases e
    · refine (b_radd h (by omega) b ao m cc xs hx h0 hm).mono ?_
      rintro e W' ⟨p, q, rfl, HQ⟩
      rcases HQ.out with ⟨⟨_, rfl, rfl, h1⟩ | ⟨e, _⟩, h2⟩
      · exact ⟨rfl, Hid.mk ⟨v, h1, h2⟩⟩
      · rw [hany] at e; cases e
  | false =>
    have hv : ∀ x ∈ xs, 0 ≤ x ∧ x < (G.n : Int) := fun x hx => by
      have := (List.any_eq_false.1 hany) x hx
      simp [noneB] at this
      omega
    refine ⟨(G.n : Nat), 0, A.add b xs, G.add b xs, ⟨rel_add' hR hG b xs hv, ok_add hG hwb hv, Nat.le_refl _⟩, fun Y W v ao m cc h hx hm hro => ?_, fun Y W v ao m cc h hx h0 hm => ?_⟩
    · refine (b_add h hR hG hn b hwb ao m cc xs hx hm hro).mono ?_
      rintro e W' ⟨p, q, rfl, HQ⟩
      rcases HQ.out with ⟨⟨e, _⟩ | ⟨_, rfl, rfl, h1⟩, h2⟩
      · rw [hany] at e; cases e
      · exact ⟨rfl, Hid.mk ⟨h1, h2⟩⟩
    · refine (b_radd h (by omega) b ao m cc xs hx h0 hm).mono ?_
      rintro e W' ⟨p, q, rfl, HQ⟩
      rcases HQ.out with ⟨⟨e, _⟩ | ⟨_, rfl, rfl, v', h1⟩, h2⟩
      · rw [hany] at e; cases e
      · exact ⟨rfl, Hid.mk ⟨v', h1, h2⟩⟩
/-- Both graphs, and a row that is none of the reference's. -/
def Bu (Y : Nat → Prop) (w W : World) (g r : Nat) (v u : Value) (G : Gp) (A : Ga) : Prop := ∃ Fr, DpO (fun k => Fr k ∨ Y k) w W g A ∧ RgAt Fr W r v G ∧ (∀ k, Fr k → ¬ Y k) ∧ ∀ k, Fr k → u.ownBlock ≠ some k
theorem bu_written {Y : Nat → Prop} {w W : World} {g r : Nat} {v : Value} {G : Gp} {A : Ga} (h : Bo Y w W g r v G A) (hR : Rel G A) (hG : G.Ok) (hn : G.n < 800000) (b : Int) (hwb : (Lit.int .i64 b).wf = true) : Calls Try.prog 25 #[ptV g, .int .i64 b] W fun e W' => ∃ ao c, e = .returned (.slice ao (nxL A b).length c) ∧ Hid (LAt W' ao (nxL A b).length (nxL A b) ∧ Bu Y w W' g r v (.slice ao (nxL A b).length c) G (A.fins (nxL A b)) ∧ Ky Y W W') := by
  obtain ⟨Fr, h1, h2, h3⟩ := h
  refine (r_written2 h1 hR hG (by omega) hwb).mono ?_
  rintro e W' ⟨u, rfl, q1, q2, q3, q4⟩
  obtain ⟨ao, c, rfl, hla⟩ := owns_lat q1
  refine ⟨ao, c, rfl, Hid.mk ⟨hla, ⟨Fr, q2, h2.keep q3 (fun k q _ => q4 k (.inl q)), h3, fun k q e => ?_⟩, fun k q => q4 k (.inr q)⟩⟩
  have := (h1.bx k (.inl q)).2
  have := ((hr_of q1).2 k e).1
  omega
theorem bu_rwritten {Y : Nat → Prop} {w W : World} {g r : Nat} {v : Value} {G : Gp} {A : Ga} {a4 : Option Addr} {m4 c4 : Nat} {S : List Int} (h : Bu Y w W g r v (.slice a4 m4 c4) G A) (hG : G.Ok) (hn : G.n ≤ 1000000) (b : Int) (hla : LAt W a4 m4 S) : Calls Try.prog 31 #[ptV r, .int .i64 b] W fun e W' => ∃ ao c, e = .returned (.slice ao (pick (nxB G b) G.n).length c) ∧ Hid (LAt W' ao (pick (nxB G b) G.n).length (pick (nxB G b) G.n) ∧ LAt W' a4 m4 S ∧ Bo Y w W' g r v (G.fins (pick (nxB G b) G.n)) A ∧ Ky Y W W') := by
  obtain ⟨Fr, h1, h2, h3, h4⟩ := h
  refine (rwritten_any h2 hG hn (fun k q => (h1.bx k (.inl q)).2) b).mono ?_
  rintro e W' ⟨u, rfl, HQ⟩
  obtain ⟨q1, q2, q3⟩ := HQ.out
  obtain ⟨ao, c, rfl, hl2⟩ := owns_lat q1
  obtain ⟨a1, a2⟩ := Bo.onR h1 h3 q3 (q2.mono (fun k _ q => .inl q))
  refine ⟨ao, c, rfl, Hid.mk ⟨hl2, lat_keep hla (fun a e h0 => ?_) q3.size, a1, a2⟩⟩
  obtain ⟨a', e', hl, _⟩ := hla.2 h0
  rw [e] at e'
  cases e'
  exact q3.block _ hl (fun q => h4 _ q (by rw [e]; rfl))
def acO (way bf : Int) (ao : Option Addr) (m cc : Nat) : Obj := .cells #[.int .i64 way, .int .i64 bf, .slice ao m cc] 46
theorem ac_cells {W : World} {b : Nat} {way bf : Int} {ao : Option Addr} {m cc : Nat} (h : W.heap[b]? = some (acO way bf ao m cc)) : W.cell? ⟨b, 0, none⟩ = some (.int .i64 way) ∧ W.cell? ⟨b, 1, none⟩ = some (.int .i64 bf) ∧ W.cell? ⟨b, 2, none⟩ = some (.slice ao m cc) := by
  unfold acO at h
  refine ⟨?_, ?_, ?_⟩ <;> (rw [blk_cell h]; rfl)
/-- What Both leaves. -/
def BothTo (w : World) (n : Nat) (g r : Nat) (W : World) : Prop := ∃ v G A, Bo (fun _ => False) w W g r v G A ∧ Rel G A ∧ G.Ok ∧ G.n ≤ n
set_option maxRecDepth 100000 in
set_option maxHeartbeats 16000000 in
theorem both_any (w0 w : World) (hB0 : Below w0.heap.size w0 w) (ao : Option Addr) (n cc : Nat) (V : Nat → ActV) (hV : ActsAt w0 ao n V) (hn : n ≤ 150) (hVm : ∀ j, j < n → (V j).m ≤ 1000) : Calls Try.prog 11 #[.slice ao n cc] w fun e w' => ∃ g r, e = .returned (.tuple #[ptV g, ptV r, .bool true]) ∧ Hid (BothTo w n g r w') := by
  have HV : Hid (∀ W j, Below w.heap.size w W → j < n → ∃ ab off, ao = some ⟨ab, off, none⟩ ∧ (W.cell? ⟨ab, off + j * 3, none⟩ = some (.int .i64 (V j).way) ∧ W.cell? ⟨ab, off + j * 3 + 1, none⟩ = some (.int .i64 (V j).buf) ∧ W.cell? ⟨ab, off + j * 3 + 2, none⟩ = some (.slice (V j).ao (V j).m (V j).cc)) ∧ LAt W (V j).ao (V j).m (V j).xs ∧ (Lit.int .i64 (V j).buf).wf = true ∧ ((V j).ao = none → (V j).m = 0 ∧ (V j).cc = 0) ∧ (V j).m ≤ 1000) := Hid.mk (fun W j hB hj => by
    obtain ⟨ab, off, e, _, h1, h2, h3, h4, _⟩ := acts_at hV (hB0.trans (hB.mono hB0.size)) hj
    exact ⟨ab, off, e, h1, h2, h3, h4, hVm j hj⟩)
  have HNEW : Hid (Calls Try.prog 28 #[] w fun e W' => ∃ g, e = .returned (ptV g) ∧ Hid (Bo (fun _ => False) w (W'.alloc (.cells #[.slice none 0 0] 32)) g W'.heap.size (.slice none 0 0) Gp.none newD.abs)) := Hid.mk ((o_new (Below.refl _ w)).mono (by
    rintro e W' ⟨rfl, h⟩
    refine ⟨_, rfl, Hid.mk ⟨fun k => k = W'.heap.size, h.side ((Only.refl (fun _ => False) W').alloc _) (fun _ q => q.elim) (fun k q => ?_), ⟨blk_new W' _, rfl, fun k q => (by cases q), [], rfl, World.ownsRow_nil _ _ _ _, fun j hj => (by simp at hj)⟩, fun _ _ q => q⟩⟩
    rcases q with q | q
    · rw [q]; exact ⟨by simp, .inr (Nat.le_refl _)⟩
    · exact q.elim))
  have HN := Hid.mk hn
  clear hV hn hVm hB0
  go_enter Try.func11, Try.ntmps11
  go_upto_region 5 with (first
    | (go_at_call 28; refine HNEW.out.mono ?_; rintro e w1 ⟨g, rfl, H1⟩; clear HNEW)
    | go_in)
  obtain ⟨r, hr⟩ : ∃ r, r = w1.heap.size := ⟨_, rfl⟩
  rw [← hr] at H1 ⊢
  generalize w1.alloc (.cells #[.slice none 0 0] 32) = W1 at H1 ⊢
  clear hr
  go_wp2
  go_loopw [7, 8, 9, 10, 11, 12, 13, 14] (fun iv _ _ _ _ _ _ _ wr => ∃ i : Nat, iv = .int .i64 i ∧ Hid (i ≤ n ∧ ∃ v G A, Bo (fun _ => False) w wr g r v G A ∧ Rel G A ∧ G.Ok ∧ G.n ≤ i)) (fun iv _ _ _ _ _ _ _ _ => n - (Go.RowKit.intOf iv).toNat)
  case atStart => exact ⟨0, rfl, Hid.mk ⟨Nat.zero_le _, _, _, _, H1.out, rel_none, ⟨fun i x h _ => (by have : i < ((0 : Nat) : Int) := h.2; omega), fun i h => (by have : i < ((0 : Nat) : Int) := h.2; omega)⟩, Nat.le_refl _⟩⟩
  case round =>
    obtain ⟨i, rfl, HI⟩ := hrel
    clear H1
    obtain ⟨hin, v, G, A, hBo, hR, hG, hGn⟩ := HI.out
    have HB0 := Hid.mk hBo
    have HR : Hid (Rel G A ∧ G.Ok ∧ G.n ≤ i) := Hid.mk ⟨hR, hG, hGn⟩
    clear HI hBo hR hG hGn
    by_cases hlt : (i : Int) < (n : Int)
    · have u1 : IntKind.i64.wrap ((i : Int) + 1) = ((i + 1 : Nat) : Int) := by have := HN.out; rw [IntKind.wrap_i64]; omega
      have HLT : Hid (i < n) := Hid.mk (by omega)
      obtain ⟨ab, off0, rfl, ⟨t0, t1, t2⟩, hla, hwf, hao, hm⟩ := HV.out wr i HB0.out.bel HLT.out
      have HLA : Hid (∀ W, Below w.heap.size w W → LAt W (V i).ao (V i).m (V i).xs) := Hid.mk (fun W hB => by
        obtain ⟨_, _, _, _, h, _⟩ := HV.out W i hB HLT.out
        exact h)
      have HWF := Hid.mk hwf
      have HAO := Hid.mk hao
      have HMM := Hid.mk hm
      clear hla hwf hao hm HV
      generalize (V i).way = wy at *
      generalize (V i).buf = bf at *
      generalize (V i).ao = xo at *
      generalize (V i).m = m at *
      generalize (V i).cc = xc at *
      generalize (V i).xs = xs at *
      have hP1 : Bo (fun k => k = wr.heap.size) w (wr.alloc (acO wy bf xo m xc)) g r v G A ∧ (wr.alloc (acO wy bf xo m xc)).heap[wr.heap.size]? = some (acO wy bf xo m xc) := ⟨HB0.out.side ((Only.refl (fun _ => False) wr).alloc _) (fun _ q => q.elim) (fun k hk => ⟨by rw [hk]; simp, .inr (by rw [hk]; exact Nat.le_refl _)⟩), blk_new wr _⟩
      have z1 : (0 : Int) ≤ (i : Int) := by omega
      have z2 : ((i : Int)).toNat = i := by simp
      have e9 : (⟨ab, off0, none⟩ : Addr).add (i * 3) = ⟨ab, off0 + i * 3, none⟩ := by rw [add_at]
      obtain ⟨b, hb⟩ : ∃ b, b = wr.heap.size := ⟨_, rfl⟩
      obtain ⟨W1, hW1⟩ : ∃ W1, W1 = wr.alloc (.cells #[.int .i64 wy, .int .i64 bf, .slice xo m xc] 46) := ⟨_, rfl⟩
      have H1 : Hid (Bo (fun k => k = b) w W1 g r v G A ∧ W1.heap[b]? = some (acO wy bf xo m xc)) := Hid.mk (by rw [hW1, hb]; exact hP1)
      clear hP1
      go_upto_region 9 with fail
      rw [← hW1, ← hb]
      clear hW1 hb t0 t1 t2 HB0 e9
      obtain ⟨k0, k1, k2⟩ := ac_cells H1.out.2
      by_cases hw0 : wy = 0
      · subst hw0
        have hLA1 := HLA.out W1 H1.out.1.bel
        obtain ⟨v1, W2, ap, own, apB⟩ := appIs (cc := xc) hLA1 HAO.out (by have := HMM.out; omega)
        obtain ⟨a1, c1, rfl, hla2⟩ := owns_lat own
        obtain ⟨p, q, A1, G1, hf, hadd, hradd⟩ := both_add (w := w) (g := g) (r := r) HR.out.1 HR.out.2.1 (by have := HR.out; have := HN.out; have := HLT.out; omega) bf HWF.out xs
        have HFI := Hid.mk hf
        obtain ⟨hr1, hr2⟩ := hr_of own
        have hbl := (H1.out.1.by' b rfl).2
        have HGB : Hid (∀ k, (Value.slice a1 m c1).ownBlock = some k → k ≠ b) := Hid.mk (fun k q e => by have := (hr2 k q).1; omega)
        have hBo2 : Bo (fun k => k = b ∨ (Value.slice a1 m c1).ownBlock = some k) w W2 g r v G A := H1.out.1.side (Only.of_new (fun _ => False) apB) (fun _ q => q.elim) (fun k q => by
          rcases q with q | q
          · rw [q]; exact ⟨Nat.lt_of_lt_of_le hbl apB.size, .inl rfl⟩
          · exact ⟨(hr2 k q).2, .inr (hr2 k q).1⟩)
        have HADD : Hid (Calls Try.prog 27 #[ptV g, .int .i64 bf, .slice a1 m c1] W2 fun e W' => e = .returned (.tuple #[.int .i64 p, .int .i64 q]) ∧ Hid (Bo (fun k => k = b ∨ (Value.slice a1 m c1).ownBlock = some k) w W' g r v G A1 ∧ HrAt W' a1 m ∧ W'.heap[b]? = some (acO 0 bf xo m xc))) := Hid.mk (by
          refine (hadd _ W2 v a1 m c1 hBo2 hla2 (by have := HMM.out; omega) (fun a e _ => .inr (by rw [e]; rfl))).mono ?_
          rintro e W' ⟨rfl, HQ⟩
          exact ⟨rfl, Hid.mk ⟨HQ.out.1, hr_keep hr1 (fun k q => HQ.out.2 k (.inr q)), (HQ.out.2 b (.inl rfl)).trans ((apB.block b hbl).trans H1.out.2)⟩⟩)
        have HRADD : Hid (∀ W, Bo (fun k => k = b ∨ (Value.slice a1 m c1).ownBlock = some k) w W g r v G A1 → Calls Try.prog 30 #[ptV r, .int .i64 bf, .slice xo m xc] W fun e W' => e = .returned (.tuple #[.int .i64 p, .int .i64 q]) ∧ Hid (∃ v', Bo (fun _ => False) w W' g r v' G1 A1)) := Hid.mk (fun W h => by
          refine (hradd _ W v xo m xc h (HLA.out W h.bel) HAO.out (by have := HMM.out; omega)).mono ?_
          rintro e W' ⟨rfl, HQ⟩
          obtain ⟨v', h1, _⟩ := HQ.out
          exact ⟨rfl, Hid.mk ⟨v', h1.side (Only.refl (fun _ => False) W') (fun _ q => q.elim) (fun _ q => q.elim)⟩⟩)
        have HAP := Hid.mk ap
        have HB2 : Hid (W2.heap[b]? = some (acO 0 bf xo m xc)) := Hid.mk ((apB.block b hbl).trans H1.out.2)
        have HML : Hid (m ≤ 1000) := HMM
        have HNUM : Hid (∀ W, Calls Try.prog 29 #[.int .i64 q] W fun e W' => e = .returned (.int .i64 q) ∧ W' = W) := Hid.mk (fun W => num_any W q)
        clear ap own apB hla2 hf hadd hradd hr1 hr2 hbl hBo2 hLA1 H1
        go_upto_region 12 with (first
          | (at_builtin; refine wpList_append_known rfl _ _ _ rfl _ _ _ _ rfl rfl HAP.out ?_; simp only [Act.put, List.setIfInBounds_toArray, List.set_cons_zero, List.set_cons_succ]; clear k0 k1 k2; obtain ⟨k0, k1, k2⟩ := ac_cells HB2.out)
          | (go_at_call 27; refine HADD.out.mono ?_; rintro e w3 ⟨rfl, H3⟩; clear HADD)
          | go_in)
        clear k0 k1 k2 HB2 HAP
        go_wp2
        go_loopw [12] (fun kv wr => ∃ k : Nat, kv = .int .i64 k ∧ Hid (k ≤ m ∧ Bo (fun k => k = b ∨ (Value.slice a1 m c1).ownBlock = some k) w wr g r v G A1 ∧ HrAt wr a1 m ∧ wr.heap[b]? = some (acO 0 bf xo m xc))) (fun kv _ => m - (Go.RowKit.intOf kv).toNat)
        case atStart => exact ⟨0, rfl, Hid.mk ⟨Nat.zero_le _, H3.out⟩⟩
        case round =>
          obtain ⟨k, rfl, HK⟩ := hrel
          clear H3
          by_cases hkl : (k : Int) < (m : Int)
          · have HKL : Hid (k < m) := Hid.mk (by omega)
            have v1 : IntKind.i64.wrap ((k : Int) + 1) = ((k + 1 : Nat) : Int) := by
              have := HML.out
              rw [IntKind.wrap_i64]
              omega
            obtain ⟨gg, u, rfl, c1', c2', HST⟩ := hr_cell HK.out.2.2.1 HKL.out
            have e8 : (⟨gg, 0, none⟩ : Addr).add (k * 1) = ⟨gg, k, none⟩ := by rw [add_at]; simp
            have HNX : Hid (Bo (fun k => k = b ∨ (Value.slice (some ⟨gg, 0, none⟩) m c1).ownBlock = some k) w (wr.setCell ⟨gg, k, none⟩ (.int .i64 0)) g r v G A1 ∧ HrAt (wr.setCell ⟨gg, k, none⟩ (.int .i64 0)) (some ⟨gg, 0, none⟩) m ∧ (wr.setCell ⟨gg, k, none⟩ (.int .i64 0)).heap[b]? = some (acO 0 bf xo m xc)) := Hid.mk ⟨HK.out.2.1.side ((Only.refl (fun j => j = gg) wr).setCell (p := ⟨gg, k, none⟩) (.inl rfl) _) (fun j hj => .inr (by rw [hj]; rfl)) (fun j q => ⟨by have := (HK.out.2.1.by' j q).2; simp; exact this, .inl q⟩), HST _, (Below.heap_setCell _ _ _ _ (fun e => HGB.out gg rfl e.symm)).trans HK.out.2.2.2⟩
            clear HST
            go_wp2
            go_roundw
            case rel => exact ⟨k + 1, rfl, Hid.mk ⟨HKL.out, HNX.out⟩⟩
            case measure => (have := HKL.out; simp [Go.RowKit.intOf]; omega)
          · obtain ⟨k0, k1, k2⟩ := ac_cells HK.out.2.2.2
            have HRA := Hid.mk (HRADD.out wr HK.out.2.1)
            clear HRADD
            go_wp2_with (first
              | (go_at_call 30; refine HRA.out.mono ?_; rintro e w4 ⟨rfl, H4⟩; have HNU := Hid.mk (HNUM.out w4); clear HRA HNUM)
              | (go_at_call 29; refine HNU.out.mono ?_; rintro e w5 ⟨rfl, hw5⟩; have hw5' := hw5.symm; clear hw5; subst hw5')
              | go_in)
            go_roundw
            case rel =>
              obtain ⟨v', h4⟩ := H4.out
              exact ⟨i + 1, rfl, Hid.mk ⟨HLT.out, v', G1, A1, h4, HFI.out.1, HFI.out.2.1, by have := HFI.out.2.2; have := HR.out.2.2; omega⟩⟩
            case measure => (have := HLT.out; simp [Go.RowKit.intOf]; omega)
      · have hw1 : (wy == 0) = false := by simpa using hw0
        have HD : Hid (Bo (fun k => k = b) w W1.drew g r v G A ∧ W1.drew.heap[b]? = some (acO wy bf xo m xc)) := Hid.mk ⟨H1.out.1.grow (drew_below W1), H1.out.2⟩
        obtain ⟨S, hS⟩ : ∃ S, S = nxL A bf := ⟨_, rfl⟩
        obtain ⟨sl, hsl⟩ : ∃ sl, sl = S.length := ⟨_, rfl⟩
        have HS2 : Hid (pick (nxB G bf) G.n = S) := Hid.mk (by rw [hS]; exact nx_same HR.out.1 HR.out.2.1 bf)
        have HSL : Hid (sl = S.length ∧ sl ≤ 150) := Hid.mk (by
          have := pick_len (nxB G bf) G.n
          rw [HS2.out] at this
          have := HR.out.2.2
          have := HN.out
          have := HLT.out
          omega)
        have HWR : Hid (Calls Try.prog 25 #[ptV g, .int .i64 bf] W1.drew fun e W' => ∃ a4 c4, e = .returned (.slice a4 sl c4) ∧ Hid (LAt W' a4 sl S ∧ Bu (fun k => k = b) w W' g r v (.slice a4 sl c4) G (A.fins S) ∧ Ky (fun k => k = b) W1.drew W')) := Hid.mk (by
          have h := bu_written HD.out.1 HR.out.1 HR.out.2.1 (by have := HR.out.2.2; have := HN.out; have := HLT.out; omega) bf HWF.out
          rw [← hS, ← hsl] at h
          exact h)
        have HRW : Hid (∀ W4 a4 c4, LAt W4 a4 sl S ∧ Bu (fun k => k = b) w W4 g r v (.slice a4 sl c4) G (A.fins S) ∧ Ky (fun k => k = b) W1.drew W4 → Calls Try.prog 31 #[ptV r, .int .i64 bf] W4 fun e W' => ∃ a5 c5, e = .returned (.slice a5 sl c5) ∧ Hid ((LAt W' a5 sl S ∧ LAt W' a4 sl S) ∧ Bo (fun k => k = b) w W' g r v (G.fins S) (A.fins S) ∧ Ky (fun k => k = b) W4 W')) := Hid.mk (fun W4 a4 c4 h4 => by
          obtain ⟨p1, p2, p3⟩ := h4
          have h := bu_rwritten p2 HR.out.2.1 (by have := HR.out.2.2; have := HN.out; have := HLT.out; omega) bf p1
          rw [HS2.out, ← hsl] at h
          refine h.mono ?_
          rintro e W' ⟨a5, c5, rfl, HQ⟩
          obtain ⟨q1, q2, q3, q4⟩ := HQ.out
          exact ⟨a5, c5, rfl, Hid.mk ⟨⟨q1, q2⟩, q3, q4⟩⟩)
        have HSI : Hid (∀ W5 a4 c4 a5 c5, ∀ {P Q : Prop}, ((LAt W5 a5 sl S ∧ LAt W5 a4 sl S) ∧ P ∧ Q) → Calls Try.prog 15 #[.slice a4 sl c4, .slice a5 sl c5] W5 fun e W' => e = .returned (.bool true) ∧ Hid (Below W5.heap.size W5 W')) := Hid.mk (fun W5 a4 c4 a5 c5 _ _ h => by
          refine (sameints_any W5 a4 a5 sl sl c4 c5 S S h.1.2 h.1.1 (by have := HSL.out; omega) (by have := HSL.out; omega)).mono ?_
          rintro e W' ⟨rfl, hB⟩
          exact ⟨by simp, Hid.mk hB⟩)
        have HBX : Hid (∀ W4, Ky (fun k => k = b) W1.drew W4 → W4.cell? ⟨b, 1, none⟩ = some (.int .i64 bf)) := Hid.mk (fun W4 h => (ac_cells ((h b rfl).trans HD.out.2)).2.1)
        have HBX2 : Hid (∀ W4 W5, Ky (fun k => k = b) W1.drew W4 → Ky (fun k => k = b) W4 W5 → W5.cell? ⟨b, 1, none⟩ = some (.int .i64 bf)) := Hid.mk (fun W4 W5 h h2 => (ac_cells ((h2 b rfl).trans ((h b rfl).trans HD.out.2))).2.1)
        have HBX3 : Hid (∀ W4 W5 W6, Ky (fun k => k = b) W1.drew W4 → Ky (fun k => k = b) W4 W5 → Below W5.heap.size W5 W6 → W6.cell? ⟨b, 1, none⟩ = some (.int .i64 bf)) := Hid.mk (fun W4 W5 W6 h h2 hB => by
          have e5 := (h2 b rfl).trans ((h b rfl).trans HD.out.2)
          exact (ac_cells ((hB.block b (lt_of_block e5)).trans e5)).2.1)
        have hH : (fun W : World => W.cell? ⟨b, 1, none⟩ = some (.int .i64 bf)) W1.drew := (ac_cells HD.out.2).2.1
        have HFI : Hid (Rel (G.fins S) (A.fins S) ∧ (G.fins S).Ok ∧ (G.fins S).n ≤ i + 1) := Hid.mk (by
          rw [hS]
          exact ⟨rel_written HR.out.1 bf, ok_fins HR.out.2.1 _, by rw [(fins_same _).1]; have := HR.out.2.2; omega⟩)
        clear hS hsl H1
        go_wp2
        refine wp_region_held_drew (S := fun W : World => W.cell? ⟨b, 1, none⟩ = some (.int .i64 bf)) (by kernel_rfl) hH (fun hH => ?_)
        change wpAnyH Try.prog Region.Mode.any _ _ _ 10 _ _ _
        refine takeH 0 71 (ptV g) rfl (by kernel_rfl) (by kernel_rfl) (by kernel_rfl) (by kernel_rfl) (fun _ _ _ h => h) (by kernel_rfl) (fun w hw => by kernel_rfl) hH ?_
        simp only [List.setIfInBounds_toArray, List.set_cons_zero, List.set_cons_succ]
        refine takeH 1 72 (.pointer (some ⟨b, 1, none⟩)) rfl (by kernel_rfl) (by kernel_rfl) (by kernel_rfl) (by kernel_rfl) (fun _ _ _ h => h) (by kernel_rfl) (fun w hw => by go_simp) hH ?_
        simp only [List.setIfInBounds_toArray, List.set_cons_zero, List.set_cons_succ]
        refine takeH 2 73 (.int .i64 bf) rfl (by kernel_rfl) (by kernel_rfl) (by kernel_rfl) (by kernel_rfl) (fun _ _ _ h => h) (by kernel_rfl) (fun w hw => by go_simp) hH ?_
        simp only [List.setIfInBounds_toArray, List.set_cons_zero, List.set_cons_succ]
        refine takeH 4 75 (ptV r) rfl (by kernel_rfl) (by kernel_rfl) (by kernel_rfl) (by kernel_rfl) (fun _ _ _ h => h) (by kernel_rfl) (fun w hw => by kernel_rfl) hH ?_
        simp only [List.setIfInBounds_toArray, List.set_cons_zero, List.set_cons_succ]
        refine takeH 5 76 (.pointer (some ⟨b, 1, none⟩)) rfl (by kernel_rfl) (by kernel_rfl) (by kernel_rfl) (by kernel_rfl) (fun _ _ _ h => h) (by kernel_rfl) (fun w hw => by go_simp) hH ?_
        simp only [List.setIfInBounds_toArray, List.set_cons_zero, List.set_cons_succ]
        refine takeH 6 77 (.int .i64 bf) rfl (by kernel_rfl) (by kernel_rfl) (by kernel_rfl) (by kernel_rfl) (fun _ _ _ h => h) (by kernel_rfl) (fun w hw => by go_simp) hH ?_
        simp only [List.setIfInBounds_toArray, List.set_cons_zero, List.set_cons_succ]
        refine stepH_call 3 74 rfl (by kernel_rfl) (by kernel_rfl) (by kernel_rfl) 25 #[.tmp 71, .tmp 73] #[26, 3] (by kernel_rfl) (enters_of Try.func25 (by kernel_rfl) rfl) #[ptV g, .int .i64 bf] (by kernel_rfl) HWR.out ?_
        rintro e w4 ⟨a4, c4, rfl, H4⟩
        have hH := HBX.out w4 H4.out.2.2
        refine ⟨_, rfl, hH, ?_⟩
        simp only [List.setIfInBounds_toArray, List.set_cons_zero, List.set_cons_succ]
        refine stepH_call 7 78 rfl (by kernel_rfl) (by kernel_rfl) (by kernel_rfl) 31 #[.tmp 75, .tmp 77] #[27, 3] (by kernel_rfl) (enters_of Try.func31 (by kernel_rfl) rfl) #[ptV r, .int .i64 bf] (by kernel_rfl) (HRW.out w4 a4 c4 H4.out) ?_
        rintro e w5 ⟨a5, c5, rfl, H5⟩
        have hH := HBX2.out w4 w5 H4.out.2.2 H5.out.2.2
        refine ⟨_, rfl, hH, ?_⟩
        simp only [List.setIfInBounds_toArray, List.set_cons_zero, List.set_cons_succ]
        refine stepH_call 8 79 rfl (by kernel_rfl) (by kernel_rfl) (by kernel_rfl) 15 #[.tmp 74, .tmp 78] #[23, 23] (by kernel_rfl) (enters_of Try.func15 (by kernel_rfl) rfl) #[.slice a4 sl c4, .slice a5 sl c5] (by kernel_rfl) (HSI.out w5 a4 c4 a5 c5 H5.out) ?_
        rintro e w6 ⟨rfl, H6⟩
        have hH := HBX3.out w4 w5 w6 H4.out.2.2 H5.out.2.2 H6.out
        refine ⟨_, rfl, hH, ?_⟩
        simp only [List.setIfInBounds_toArray, List.set_cons_zero, List.set_cons_succ]
        refine takeH 9 80 (.bool false) rfl (by kernel_rfl) (by kernel_rfl) (by kernel_rfl) (by kernel_rfl) (fun _ _ _ h => h) (by kernel_rfl) (fun w hw => by go_simp) hH ?_
        simp only [List.setIfInBounds_toArray, List.set_cons_zero, List.set_cons_succ]
        refine wpAnyH_done (by kernel_rfl) ?_ _
        go_wp2
        go_roundw
        case rel => exact ⟨i + 1, rfl, Hid.mk ⟨HLT.out, v, _, _, (H5.out.2.1.grow H6.out).side (Only.refl (fun _ => False) w6) (fun _ q => q.elim) (fun _ q => q.elim), HFI.out⟩⟩
        case measure => (have := HLT.out; simp [Go.RowKit.intOf]; omega)
    · obtain rfl : i = n := by omega
      have HF : Hid (BothTo w i g r wr) := Hid.mk ⟨v, G, A, HB0.out, HR.out.1, HR.out.2.1, HR.out.2.2⟩
      clear HV HB0 HR
      go_wp2
      refine bodyPost_ret (results_tmp3 rfl _ _ _) rfl ?_
      exact ⟨g, r, rfl, HF⟩
end Go.Proofs.Ythmbhcmicebcpaa
