/-
  The reference's Need.
-/
import Derived.Test.YthmbhcmicebcpaaLayPt
import Derived.Test.YthmbhcmicebcpaaDpNeed
namespace Go.Proofs.Ythmbhcmicebcpaa
open Go Go.Proofs Go.RowKit Go.Shelf
attribute [local go_sem] Oper.semAt_some
def updT (t : Nat → Bool) (n : Nat) (on : Bool) : Nat → Bool := fun m => if m = n then on else t m
def noT : Nat → Bool := fun _ => false
def bo (n : Nat) (f : Nat → Bool) : Array Value := ((List.range n).map (fun i => Value.bool (f i))).toArray
def OwB (W : World) (s n : Nat) (f : Nat → Bool) : Prop := W.heap[s]? = some (.cells (bo n f) 4 (0, 0))
theorem OwB.lt {W : World} {s n : Nat} {f : Nat → Bool} (h : OwB W s n f) : s < W.heap.size := lt_of_block h
theorem bo_get {n i : Nat} {f : Nat → Bool} (h : i < n) : (bo n f)[i]? = some (.bool (f i)) := by
  unfold bo
  simp [h]
theorem bo_size (n : Nat) (f : Nat → Bool) : (bo n f).size = n := by simp [bo]
theorem OwB.cell {W : World} {s n i : Nat} {f : Nat → Bool} (h : OwB W s n f) (hi : i < n) : W.cell? ⟨s, i, none⟩ = some (.bool (f i)) := by
  rw [blk_cell h, bo_get hi]
theorem OwB.set {W : World} {s n i : Nat} {f : Nat → Bool} (h : OwB W s n f) (v : Bool) : OwB (W.setCell ⟨s, i, none⟩ (.bool v)) s n (updT f i v) := by
  unfold OwB
  rw [blk_set h]
  congr 2
  apply Array.ext_getElem?
  intro j
  rw [Array.getElem?_setIfInBounds]
  rcases Nat.lt_or_ge j n with hj | hj
  · rw [bo_get hj, bo_get hj]
    unfold updT
    by_cases e : i = j
    · subst e
      rw [if_pos rfl, if_pos (by rw [bo_size]; exact hj), if_pos rfl]
    · rw [if_neg e, if_neg (fun h => e h.symm)]
  · rw [Array.getElem?_eq_none (xs := bo n (updT f i v)) (by rw [bo_size]; exact hj), Array.getElem?_eq_none (xs := bo n f) (by rw [bo_size]; exact hj)]
    split <;> simp_all [bo_size]
theorem info4b : (Try.prog.info? 4).map (fun i => (i.zero, i.size, i.bytes)) = some (some (.bool false), 1, 1) := by kernel_rfl
theorem info4p : ∃ i0, Try.prog.info? 4 = some i0 ∧ i0.zero = some (.bool false) ∧ i0.size = 1 ∧ i0.bytes = 1 := by
  cases h : Try.prog.info? 4 with
  | none => have := info4b; rw [h] at this; cases this
  | some i =>
    have h2 := info4b
    rw [h] at h2
    simp at h2
    exact ⟨i, rfl, h2.1, h2.2⟩
theorem makeb_run (w : World) (n : Nat) (hn : n ≤ 16777216) : (Instr.makeSlice 78 (.int .i64 n) (.int .i64 n)).run Try.prog w = .ok (.slice (some ⟨w.heap.size, 0, none⟩) n n) (w.alloc (.cells (bo n noT) 4)) := by
  obtain ⟨i0, hi, hz0, hz1, hz2⟩ := info4p
  rw [run_makeSlice (P := Try.prog) w 78 4 i0 (.bool false) Try.underlying78 hi hz0 .i64 .i64 n n (by omega) (by omega) (by rw [hz1]; simp; omega) (by rw [hz2]; omega) (by omega)]
  have e : madeCells (Value.bool false).cells ((n : Int).toNat * i0.size) = bo n noT := by
    rw [hz1]
    apply Array.ext'
    rw [show (bo n noT).toList = List.replicate n (Value.bool false) by simp [bo, noT, List.map_const'], List.eq_replicate_iff]
    simp [madeCells, Value.cells, Nat.mod_one]
  rw [e]
  simp
/-- Who is wanted so far: those above i are looked at. -/
structure WnI (G : Gp) (xs : List Int) (i : Nat) (f : Nat → Bool) : Prop where
  a : ∀ j : Nat, f j = true → und G j ∧ Reach G xs j
  b : ∀ x ∈ xs, und G x → f x.toNat = true
  c : ∀ y : Nat, i ≤ y → f y = true → ∀ z, hng G y z → f z.toNat = true
theorem wn_end {G : Gp} {xs : List Int} {f : Nat → Bool} (h : WnI G xs 0 f) : pick f G.n = needL G xs := by
  refine rise_ext (pick_pw _ _) (need_pw _ _) (fun x => ?_)
  rw [pick_mem, need_mem]
  constructor
  · rintro ⟨j, rfl, _, q⟩
    exact h.a j q
  · rintro ⟨q1, q2⟩
    have key : ∀ x, Reach G xs x → und G x → f x.toNat = true := fun x hx => by
      induction hx with
      | here hm => exact fun hu => h.b _ hm hu
      | step hr hu hx ih =>
        rename_i i y
        intro _
        have e : ((i.toNat : Nat) : Int) = i := by have := hu.1; omega
        exact h.c i.toNat (Nat.zero_le _) (ih hu) y (by rw [e]; exact hx)
    have := q1.1
    exact ⟨x.toNat, by omega, by omega, key x q2 q1⟩
theorem upd_true {f : Nat → Bool} {n j : Nat} : updT f n true j = true ↔ f j = true ∨ j = n := by
  unfold updT
  by_cases e : j = n
  · simp [e]
  · simp [e]
section
variable {F : Nat → Prop} {w : World} {r : Nat} {v : Value} {G : Gp}
set_option maxRecDepth 100000 in
set_option maxHeartbeats 8000000 in
theorem rneed_any (h : RgAt F w r v G) (hG : G.Ok) (hn : G.n ≤ 100000) (ao : Option Addr) (m cc : Nat) (xs : List Int) (hx : LAt w ao m xs) (hm : m ≤ 100000) : Calls Try.prog 24 #[ptV r, .slice ao m cc] w fun e w' => ∃ u, e = .returned u ∧ Hid (w'.ownsRow w.heap.size 3 1 u (needL G xs).length (Iy (needL G xs)) ∧ Below w.heap.size w w') := by
  obtain ⟨ar, cap, rfl, _⟩ := h.slice
  obtain ⟨n, hnn⟩ : ∃ n, n = G.n := ⟨_, rfl⟩
  have HF : Hid (∀ W, Below w.heap.size w W → W.cell? ⟨r, 0, none⟩ = some (.slice ar n cap) ∧ LAt W ao m xs ∧ (∀ j : Nat, j < n → ∃ gb, ar = some ⟨gb, 0, none⟩ ∧ (∃ a2 m2 c2, W.cell? ⟨gb, j * 3 + 1, none⟩ = some (.slice a2 m2 c2) ∧ LAt W a2 m2 (G.on j) ∧ m2 ≤ 1000000) ∧ W.cell? ⟨gb, j * 3 + 2, none⟩ = some (.bool (G.dn j)))) := Hid.mk (fun W hB => by
    have h2 := h.below hB
    rw [hnn]
    refine ⟨h2.cell, hx.next hB, fun j hj => ?_⟩
    obtain ⟨gb, cap', e, _, _, _, _, hc⟩ := h2.at' (by omega)
    cases e
    exact ⟨gb, rfl, (hc j hj).2.1, (hc j hj).2.2⟩)
  have c0 := h.cell
  rw [← hnn] at c0
  have HN : Hid (n ≤ 100000 ∧ m ≤ 100000 ∧ xs.length = m ∧ n = G.n) := Hid.mk ⟨by omega, hm, hx.1, hnn⟩
  have HG := Hid.mk hG
  obtain ⟨bw, hbw⟩ : ∃ bw, bw = w.heap.size := ⟨_, rfl⟩
  obtain ⟨w1, hw1⟩ : ∃ w1, w1 = w.alloc (.cells (bo n noT) 4) := ⟨_, rfl⟩
  have hmk := makeb_run w n (by omega)
  rw [← hw1, ← hbw] at hmk
  have H1 : Hid (OwB w1 bw n noT ∧ Below w.heap.size w w1) := Hid.mk (by rw [hw1, hbw]; exact ⟨blk_new w _, (Below.refl _ w).alloc (Nat.le_refl _) _⟩)
  have HSET : Hid (∀ W f (j : Nat), OwB W bw n f → Below w.heap.size w W → j < n → W.cell? ⟨bw, j, none⟩ = some (.bool (f j)) ∧ W.frozen? ⟨bw, j, none⟩ = false ∧ Hid (OwB (W.setCell ⟨bw, j, none⟩ (.bool true)) bw n (updT f j true) ∧ Below w.heap.size w (W.setCell ⟨bw, j, none⟩ (.bool true)))) := Hid.mk (fun W f j q1 q2 q3 => ⟨q1.cell q3, blk_free q1 j, Hid.mk ⟨q1.set true, q2.setCell (p := ⟨bw, j, none⟩) (by rw [hbw]; exact Nat.le_refl _) _⟩⟩)
  clear h hG hn hx hm hw1 hnn hbw
  go_enter Try.func24, Try.ntmps24
  go_wp2
  clear hmk c0
  go_loopw [6] (fun kv wr => ∃ k : Nat, kv = .int .i64 k ∧ Hid (k ≤ m ∧ ∃ f, OwB wr bw n f ∧ Below w.heap.size w wr ∧ ∀ j : Nat, f j = true ↔ (j : Int) ∈ xs.take k ∧ und G j)) (fun kv _ => m - (Go.RowKit.intOf kv).toNat)
  case atStart => exact ⟨0, rfl, Hid.mk ⟨Nat.zero_le _, noT, H1.out.1, H1.out.2, fun j => by simp [noT]⟩⟩
  case round =>
    obtain ⟨k, rfl, HK⟩ := hrel
    clear H1
    by_cases hkl : (k : Int) < (m : Int)
    · have HKL : Hid (k < m ∧ k < xs.length) := Hid.mk (by have := HN.out; omega)
      have v1 : IntKind.i64.wrap ((k : Int) + 1) = ((k + 1 : Nat) : Int) := by have := HN.out; rw [IntKind.wrap_i64]; omega
      have k0 : (0 : Int) ≤ (k : Int) := by omega
      obtain ⟨hkm, f, ho, hb, hf⟩ := HK.out
      obtain ⟨c0, hla, hcs⟩ := HF.out wr hb
      obtain ⟨a, rfl, _, hca⟩ := hla.2 (by omega)
      have c1 := hca k HKL.out.1
      have HTK := Hid.mk (take_snocG HKL.out.2)
      generalize xs.getD k 0 = y at c1 HTK
      have HSAME : Hid (¬ und G y → ∀ q, OwB (wr.drewN q) bw n f ∧ Below w.heap.size w (wr.drewN q) ∧ ∀ j : Nat, f j = true ↔ (j : Int) ∈ xs.take (k + 1) ∧ und G j) := Hid.mk (fun hu q => ⟨ho, hb.trans (below_drewN' wr q _ hb.size), fun j => by
        rw [hf j, HTK.out, List.mem_append, List.mem_singleton]
        exact ⟨fun p => ⟨.inl p.1, p.2⟩, fun p => ⟨p.1.elim (fun e => e) (fun e => absurd (e ▸ p.2) hu), p.2⟩⟩⟩)
      by_cases hy0 : 0 ≤ y
      · have hd0 : decide (0 ≤ y) = true := decide_eq_true hy0
        obtain ⟨yn, rfl⟩ : ∃ yn : Nat, y = (yn : Int) := ⟨y.toNat, by omega⟩
        by_cases hyn : yn < n
        · have hd1 : decide ((yn : Int) < (n : Int)) = true := decide_eq_true (by omega)
          have hd2 : decide (yn < n) = true := decide_eq_true hyn
          have hy1 : (yn : Int) < (n : Int) := by omega
          obtain ⟨gb, rfl, _, c2⟩ := hcs yn hyn
          have e9 : (⟨gb, 0, none⟩ : Addr).add (yn * 3) = ⟨gb, yn * 3, none⟩ := by rw [add_at]; simp
          have e8 : (⟨bw, 0, none⟩ : Addr).add (yn * 1) = ⟨bw, yn, none⟩ := by rw [add_at]; simp
          cases hdn : G.dn (yn : Nat) with
          | true =>
            have HS2 := Hid.mk (HSAME.out (fun q => by have q2 : G.dn yn = false := q.2; rw [hdn] at q2; cases q2))
            rw [hdn] at c2
            clear hcs hla hca HK hf ho hb hdn hkm
            go_wp2
            go_quiet (fail)
            go_wp2
            go_roundw
            case rel => exact ⟨k + 1, rfl, Hid.mk ⟨HKL.out.1, f, HS2.out _⟩⟩
            case measure => (have := HKL.out; simp [Go.RowKit.intOf]; omega)
          | false =>
            have HUN : Hid (und G (yn : Nat)) := Hid.mk ⟨⟨by omega, by have := HN.out.2.2.2; omega⟩, hdn⟩
            have HS3 : Hid (∀ q, (wr.drewN q).cell? ⟨bw, yn, none⟩ = some (.bool (f yn)) ∧ (wr.drewN q).frozen? ⟨bw, yn, none⟩ = false ∧ OwB ((wr.drewN q).setCell ⟨bw, yn, none⟩ (.bool true)) bw n (updT f yn true) ∧ Below w.heap.size w ((wr.drewN q).setCell ⟨bw, yn, none⟩ (.bool true)) ∧ ∀ j : Nat, updT f yn true j = true ↔ (j : Int) ∈ xs.take (k + 1) ∧ und G j) := Hid.mk (fun q => by
              obtain ⟨p1, p2, HP⟩ := HSET.out (wr.drewN q) f yn ho (hb.trans (below_drewN' wr q _ hb.size)) hyn
              refine ⟨p1, p2, HP.out.1, HP.out.2, fun j => ?_⟩
              rw [upd_true, hf j, HTK.out, List.mem_append, List.mem_singleton]
              constructor
              · rintro (p | p)
                · exact ⟨.inl p.1, p.2⟩
                · subst p; exact ⟨.inr rfl, HUN.out⟩
              · rintro ⟨p | p, p2⟩
                · exact .inl ⟨p, p2⟩
                · exact .inr (by omega))
            rw [hdn] at c2
            have c4 := ho.cell hyn
            have c5 : wr.frozen? ⟨bw, yn, none⟩ = false := blk_free ho yn
            clear hcs hla hca HK hf ho hb hdn hkm HSAME
            go_wp2
            go_quiet (fail)
            go_wp2
            go_roundw
            case rel => exact ⟨k + 1, rfl, Hid.mk ⟨HKL.out.1, updT f yn true, (HS3.out _).2.2⟩⟩
            case measure => (have := HKL.out; simp [Go.RowKit.intOf]; omega)
        · have hd1 : decide ((yn : Int) < (n : Int)) = false := decide_eq_false (by omega)
          have hd2 : decide (yn < n) = false := decide_eq_false hyn
          have HS2 := Hid.mk (HSAME.out (fun q => by have := q.1.2; have := HN.out.2.2.2; omega))
          clear hcs hla hca HK hf ho hb hkm
          go_wp2
          go_quiet (fail)
          go_wp2
          go_roundw
          case rel => exact ⟨k + 1, rfl, Hid.mk ⟨HKL.out.1, f, HS2.out _⟩⟩
          case measure => (have := HKL.out; simp [Go.RowKit.intOf]; omega)
      · have hd0 : decide (0 ≤ y) = false := decide_eq_false hy0
        have HS2 := Hid.mk (HSAME.out (fun q => hy0 q.1.1))
        clear hcs hla hca HK hf ho hb hkm
        go_wp2
        go_quiet (fail)
        go_wp2
        go_roundw
        case rel => exact ⟨k + 1, rfl, Hid.mk ⟨HKL.out.1, f, HS2.out _⟩⟩
        case measure => (have := HKL.out; simp [Go.RowKit.intOf]; omega)
    · have H2 : Hid (∃ f, OwB wr bw n f ∧ Below w.heap.size w wr ∧ WnI G xs n f) := Hid.mk (by
        obtain ⟨_, f, ho, hb, hf⟩ := HK.out
        rw [List.take_of_length_le (by have := HN.out; omega)] at hf
        refine ⟨f, ho, hb, fun j q => ⟨((hf j).1 q).2, .here ((hf j).1 q).1⟩, fun x hx hu => ?_, fun y hy q => ?_⟩
        · have := hu.1
          exact (hf x.toNat).2 (by rw [show ((x.toNat : Nat) : Int) = x by omega]; exact ⟨hx, hu⟩)
        · have := ((hf y).1 q).2.1.2
          have := HN.out.2.2.2
          omega)
      obtain ⟨c0, _, _⟩ := HF.out wr (by obtain ⟨_, f, ho, hb, hf⟩ := HK.out; exact hb)
      have u1 : IntKind.i64.wrap ((n : Int) - 1) = (n : Int) - 1 := by have := HN.out; rw [IntKind.wrap_i64]; omega
      clear HK
      go_wp2
      clear c0
      go_loopw [7, 8] (fun iv _ wr => ∃ i : Nat, iv = .int .i64 ((i : Int) - 1) ∧ Hid (i ≤ n ∧ ∃ f, OwB wr bw n f ∧ Below w.heap.size w wr ∧ WnI G xs i f)) (fun iv _ _ => (Go.RowKit.intOf iv + 1).toNat)
      case atStart => exact ⟨n, rfl, Hid.mk ⟨Nat.le_refl _, H2.out⟩⟩
      case round =>
        obtain ⟨i, rfl, HI⟩ := hrel
        clear H2
        rcases Nat.eq_zero_or_pos i with hi0 | hi0
        · subst hi0
          have HE : Hid (∃ f, OwB wr bw n f ∧ Below w.heap.size w wr ∧ pick f n = needL G xs) := Hid.mk (by
            obtain ⟨_, f, ho, hb, hf⟩ := HI.out
            exact ⟨f, ho, hb, by rw [HN.out.2.2.2]; exact wn_end hf⟩)
          clear HI
          have z1 : ((0 : Nat) : Int) - 1 = -1 := by omega
          rw [z1]
          obtain ⟨f, ho, hb, hp⟩ := HE.out
          obtain ⟨w0, hw0⟩ : ∃ w0, w0 = wr := ⟨_, rfl⟩
          have HO : Hid (∀ W, Below w0.heap.size w0 W → OwB W bw n f ∧ Below w.heap.size w W) := Hid.mk (fun W hBW => by
            rw [hw0] at hBW
            exact ⟨(hBW.block _ ho.lt).trans ho, hb.trans (hBW.mono hb.size)⟩)
          have HBS : Hid (w.heap.size ≤ w0.heap.size) := Hid.mk (by rw [hw0]; exact hb.size)
          have HP := Hid.mk hp
          have HST : Hid (Below w0.heap.size w0 wr) := Hid.mk (by rw [hw0]; exact Below.refl _ _)
          clear ho hb hp HE hw0
          go_wp2
          go_loopw [9, 10] (fun ov kv W => ∃ k : Nat, kv = .int .i64 k ∧ Hid (k ≤ n ∧ W.ownsRow w0.heap.size 3 1 ov (pick f k).length (Iy (pick f k)) ∧ Below w0.heap.size w0 W)) (fun _ kv _ => n - (Go.RowKit.intOf kv).toNat)
          case atStart => exact ⟨0, rfl, Hid.mk ⟨Nat.zero_le _, own_nil0 _ _, HST.out⟩⟩
          case round =>
            obtain ⟨k, rfl, HK⟩ := hrel
            by_cases hkn : (k : Int) < (n : Int)
            · have HKL : Hid (k < n) := Hid.mk (by omega)
              have v1 : IntKind.i64.wrap ((k : Int) + 1) = ((k + 1 : Nat) : Int) := by have := HN.out; rw [IntKind.wrap_i64]; omega
              have k0 : (0 : Int) ≤ (k : Int) := by omega
              have c4 := (HO.out wr HK.out.2.2).1.cell HKL.out
              have e8 : (⟨bw, 0, none⟩ : Addr).add (k * 1) = ⟨bw, k, none⟩ := by rw [add_at]; simp
              have HT := Hid.mk (pick_succ f k)
              cases hfk : f k with
              | false =>
                have HX : Hid (k + 1 ≤ n ∧ wr.ownsRow w0.heap.size 3 1 u9 (pick f (k + 1)).length (Iy (pick f (k + 1))) ∧ Below w0.heap.size w0 wr) := Hid.mk ⟨HKL.out, by rw [HT.out, hfk]; simpa using HK.out.2.1, HK.out.2.2⟩
                rw [hfk] at c4
                clear HK hfk HT
                go_wp2
                go_roundw
                case rel => exact ⟨k + 1, rfl, HX⟩
                case measure => (have := HKL.out; simp [Go.RowKit.intOf]; omega)
              | true =>
                have HT2 : Hid (pick f (k + 1) = pick f k ++ [(k : Int)]) := Hid.mk (by rw [HT.out, hfk]; simp)
                obtain ⟨v', W', a1, a2, a3⟩ := appendi_one wr w0.heap.size u9 (pick f k).length (pick f k) HK.out.2.1 HK.out.2.2.size (k : Int) (by have := pick_len f k; have := HKL.out; have := HN.out; omega)
                have HA1 := Hid.mk a1
                have HW' : Hid (W'.ownsRow w0.heap.size 3 1 v' (pick f (k + 1)).length (Iy (pick f (k + 1))) ∧ Below w0.heap.size w0 W') := Hid.mk ⟨by rw [HT2.out, List.length_append]; exact a2, HK.out.2.2.trans a3⟩
                rw [hfk] at c4
                clear HK hfk HT a1 a2 a3
                go_wp2_with (first
                  | (at_builtin; refine wpList_append_known rfl _ _ _ rfl _ _ _ _ rfl rfl HA1.out ?_; simp only [Act.put, List.setIfInBounds_toArray, List.set_cons_zero, List.set_cons_succ])
                  | go_in)
                go_roundw
                case rel => exact ⟨k + 1, rfl, Hid.mk ⟨HKL.out, HW'.out⟩⟩
                case measure => (have := HKL.out; simp [Go.RowKit.intOf]; omega)
            · have HE : Hid (wr.ownsRow w.heap.size 3 1 u9 (needL G xs).length (Iy (needL G xs)) ∧ Below w.heap.size w wr) := Hid.mk (by
                have hK := HK.out
                rw [show k = n by omega, HP.out] at hK
                exact ⟨owns_base hK.2.1 HBS.out, (HO.out wr hK.2.2).2⟩)
              clear HK
              go_wp2
              go_ret
              exact ⟨_, rfl, HE⟩
        · obtain ⟨i', rfl⟩ : ∃ i', i = i' + 1 := ⟨i - 1, by omega⟩
          have z1 : ((i' + 1 : Nat) : Int) - 1 = (i' : Int) := by omega
          rw [z1]
          have HI1 : Hid (i' < n) := Hid.mk (by have := HI.out.1; omega)
          obtain ⟨_, f, ho, hb, hf⟩ := HI.out
          have c4 := ho.cell HI1.out
          have i0 : (0 : Int) ≤ (i' : Int) := by omega
          have i1 : (i' : Int) < (n : Int) := by have := HI1.out; omega
          have v1 : IntKind.i64.wrap ((i' : Int) - 1) = (i' : Int) - 1 := by have := HN.out; have := HI1.out; rw [IntKind.wrap_i64]; omega
          have e8 : (⟨bw, 0, none⟩ : Addr).add (i' * 1) = ⟨bw, i', none⟩ := by rw [add_at]; simp
          obtain ⟨c0, _, hcs⟩ := HF.out wr hb
          cases hfi : f i' with
          | false =>
            have HX : Hid (i' ≤ n ∧ ∃ f, OwB wr bw n f ∧ Below w.heap.size w wr ∧ WnI G xs i' f) := Hid.mk ⟨Nat.le_of_lt HI1.out, f, ho, hb, hf.a, hf.b, fun y hy q => by
              rcases Nat.eq_or_lt_of_le hy with e | e
              · subst e; rw [hfi] at q; cases q
              · exact hf.c y e q⟩
            rw [hfi] at c4
            clear hcs c0 hf ho hb HI hfi
            go_wp2
            go_roundw
            case rel => exact ⟨i', rfl, HX⟩
            case measure => (simp [Go.RowKit.intOf])
          | true =>
            rw [hfi] at c4
            obtain ⟨gb, rfl, ⟨a2, m2, c2, d2, dl, dm⟩, _⟩ := hcs i' HI1.out
            have e9 : (⟨gb, 0, none⟩ : Addr).add (i' * 3) = ⟨gb, i' * 3, none⟩ := by rw [add_at]; simp
            obtain ⟨ys, hys⟩ : ∃ ys, ys = G.on i' := ⟨_, rfl⟩
            have HX : Hid (∃ f, OwB wr bw n f ∧ Below w.heap.size w wr ∧ WnI G xs (i' + 1) f ∧ f i' = true) := Hid.mk ⟨f, ho, hb, hf, hfi⟩
            have HYS := Hid.mk hys
            have HDG : Hid (∀ x ∈ ys, ∃ k : Nat, x = (k : Nat) ∧ k < i') := Hid.mk (fun x hx => by
              have := HG.out.dag i' x ⟨by omega, by have := HN.out.2.2.2; omega⟩ (hys ▸ hx)
              exact ⟨x.toNat, by omega, by omega⟩)
            clear hcs hf ho hb HI hfi hys dl dm
            go_wp2
            clear c0 d2 c4
            go_loopw [8] (fun kv wr => ∃ q : Nat, kv = .int .i64 q ∧ Hid (q ≤ ys.length ∧ ∃ f, OwB wr bw n f ∧ Below w.heap.size w wr ∧ WnI G xs (i' + 1) f ∧ f i' = true ∧ ∀ z ∈ ys.take q, und G z → f z.toNat = true)) (fun kv _ => ys.length - (Go.RowKit.intOf kv).toNat)
            case atStart => exact ⟨0, rfl, Hid.mk ⟨Nat.zero_le _, by obtain ⟨f, x1, x2, x3, x4⟩ := HX.out; exact ⟨f, x1, x2, x3, x4, fun z hz => by simp at hz⟩⟩⟩
            case round =>
              obtain ⟨q, rfl, HQ⟩ := hrel
              clear HX
              obtain ⟨hql, f, ho, hb, hf, hfi, hz⟩ := HQ.out
              obtain ⟨c0, _, hcs⟩ := HF.out wr hb
              obtain ⟨gb2, e, ⟨a2, m2, c2, d2, dl, dm⟩, _⟩ := hcs i' HI1.out
              cases e
              rw [← HYS.out] at dl
              have HM2 : Hid (ys.length = m2 ∧ m2 ≤ 1000000) := Hid.mk ⟨dl.1, dm⟩
              by_cases hql2 : (q : Int) < (m2 : Int)
              · have HKL : Hid (q < m2 ∧ q < ys.length) := Hid.mk (by have := HM2.out; omega)
                have v2 : IntKind.i64.wrap ((q : Int) + 1) = ((q + 1 : Nat) : Int) := by have := HM2.out; rw [IntKind.wrap_i64]; omega
                have k0 : (0 : Int) ≤ (q : Int) := by omega
                obtain ⟨a, rfl, _, hca⟩ := dl.2 (by omega)
                have c1 := hca q HKL.out.1
                have HTK := Hid.mk (take_snocG HKL.out.2)
                obtain ⟨y, hy, hyi⟩ := HDG.out (ys.getD q 0) (by rw [List.getD, List.getElem?_eq_getElem HKL.out.2]; exact List.getElem_mem _)
                have hyon : (y : Int) ∈ G.on i' := by rw [← HYS.out, ← hy, List.getD, List.getElem?_eq_getElem HKL.out.2]; exact List.getElem_mem _
                rw [hy] at c1 HTK
                have hyn : y < n := Nat.lt_trans hyi HI1.out
                have y1 : ((y : Nat) : Int) < (n : Int) := by omega
                have y0 : (0 : Int) ≤ ((y : Nat) : Int) := by omega
                have e7 : (⟨gb, 0, none⟩ : Addr).add (y * 3) = ⟨gb, y * 3, none⟩ := by rw [add_at]; simp
                have e6 : (⟨bw, 0, none⟩ : Addr).add (y * 1) = ⟨bw, y, none⟩ := by rw [add_at]; simp
                obtain ⟨gb3, e, _, d3⟩ := hcs y hyn
                cases e
                cases hdn : G.dn (y : Nat) with
                | true =>
                  have HS2 : Hid (∀ p, OwB (wr.drewN p) bw n f ∧ Below w.heap.size w (wr.drewN p) ∧ WnI G xs (i' + 1) f ∧ f i' = true ∧ ∀ z ∈ ys.take (q + 1), und G z → f z.toNat = true) := Hid.mk (fun p => ⟨ho, hb.trans (below_drewN' wr p _ hb.size), hf, hfi, fun z hzm hu => by
                    rw [HTK.out, List.mem_append, List.mem_singleton] at hzm
                    rcases hzm with hzm | rfl
                    · exact hz z hzm hu
                    · have q2 : G.dn y = false := hu.2
                      rw [hdn] at q2; cases q2⟩)
                  rw [hdn] at d3
                  clear hcs dl dm hca HQ hf hfi hz ho hb hdn hy hyon hyi hyn
                  go_wp2
                  go_quiet (fail)
                  go_wp2
                  go_roundw
                  case rel => exact ⟨q + 1, rfl, Hid.mk ⟨HKL.out.2, f, HS2.out _⟩⟩
                  case measure => (have := HKL.out; simp [Go.RowKit.intOf]; omega)
                | false =>
                  have HUN : Hid (und G (y : Nat)) := Hid.mk ⟨⟨by omega, by have := HN.out.2.2.2; omega⟩, hdn⟩
                  have HS3 : Hid (∀ p, OwB ((wr.drewN p).setCell ⟨bw, y, none⟩ (.bool true)) bw n (updT f y true) ∧ Below w.heap.size w ((wr.drewN p).setCell ⟨bw, y, none⟩ (.bool true)) ∧ WnI G xs (i' + 1) (updT f y true) ∧ updT f y true i' = true ∧ ∀ z ∈ ys.take (q + 1), und G z → updT f y true z.toNat = true) := Hid.mk (fun p => by
                    obtain ⟨p1, p2, HP⟩ := HSET.out (wr.drewN p) f y ho (hb.trans (below_drewN' wr p _ hb.size)) hyn
                    refine ⟨HP.out.1, HP.out.2, ⟨fun j hj => ?_, fun x hx hu => upd_true.2 (.inl (hf.b x hx hu)), fun y' hy' hq' z hzz => ?_⟩, upd_true.2 (.inl hfi), fun z hzm hu => ?_⟩
                    · rcases upd_true.1 hj with hj | hj
                      · exact hf.a j hj
                      · subst hj
                        exact ⟨HUN.out, .step (hf.a i' hfi).2 (hf.a i' hfi).1 ⟨hyon, HUN.out⟩⟩
                    · rcases upd_true.1 hq' with hj | hj
                      · exact upd_true.2 (.inl (hf.c y' hy' hj z hzz))
                      · omega
                    · rw [HTK.out, List.mem_append, List.mem_singleton] at hzm
                      rcases hzm with hzm | rfl
                      · exact upd_true.2 (.inl (hz z hzm hu))
                      · exact upd_true.2 (.inr (by omega)))
                  rw [hdn] at d3
                  have c4 := ho.cell hyn
                  have c5 : wr.frozen? ⟨bw, y, none⟩ = false := blk_free ho y
                  clear hcs dl dm hca HQ hf hfi hz ho hb hdn hy hyon hyi hyn
                  go_wp2
                  go_quiet (fail)
                  go_wp2
                  go_roundw
                  case rel => exact ⟨q + 1, rfl, Hid.mk ⟨HKL.out.2, updT f y true, HS3.out _⟩⟩
                  case measure => (have := HKL.out; simp [Go.RowKit.intOf]; omega)
              · have HE : Hid (i' ≤ n ∧ ∃ f, OwB wr bw n f ∧ Below w.heap.size w wr ∧ WnI G xs i' f) := Hid.mk (by
                  refine ⟨Nat.le_of_lt HI1.out, f, ho, hb, hf.a, hf.b, fun y hy p z hzz => ?_⟩
                  rcases Nat.eq_or_lt_of_le hy with e | e
                  · subst e
                    rw [List.take_of_length_le (by have := HM2.out; omega)] at hz
                    exact hz z (by rw [HYS.out]; exact hzz.1) hzz.2
                  · exact hf.c y e p z hzz)
                clear hcs dl dm HQ hf hfi hz ho hb
                go_wp2
                go_roundw
                case rel => exact ⟨i', rfl, HE⟩
                case measure => (simp [Go.RowKit.intOf])
end
end Go.Proofs.Ythmbhcmicebcpaa
