/-
  Rows of calls that came in; whether they are too great.
-/
import Derived.Test.YtehaoeclnmelhabGreatTrAlive
namespace Go.Proofs.YtehaoeclnmelhabGreat
open Go Go.Proofs Go.RowKit Go.Shelf Go.Sort

/-- A call as it was handed over. -/
structure ClV where
  kd : Int
  p : ByteArray
  q : ByteArray
  off : Int
  n : Int
  ao : Option Addr
  m : Nat
  cc : Nat
  xs : List Int
/-- What holds of every call that came in. -/
structure ClV.wf (c : ClV) : Prop where
  kd : (Lit.int .i64 c.kd).wf = true
  off : (Lit.int .i64 c.off).wf = true
  n : (Lit.int .i64 c.n).wf = true
  cap : c.m ≤ c.cc ∧ c.cc ≤ 9223372036854775807
  nil : c.ao = none → c.m = 0 ∧ c.cc = 0
  bytes : ∀ x ∈ c.xs, 0 ≤ x ∧ x ≤ 255
def ClV.val (c : ClV) : Value := callV c.kd c.p c.q c.off c.n (.slice c.ao c.m c.cc)
/-- A row of calls that came in. -/
def ClAt (W : World) (ao : Option Addr) (n : Nat) (V : Nat → ClV) : Prop :=
  0 < n → ∃ ab o, ao = some ⟨ab, o, none⟩ ∧ ab < W.heap.size ∧ ∀ j, j < n → (W.cell? ⟨ab, o + j * 6, none⟩ = some (.int .i64 (V j).kd) ∧ W.cell? ⟨ab, o + j * 6 + 1, none⟩ = some (.string (V j).p) ∧ W.cell? ⟨ab, o + j * 6 + 2, none⟩ = some (.string (V j).q) ∧ W.cell? ⟨ab, o + j * 6 + 3, none⟩ = some (.int .i64 (V j).off) ∧ W.cell? ⟨ab, o + j * 6 + 4, none⟩ = some (.int .i64 (V j).n) ∧ W.cell? ⟨ab, o + j * 6 + 5, none⟩ = some (.slice (V j).ao (V j).m (V j).cc)) ∧ BAt W (V j).ao (V j).m (V j).xs ∧ (V j).wf
theorem cl_at {W W' : World} {ao : Option Addr} {n : Nat} {V : Nat → ClV} (h : ClAt W ao n V) (hB : Below W.heap.size W W') {j : Nat} (hj : j < n) : ∃ ab o, ao = some ⟨ab, o, none⟩ ∧ ab < W.heap.size ∧ (W'.cell? ⟨ab, o + j * 6, none⟩ = some (.int .i64 (V j).kd) ∧ W'.cell? ⟨ab, o + j * 6 + 1, none⟩ = some (.string (V j).p) ∧ W'.cell? ⟨ab, o + j * 6 + 2, none⟩ = some (.string (V j).q) ∧ W'.cell? ⟨ab, o + j * 6 + 3, none⟩ = some (.int .i64 (V j).off) ∧ W'.cell? ⟨ab, o + j * 6 + 4, none⟩ = some (.int .i64 (V j).n) ∧ W'.cell? ⟨ab, o + j * 6 + 5, none⟩ = some (.slice (V j).ao (V j).m (V j).cc)) ∧ BAt W' (V j).ao (V j).m (V j).xs ∧ (V j).wf := by
  obtain ⟨ab, o, e, hl, hc⟩ := h (by omega)
  obtain ⟨⟨x0, x1, x2, x3, x4, x5⟩, x6, x7⟩ := hc j hj
  have hb := hB.block ab hl
  have hk := fun (i : Nat) => World.cell?_of_block (w := W) (w' := W') (a := ⟨ab, i, none⟩) hb
  exact ⟨ab, o, e, hl, ⟨(hk _).trans x0, (hk _).trans x1, (hk _).trans x2, (hk _).trans x3, (hk _).trans x4, (hk _).trans x5⟩, x6.only (Only.of_new (fun _ => False) hB) (fun _ _ _ h => h), x7⟩
/-- Is a call too much? -/
def ClV.big (c : ClV) : Bool := decide (1000 < c.p.size) || decide (1000 < c.q.size) || decide (9000 < c.m)
set_option maxRecDepth 100000 in
set_option maxHeartbeats 4000000 in
theorem bigcall_any (w : World) (k : Int) (p q : ByteArray) (off n : Int) (ao : Option Addr) (m cc : Nat) : Calls Tryz.prog 24 #[callV k p q off n (.slice ao m cc)] w fun e w' => e = .returned (.bool (decide (1000 < p.size) || decide (1000 < q.size) || decide (9000 < m))) ∧ Below w.heap.size w w' := by
  unfold callV
  by_cases h1 : 1000 < p.size
  · have d1 : (1000 : Int) < (p.size : Int) := by omega
    rw [decide_eq_true h1]
    go_enter Tryz.func24, Tryz.ntmps24
    go_wp2
    go_ret
    exact ⟨rfl, (Below.refl _ w).alloc (Nat.le_refl _) _⟩
  · have d1 : ¬ (1000 : Int) < (p.size : Int) := by omega
    rw [decide_eq_false h1]
    by_cases h2 : 1000 < q.size
    · have d2 : (1000 : Int) < (q.size : Int) := by omega
      rw [decide_eq_true h2]
      go_enter Tryz.func24, Tryz.ntmps24
      go_wp2
      go_ret
      exact ⟨rfl, (Below.refl _ w).alloc (Nat.le_refl _) _⟩
    · have d2 : ¬ (1000 : Int) < (q.size : Int) := by omega
      rw [decide_eq_false h2]
      by_cases h3 : 9000 < m
      · have d3 : (9000 : Int) < (m : Int) := by omega
        rw [decide_eq_true h3]
        go_enter Tryz.func24, Tryz.ntmps24
        go_wp2
        go_ret
        exact ⟨rfl, (Below.refl _ w).alloc (Nat.le_refl _) _⟩
      · have d3 : ¬ (9000 : Int) < (m : Int) := by omega
        rw [decide_eq_false h3]
        go_enter Tryz.func24, Tryz.ntmps24
        go_wp2
        go_ret
        exact ⟨rfl, (Below.refl _ w).alloc (Nat.le_refl _) _⟩
/-- What is known of calls that are not too great. -/
def BigTo (n : Nat) (V : Nat → ClV) (e : Ending) : Prop := ∃ b : Bool, e = .returned (.bool b) ∧ (b = false → n ≤ 150 ∧ ∀ j, j < n → (V j).big = false)
set_option maxRecDepth 100000 in
set_option maxHeartbeats 4000000 in
theorem big_any (w : World) (ao : Option Addr) (n cc : Nat) (V : Nat → ClV) (hV : ClAt w ao n V) (hn : n ≤ 9223372036854775807) : Calls Tryz.prog 19 #[.slice ao n cc] w fun e w' => BigTo n V e ∧ Below w.heap.size w w' := by
  have HV := Hid.mk hV
  have HN := Hid.mk hn
  by_cases h150 : (150 : Int) < (n : Int)
  · clear hV hn
    go_enter Tryz.func19, Tryz.ntmps19
    go_wp2
    go_ret
    exact ⟨⟨true, rfl, fun e => by cases e⟩, Below.refl _ _⟩
  have H150 : Hid (n ≤ 150) := Hid.mk (by omega)
  clear hV hn
  go_enter Tryz.func19, Tryz.ntmps19
  go_wp2
  go_loopw [3, 4] (fun sv kv wr => ∃ k s : Nat, kv = .int .i64 k ∧ sv = .int .i64 s ∧ Hid (Below w.heap.size w wr ∧ k ≤ n ∧ s ≤ k * 9000 ∧ ∀ j, j < k → (V j).big = false)) (fun _ kv _ => n - (Go.RowKit.intOf kv).toNat)
  case atStart => exact ⟨0, 0, rfl, rfl, Hid.mk ⟨Below.refl _ _, Nat.zero_le _, by omega, fun j hj => by omega⟩⟩
  case round =>
    obtain ⟨k, s, rfl, rfl, HK⟩ := hrel
    by_cases hkl : (k : Int) < (n : Int)
    · by_cases hs : (s : Int) ≤ 200000
      · have hk : k < n := by omega
        have hw1 : IntKind.i64.wrap ((k : Int) + 1) = ((k + 1 : Nat) : Int) := by have := H150.out; rw [IntKind.wrap_i64]; omega
        obtain ⟨ab, o, rfl, hab, ⟨x0, x1, x2, x3, x4, x5⟩, -, -⟩ := cl_at HV.out HK.out.1 hk
        have HKL := Hid.mk hk
        have HBK := Hid.mk HK.out.1
        obtain ⟨m, hm⟩ : ∃ m, (V k).m = m := ⟨_, rfl⟩
        have HBG : Hid ((V k).big = (decide (1000 < (V k).p.size) || decide (1000 < (V k).q.size) || decide (9000 < m))) := Hid.mk (by unfold ClV.big; rw [hm])
        rw [hm] at x5
        generalize (V k).kd = vk at *
        generalize (V k).p = vp at *
        generalize (V k).q = vq at *
        generalize (V k).off = vo at *
        generalize (V k).n = vn at *
        generalize (V k).ao = va at *
        generalize (V k).cc = vc at *
        have hab2 : ab < wr.heap.size := Nat.lt_of_lt_of_le hab HK.out.1.size
        have HX : Hid (∀ W', Below wr.heap.size wr W' → W'.cell? ⟨ab, o + k * 6, none⟩ = some (.int .i64 vk) ∧ W'.cell? ⟨ab, o + k * 6 + 4, none⟩ = some (.int .i64 vn) ∧ W'.cell? ⟨ab, o + k * 6 + 5, none⟩ = some (.slice va m vc)) := Hid.mk (fun W' hB => by
          have hb := hB.block ab hab2
          have hq := fun (i : Nat) => World.cell?_of_block (w := wr) (w' := W') (a := ⟨ab, i, none⟩) hb
          exact ⟨(hq _).trans x0, (hq _).trans x4, (hq _).trans x5⟩)
        clear hm hk
        go_upto_region 8 with (go_at_call 24; refine (bigcall_any _ _ _ _ _ _ _ _ _).mono ?_; rintro e W3 ⟨rfl, hB3⟩; have B3 := Hid.mk hB3; clear hB3)
        obtain ⟨y0, y4, y5⟩ := HX.out W3 B3.out
        have HBW : Hid (Below w.heap.size w W3) := Hid.mk (HBK.out.trans (B3.out.mono HBK.out.size))
        clear x0 x1 x2 x3 x4 x5 HX B3
        cases hb : (decide (1000 < vp.size) || decide (1000 < vq.size) || decide (9000 < m)) with
        | true =>
          go_wp2
          go_ret
          exact ⟨⟨true, rfl, fun e => by cases e⟩, HBW.out⟩
        | false =>
          rw [hb] at HBG
          have hm9 : m ≤ 9000 := by
            have h9 : decide (9000 < m) = false := by
              cases h : decide (9000 < m) with
              | false => rfl
              | true => rw [h] at hb; simp at hb
            have := of_decide_eq_false h9
            omega
          have HM9 := Hid.mk hm9
          have hw2 : IntKind.i64.wrap ((s : Int) + (m : Int)) = ((s + m : Nat) : Int) := by rw [IntKind.wrap_i64]; omega
          clear hb hm9
          by_cases h7 : vk = 7
          · by_cases h8 : (9000 : Int) < vn
            · subst h7
              go_wp2
              go_ret
              exact ⟨⟨true, rfl, fun e => by cases e⟩, HBW.out⟩
            · subst h7
              go_wp2
              go_roundw
              case rel => exact ⟨k + 1, s + m, rfl, rfl, Hid.mk ⟨HBW.out, by have := HKL.out; omega, by have := HK.out.2.2.1; have := HM9.out; omega, fun j hj => by
                rcases Nat.lt_or_ge j k with h | h
                · exact HK.out.2.2.2 j h
                · obtain rfl : j = k := by omega
                  exact HBG.out⟩⟩
              case measure => have := HKL.out; simp [Go.RowKit.intOf]; omega
          · go_wp2
            go_roundw
            case rel => exact ⟨k + 1, s + m, rfl, rfl, Hid.mk ⟨HBW.out, by have := HKL.out; omega, by have := HK.out.2.2.1; have := HM9.out; omega, fun j hj => by
                rcases Nat.lt_or_ge j k with h | h
                · exact HK.out.2.2.2 j h
                · obtain rfl : j = k := by omega
                  exact HBG.out⟩⟩
            case measure => have := HKL.out; simp [Go.RowKit.intOf]; omega
      · have hs2 : (200000 : Int) < (s : Int) := by omega
        go_wp2
        go_ret
        exact ⟨⟨true, rfl, fun e => by cases e⟩, HK.out.1⟩
    · by_cases hs2 : (200000 : Int) < (s : Int)
      · go_wp2
        go_ret
        exact ⟨⟨true, rfl, fun e => by cases e⟩, HK.out.1⟩
      · go_wp2
        go_ret
        exact ⟨⟨false, rfl, fun _ => ⟨H150.out, fun j hj => HK.out.2.2.2 j (by have := HK.out.2.1; omega)⟩⟩, HK.out.1⟩
end Go.Proofs.YtehaoeclnmelhabGreat
