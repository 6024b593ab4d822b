/-
  The statement PatchOver.
-/
import Derived.Test.YtjljklfahmjngaaPaSee
import Derived.Test.YtjljklfahmjngaaPaAlive
namespace Go.Proofs.Ytjljklfahmjngaa
open Go Go.Proofs Go.RowKit Go.Shelf
attribute [local go_sem] Oper.semAt_some
/-- The changes of one place. -/
def ovS (xs : List Int) (k : Nat) : List (Int × Int × List Int) := (List.range k).map fun (j : Nat) => ((j : Int), (1 : Int), [xs.getD j 0])
theorem ovS_snoc (xs : List Int) (k : Nat) : ovS xs (k + 1) = ovS xs k ++ [((k : Int), (1 : Int), [xs.getD k 0])] := by
  unfold ovS
  rw [List.range_succ, List.map_append]
  rfl
/-- What stands behind the first k of them. -/
def wantN (xs outs : List Int) : Nat → Int
  | 0 => 77
  | k + 1 => if ((k : Nat) : Int) ∈ outs then wantN xs outs k else xs.getD k 0
theorem lay_one (x y : Int) : layL [1, x, 3] 1 [y] = [1, y, 3] := by rfl
theorem over_all (xs outs : List Int) (k : Nat) : applyS [1, 77, 3] (keptS (ovS xs k) outs) = [1, wantN xs outs k, 3] := by
  induction k with
  | zero => rfl
  | succ k ih =>
    rw [ovS_snoc, keptS_append, applyS_append, ih]
    unfold keptS
    by_cases h : ((k : Nat) : Int) ∈ outs
    · have e : (!decide (((k : Int), (1 : Int), [xs.getD k 0]).1 ∈ outs)) = false := by show (!decide ((k : Int) ∈ outs)) = false; rw [decide_eq_true h]; rfl
      rw [List.filter_cons, e, if_neg (by simp), List.filter_nil]
      show [1, wantN xs outs k, 3] = [1, wantN xs outs (k + 1), 3]
      unfold wantN
      rw [if_pos h]
      cases k <;> rfl
    · have e : (!decide (((k : Int), (1 : Int), [xs.getD k 0]).1 ∈ outs)) = true := by show (!decide ((k : Int) ∈ outs)) = true; rw [decide_eq_false h]; rfl
      rw [List.filter_cons, e, if_pos rfl, List.filter_nil]
      show layL [1, wantN xs outs k, 3] 1 [xs.getD k 0] = _
      rw [lay_one]
      show _ = [1, wantN xs outs (k + 1), 3]
      rw [wantN, if_neg h]
structure OvI (w w1 : World) (xs : List Int) (k : Nat) (v : Value) (W : World) : Prop where
  below : Below w1.heap.size w1 W
  st : ∃ L, MkAt W w1.heap.size v L ∧ L.map Pt.see = ovS xs k
theorem OvI.push {w w1 : World} {xs : List Int} {k : Nat} {v : Value} {W : World} (h : OvI w w1 xs k v W) (hk : k < 1000) (x : Int) (hx : 0 ≤ x ∧ x ≤ 255) (hxk : x = xs.getD k 0) :
    ∃ ao c v' W', v = .slice ao k c ∧ (Builtin.append_ #[23, 23] 23 #[v, .slice (some ⟨W.heap.size + 1, 0, none⟩) 1 1]).run Try.prog ((W.alloc (.cells #[.int .u8 x] 5)).alloc (.cells #[.int .i64 k, .int .i64 1, .slice (some ⟨W.heap.size, 0, none⟩) 1 1] 31)) = .ok v' W' ∧ (∃ ao' c', v' = .slice ao' (k + 1) c') ∧ Hid (OvI w w1 xs (k + 1) v' W') := by
  obtain ⟨L, hm, hs⟩ := h.st
  have hl : L.length = k := by have := congrArg List.length hs; simpa [ovS] using this
  obtain ⟨ao, c, e, -⟩ := hm.pc
  rw [hl] at e
  have hB1 : Below W.heap.size W (W.alloc (.cells #[.int .u8 x] 5)) := (Below.refl _ W).alloc (Nat.le_refl _) _
  have hw := h.below.size
  have hk1 : I64 (k : Int) := ⟨by omega, by omega⟩
  have h11 : I64 (1 : Int) := ⟨by omega, by omega⟩
  have hm1 : MkAt (W.alloc (.cells #[.int .u8 x] 5)) w1.heap.size v L := hm.kept (fun j _ hj => hB1.block j hj)
  have hrow : (W.alloc (.cells #[.int .u8 x] 5)).ownsRow w1.heap.size 5 1 (.slice (some ⟨W.heap.size, 0, none⟩) 1 1) 1 (By [x]) := by
    refine ⟨rfl, .inr ⟨W.heap.size, 1, #[.int .u8 x], rfl, hw, blk_new W _, Nat.le_refl _, by unfold maxLen; omega, rfl, rfl⟩⟩
  obtain ⟨v', W', hr, hm2, hB2⟩ := hm1.push (by simp; omega) (by omega) ⟨k, 1, some ⟨W.heap.size, 0, none⟩, 1, 1, [x]⟩ hrow ⟨hk1, h11, fun y hy => by rw [List.mem_singleton.1 hy]; exact hx⟩
  have hs1 : (W.alloc (.cells #[.int .u8 x] 5)).heap.size = W.heap.size + 1 := by simp
  rw [hs1] at hr
  obtain ⟨ao', c', e', -⟩ := hm2.pc
  rw [List.length_append, hl] at e'
  refine ⟨ao, c, v', W', e, hr, ⟨ao', c', e'⟩, Hid.mk ⟨h.below.trans ((hB1.mono hw).trans hB2), L ++ [⟨k, 1, some ⟨W.heap.size, 0, none⟩, 1, 1, [x]⟩], hm2, ?_⟩⟩
  rw [List.map_append, hs, ovS_snoc, hxk]
  rfl
theorem bat3 (W : World) (a b c : Int) : BAt (W.alloc (.cells #[.int .u8 a, .int .u8 b, .int .u8 c] 5)) (some ⟨W.heap.size, 0, none⟩) 3 [a, b, c] := by
  have hb := blk_new W (.cells #[.int .u8 a, .int .u8 b, .int .u8 c] 5)
  refine ⟨rfl, fun _ => ⟨_, rfl, lt_of_block hb, fun i hi => ?_⟩⟩
  rw [add_at, blk_cell hb]
  match i, hi with
  | 0, _ => rfl
  | 1, _ => rfl
  | 2, _ => rfl
theorem mem_take_snoc {outs : List Int} {t : Nat} (h : t < outs.length) (x : Int) : x ∈ outs.take (t + 1) ↔ x ∈ outs.take t ∨ outs.getD t 0 = x := by
  rw [take_snoc outs t h, List.mem_append, List.mem_singleton]
  constructor
  · rintro (h | h)
    · exact .inl h
    · exact .inr h.symm
  · rintro (h | h)
    · exact .inl h
    · exact .inr h.symm
set_option maxRecDepth 100000 in
set_option maxHeartbeats 4000000 in
theorem over_any (w : World) (lo : Option Addr) (n lc : Nat) (xs : List Int) (hx : BAt w lo n xs) (hxb : ∀ x ∈ xs, 0 ≤ x ∧ x ≤ 255) (oo : Option Addr) (m oc : Nat) (outs : List Int) (ho : LAt w oo m outs) (hio : ∀ x ∈ outs, I64 x) :
    Calls Try.prog 8 #[.slice lo n lc, .slice oo m oc] w fun e w' => e = .returned (.bool true) ∧ Below w.heap.size w w' := by
  have HAL := Hid.mk (alive_any w)
  by_cases h1 : 50 < n
  · have h1' : (50 : Int) < (n : Int) := by omega
    clear hx ho
    go_enter Try.func8, Try.ntmps8
    go_wp2_with (go_at_call 9; refine HAL.out.mono ?_; rintro e w1 ⟨rfl, hb1⟩; have HB1 := Hid.mk hb1; clear hb1 HAL)
    go_ret
    exact ⟨rfl, HB1.out⟩
  have h1' : ¬ (50 : Int) < (n : Int) := by omega
  by_cases h2 : 50 < m
  · have h2' : (50 : Int) < (m : Int) := by omega
    clear hx ho
    go_enter Try.func8, Try.ntmps8
    go_wp2_with (go_at_call 9; refine HAL.out.mono ?_; rintro e w1 ⟨rfl, hb1⟩; have HB1 := Hid.mk hb1; clear hb1 HAL)
    go_ret
    exact ⟨rfl, HB1.out⟩
  have h2' : ¬ (50 : Int) < (m : Int) := by omega
  have HX := Hid.mk hx
  have HO := Hid.mk ho
  have HN : Hid (n ≤ 50 ∧ m ≤ 50) := Hid.mk ⟨by omega, by omega⟩
  have HXB := Hid.mk hxb
  have HIO := Hid.mk hio
  clear hx ho h1 h2 hxb hio
  go_enter Try.func8, Try.ntmps8
  go_wp2_with (go_at_call 9; refine HAL.out.mono ?_; rintro e w1 ⟨rfl, hb1⟩; have HB1 := Hid.mk hb1; clear hb1 HAL)
  go_loopw [6, 7] (fun v kv wr => ∃ k : Nat, kv = .int .i64 k ∧ Hid (k ≤ n ∧ OvI w w1 xs k v wr)) (fun _ kv _ => n - (Go.RowKit.intOf kv).toNat)
  case atStart => exact ⟨0, rfl, Hid.mk ⟨Nat.zero_le _, Below.refl _ _, [], MkAt.nil _ _, rfl⟩⟩
  case round =>
    obtain ⟨k, rfl, HK⟩ := hrel
    by_cases hlt : k < n
    · have hlt' : (k : Int) < (n : Int) := by omega
      have u1 : IntKind.i64.wrap ((k : Int) + 1) = ((k + 1 : Nat) : Int) := by have := HN.out; rw [IntKind.wrap_i64]; omega
      have hbw : Below w.heap.size w wr := HB1.out.trans (HK.out.2.below.mono HB1.out.size)
      obtain ⟨a, rfl, hca⟩ := (HX.out.below hbw).at k hlt
      have hxl := HX.out.1
      obtain ⟨ao, c, v', W', rfl, hr, ⟨ao', c', rfl⟩, HNX⟩ := HK.out.2.push (by have := HN.out; omega) (xs.getD k 0) (HXB.out _ (getD_mem (by omega))) rfl
      have HLT := Hid.mk hlt
      have HR := Hid.mk hr
      clear HK hxl hlt hbw hr
      generalize xs.getD k 0 = x at *
      go_wp2_with (at_builtin; refine wpList_append_known rfl (.tmp 33) (.tmp 41) 23 rfl _ _ _ _ rfl rfl HR.out ?_)
      go_roundw
      case rel => exact ⟨k + 1, rfl, Hid.mk ⟨HLT.out, HNX.out⟩⟩
      case measure => (have := HLT.out; simp [Go.RowKit.intOf]; omega)
    · obtain rfl : k = n := by have := HK.out.1; omega
      have hbw : Below w.heap.size w wr := HB1.out.trans (HK.out.2.below.mono HB1.out.size)
      obtain ⟨L, hm, hsee⟩ := HK.out.2.st
      have hl : L.length = k := by have := congrArg List.length hsee; simpa [ovS] using this
      obtain ⟨ao, c, e, hpc, hpn⟩ := hm.pc
      rw [hl] at e hpc
      subst e
      have HBW := Hid.mk hbw
      have HXW := Hid.mk (HX.out.below hbw)
      have HOW := Hid.mk (HO.out.below hbw)
      have HPC := Hid.mk hpc
      have HPN := Hid.mk hpn
      have HSEE := Hid.mk hsee
      clear HK hbw hm hsee hl hpc hpn
      go_wp2
      go_loop [8, 9, 10, 11] (fun v8 v9 _ _ => ∃ i : Nat, v9 = .int .i64 i ∧ v8 = .int .u8 (wantN xs outs i) ∧ Hid (i ≤ k)) (fun _ v9 _ _ => k - (Go.RowKit.intOf v9).toNat)
      case atStart => exact ⟨0, rfl, rfl, Hid.mk (Nat.zero_le _)⟩
      case round =>
        obtain ⟨i, rfl, rfl, HI⟩ := hrel
        by_cases hik : i < k
        · have hik' : (i : Int) < (k : Int) := by omega
          have u1 : IntKind.i64.wrap ((i : Int) + 1) = ((i + 1 : Nat) : Int) := by have := HN.out; rw [IntKind.wrap_i64]; omega
          obtain ⟨a, ea, hca⟩ := HXW.out.at i hik
          have HIK := Hid.mk hik
          clear hik
          go_wp2
          go_loop [10, 11] (fun v10 v11 => ∃ t : Nat, v11 = .int .i64 t ∧ v10 = .bool (decide ((i : Int) ∈ outs.take t)) ∧ Hid (t ≤ m)) (fun _ v11 => m - (Go.RowKit.intOf v11).toNat)
          case atStart => exact ⟨0, rfl, by simp, Hid.mk (Nat.zero_le _)⟩
          case round =>
            obtain ⟨t, rfl, rfl, HT⟩ := hrel
            by_cases htm : t < m
            · have htm' : (t : Int) < (m : Int) := by omega
              have u2 : IntKind.i64.wrap ((t : Int) + 1) = ((t + 1 : Nat) : Int) := by have := HN.out; rw [IntKind.wrap_i64]; omega
              obtain ⟨b, eb, hcb⟩ := HOW.out.at t htm
              subst eb
              have hol := HOW.out.1
              have HMT := Hid.mk (fun x => mem_take_snoc (outs := outs) (t := t) (by omega) x)
              have HTM := Hid.mk htm
              clear htm HT hol
              by_cases hin : (i : Int) ∈ outs.take t
              · have hd : decide ((i : Int) ∈ outs.take t) = true := decide_eq_true hin
                have HD2 : Hid (true = decide ((i : Int) ∈ outs.take (t + 1))) := Hid.mk (by rw [eq_comm, decide_eq_true_iff, HMT.out]; exact .inl hin)
                rw [hd]
                clear hin hd HMT
                go_wp2
                go_round
                case rel => exact ⟨t + 1, rfl, by rw [← HD2.out], Hid.mk HTM.out⟩
                case measure => (have := HTM.out; simp [Go.RowKit.intOf]; omega)
              · have hd : decide ((i : Int) ∈ outs.take t) = false := decide_eq_false hin
                obtain ⟨y, hy⟩ : ∃ y, y = outs.getD t 0 := ⟨_, rfl⟩
                rw [← hy] at hcb
                have HD2 : Hid ((y == (i : Int)) = decide ((i : Int) ∈ outs.take (t + 1))) := Hid.mk (by
                  rw [Bool.eq_iff_iff, beq_iff_eq, decide_eq_true_iff, HMT.out, ← hy]
                  exact ⟨fun h => .inr h, fun h => h.resolve_left hin⟩)
                rw [hd]
                clear hin hd HMT hy
                go_wp2
                go_round
                case rel => exact ⟨t + 1, rfl, by rw [← HD2.out], Hid.mk HTM.out⟩
                case measure => (have := HTM.out; simp [Go.RowKit.intOf]; omega)
            · have htm' : ¬ (t : Int) < (m : Int) := by omega
              have hol := HOW.out.1
              have htake : outs.take t = outs := List.take_of_length_le (by omega)
              rw [htake]
              subst ea
              by_cases hin : (i : Int) ∈ outs
              · have hd : decide ((i : Int) ∈ outs) = true := decide_eq_true hin
                have HW : Hid (wantN xs outs i = wantN xs outs (i + 1)) := Hid.mk (by rw [wantN, if_pos hin])
                rw [hd]
                clear hin hd htm HT hol htake
                go_wp2
                go_round
                case rel => exact ⟨i + 1, rfl, by rw [← HW.out], Hid.mk HIK.out⟩
                case measure => (have := HIK.out; simp [Go.RowKit.intOf]; omega)
              · have hd : decide ((i : Int) ∈ outs) = false := decide_eq_false hin
                have HW : Hid (xs.getD i 0 = wantN xs outs (i + 1)) := Hid.mk (by rw [wantN, if_neg hin])
                rw [hd]
                clear hin hd htm HT hol htake
                generalize xs.getD i 0 = y at hca HW
                go_wp2
                go_round
                case rel => exact ⟨i + 1, rfl, by rw [← HW.out], Hid.mk HIK.out⟩
                case measure => (have := HIK.out; simp [Go.RowKit.intOf]; omega)
        · obtain rfl : i = k := by have := HI.out; omega
          have hik' : ¬ (i : Int) < (i : Int) := by omega
          obtain ⟨y, hy⟩ : ∃ y, y = wantN xs outs i := ⟨_, rfl⟩
          obtain ⟨W3, hW3⟩ : ∃ W3, W3 = wr.alloc (.cells #[.int .u8 1, .int .u8 77, .int .u8 3] 5) := ⟨_, rfl⟩
          have hB3 : Below wr.heap.size wr W3 := by rw [hW3]; exact (Below.refl _ wr).alloc (Nat.le_refl _) _
          have HW3 := Hid.mk hW3
          have HAP : Hid (Calls Try.prog 11 #[.slice (some ⟨wr.heap.size, 0, none⟩) 3 3, .slice ao i c, .slice oo m oc] W3 fun e w' => ∃ g cap, e = .returned (.slice (some ⟨g, 0, none⟩) 3 cap) ∧ (w'.cell? ⟨g, 0, none⟩ = some (.int .u8 1) ∧ w'.cell? ⟨g, 1, none⟩ = some (.int .u8 y) ∧ w'.cell? ⟨g, 2, none⟩ = some (.int .u8 3)) ∧ Hid (Below w.heap.size w w')) := Hid.mk (by
            have hb3 : BAt W3 (some ⟨wr.heap.size, 0, none⟩) 3 [1, 77, 3] := by rw [hW3]; exact bat3 wr 1 77 3
            refine (apply_any W3 _ 3 3 [1, 77, 3] hb3 (fun e => by cases e) (by omega) ao i c L (HPC.out.below hB3) (HPN.out.below hB3) (by have := HN.out; omega) oo m oc outs (HOW.out.below hB3) (by have := HN.out; omega) HIO.out).mono ?_
            rintro e w' ⟨v, rfl, hown, hB4⟩
            rw [apply_see, kept_see, HSEE.out, over_all, ← hy] at hown
            rcases hown.2 with ⟨-, h0⟩ | ⟨g, cap, cur, rfl, -⟩
            · omega
            · refine ⟨g, cap, rfl, ⟨?_, ?_, ?_⟩, Hid.mk (HBW.out.trans ((hB3.mono HBW.out.size).trans (hB4.mono (Nat.le_trans HBW.out.size hB3.size))))⟩
              · exact (owns_cell hown 0 (by omega)).1
              · exact (owns_cell hown 1 (by omega)).1
              · exact (owns_cell hown 2 (by omega)).1)
          rw [← hy]
          clear hW3 hB3 hy HI HPC HPN HSEE HXW HOW HXB HIO HX HO
          go_wp2_with (go_at_call 11; rw [← HW3.out]; refine HAP.out.mono ?_; rintro e w4 ⟨g, cap, rfl, ⟨c0, c1, c2⟩, HB4⟩; clear HAP HW3)
          go_ret
          exact ⟨rfl, HB4.out⟩
end Go.Proofs.Ytjljklfahmjngaa
