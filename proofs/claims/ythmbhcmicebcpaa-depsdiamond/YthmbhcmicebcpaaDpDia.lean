/-
  The statement DepsDiamond.
-/
import Derived.Test.YthmbhcmicebcpaaDpDiaB
import Derived.Maps.AppendAt
namespace Go.Proofs.Ythmbhcmicebcpaa
open Go Go.Proofs Go.RowKit Go.Shelf
attribute [local go_sem] Oper.semAt_some
/-- Those that are not done behind i turns, the last one left out. -/
def opL (n last i : Nat) : List Int := if last < i then (last : Int) :: rr i n else rr i n
theorem opL_skip {n last : Nat} (h : last < n) : opL n last (last + 1) = opL n last last := by
  unfold opL
  rw [if_pos (by omega), if_neg (by omega), rr_cons h]
theorem opL_del {n last i : Nat} (h : i < n) (hn : i ≠ last) : delS (i : Int) (opL n last i) = opL n last (i + 1) := by
  unfold opL
  by_cases hl : last < i
  · rw [if_pos hl, if_pos (by omega), ← del_head h]
    unfold delS
    rw [List.filter_cons, if_pos (by simp; omega)]
  · rw [if_neg hl, if_neg (by omega), del_head h]
theorem opL_mem {n last i : Nat} (hl : last < n) {x : Int} (h : x ∈ opL n last i) : 0 ≤ x ∧ x < n := by
  unfold opL at h
  split at h
  · rcases List.mem_cons.1 h with rfl | h
    · omega
    · have := rr_mem h; omega
  · have := rr_mem h; omega
theorem rr_pw (a n : Nat) : (rr a n).Pairwise (· < ·) := by
  obtain ⟨k, hk⟩ : ∃ k, k = n - a := ⟨_, rfl⟩
  induction k generalizing a with
  | zero => rw [rr_nil (by omega)]; exact List.Pairwise.nil
  | succ k ih =>
    rw [rr_cons (by omega)]
    exact List.pairwise_cons.2 ⟨fun y hy => by have := rr_mem hy; omega, ih (a + 1) (by omega)⟩
theorem opL_pw (n last i : Nat) : (opL n last i).Pairwise (· < ·) := by
  unfold opL
  split
  · exact List.pairwise_cons.2 ⟨fun y hy => by have := rr_mem hy; omega, rr_pw i n⟩
  · exact rr_pw i n
theorem opL_len (n last i : Nat) (hi : i ≤ n) (_hl : last < n) : (opL n last i).length ≤ n := by
  unfold opL
  split
  · rw [List.length_cons, rr_len]; omega
  · rw [rr_len]; omega
theorem opL_in {n last i : Nat} (h : i < n) : (i : Int) ∈ opL n last i := by
  have : (i : Int) ∈ rr i n := by rw [rr_cons h]; simp
  unfold opL
  split
  · exact List.mem_cons_of_mem _ this
  · exact this
theorem opL_end {n last : Nat} (h : last < n) : opL n last n = [(last : Int)] := by
  unfold opL
  rw [if_pos h, rr_nil (Nat.le_refl _)]
/-- append(on, x), the graph beside it. -/
theorem dia_push {w W : World} {gg : Nat} {A : Ga} {v : Value} {n : Nat} {xs : List Int} (h : DpO (fun k => v.ownBlock = some k) w W gg A) (hown : W.ownsRow w.heap.size 3 1 v n (Iy xs)) (hn : n ≤ 1000) (x : Int) :
    ∃ v' W', (Builtin.append_ #[23, 23] 23 #[v, .slice (some ⟨W.heap.size, 0, none⟩) 1 1]).run Try.prog (W.alloc (.cells #[.int .i64 x] 3)) = .ok v' W' ∧ (∃ ao c, v' = .slice ao (n + 1) c) ∧ Hid (DpO (fun k => v'.ownBlock = some k) w W' gg A ∧ W'.ownsRow w.heap.size 3 1 v' (n + 1) (Iy (xs ++ [x]))) := by
  obtain ⟨i0, hi, hz0, hz1, hz2⟩ := info3p
  have hb := h.bel
  have hnew := blk_new W (.cells #[.int .i64 x] 3)
  have hs1 : (W.alloc (.cells #[.int .i64 x] 3)).heap.size = W.heap.size + 1 := by simp
  obtain ⟨v', W', hr, ho, hg, _, hv⟩ := run_append_own_at (P := Try.prog) (W.alloc (.cells #[.int .i64 x] 3)) w.heap.size 23 23 3 i0 (.int .i64 0) 1 8 Try.underlying23 hi hz0 hz1 hz2 rfl (by decide) v n (Iy xs) (hown.alloc _) ⟨W.heap.size, 0, none⟩ 1 1 (Iy [x]) rfl (fun j u hj => by
    match j, hj with
    | 0, hj => cases hj; rw [add_at, blk_cell hnew]; rfl) (Iy_one _) (by unfold maxLen; omega) (by omega) (by have := hb.size; omega)
  have e : Iy xs ++ Iy [x] = Iy (xs ++ [x]) := by simp [Iy]
  rw [e] at ho
  obtain ⟨ao, c, ev, -⟩ := owns_lat ho
  refine ⟨v', W', hr, ⟨ao, c, ev⟩, Hid.mk ⟨?_, ho⟩⟩
  have hO : Only (fun k => v.ownBlock = some k) W W' := ((Only.refl _ W).alloc _).grown hg (fun k hk => .inl hk)
  refine h.side hO (fun k hk => hk) (fun k hk => ⟨(ho.lt k hk).2, ?_⟩)
  rcases hv with hv | hv
  · exact .inl (hv.symm.trans hk)
  · rw [hk] at hv
    have := Option.some.inj hv
    exact .inr (by omega)
theorem dia_leaf {X : Nat → Prop} {w W : World} {gg n i : Nat} {v : Value} (h : DpO X w W gg (flatA n)) (hi : i = n) (hn : n ≤ 50) (hX : X = fun k => v.ownBlock = some k) (hown : W.ownsRow w.heap.size 3 1 v n (Iy (rr 0 n))) :
    Calls Try.prog 27 #[ptV gg, .int .i64 i, .slice none 0 0] W fun e W' => ∃ u, e = .returned u ∧ Hid (DpO (fun k => v.ownBlock = some k) w W' gg (flatA (n + 1)) ∧ W'.ownsRow w.heap.size 3 1 v n (Iy (rr 0 n))) := by
  subst hi hX
  refine (o_add h (flat_fit i (by omega)) i (wf7 i (by omega)) none 0 0 [] ⟨rfl, fun h => by omega⟩ (by omega) (fun a e => by cases e) rfl).mono ?_
  rintro e W' ⟨rfl, h', hk⟩
  rw [flat_add] at h'
  exact ⟨_, rfl, Hid.mk ⟨h', owns_at hown (fun j hj => hk j hj)⟩⟩
theorem dia_top {w W : World} {gg n : Nat} {v : Value} (h : DpO (fun k => v.ownBlock = some k) w W gg (flatA n)) (h0 : 0 < n) (hn : n ≤ 40) (hown : W.ownsRow w.heap.size 3 1 v n (Iy (rr 0 n))) :
    Calls Try.prog 27 #[ptV gg, .int .i64 100, v] W fun e W' => e = .returned (.tuple #[.int .i64 (n : Nat), .int .i64 0]) ∧ Hid (DpO (fun _ => False) w W' gg (diaA n (rr 0 n))) := by
  rcases hown.2 with ⟨-, h1⟩ | ⟨g, cap, cur, rfl, -⟩
  · omega
  obtain ⟨ao, c, e, hl⟩ := owns_lat hown
  cases e
  refine (o_add h (flat_fit n (by omega)) 100 (wf7 100 (by omega)) _ n cap (rr 0 n) hl (by omega) (fun a e _ => by cases e; rfl) ?_).mono ?_
  · rw [List.any_eq_false]
    intro x hx
    have := rr_mem hx
    show ¬ noneB n x = true
    unfold noneB
    simp
    omega
  · rintro e W' ⟨rfl, h', _⟩
    rw [dia_add n h0 hn] at h'
    exact ⟨rfl, Hid.mk (h'.side (Only.refl (fun _ => False) W') (fun _ h => h.elim) (fun k hk => hk.elim))⟩
theorem dia_write {X : Nat → Prop} {w W : World} {gg n : Nat} {S : List Int} (h : DpO X w W gg (diaA n S)) (hn : n ≤ 40) (hS : ∀ x ∈ S, 0 ≤ x ∧ x < n) (hp : S.Pairwise (· < ·)) (hl : S.length ≤ n) (i : Int) (hi : i ∈ S) :
    Calls Try.prog 25 #[ptV gg, .int .i64 i] W fun e W' => ∃ u, e = .returned u ∧ Hid (DpO X w W' gg (diaA n (delS i S))) := by
  have hr := hS i hi
  have hc : diaC n S i = some ⟨i, [], [(n : Int)]⟩ := by unfold diaC; rw [if_neg (by omega), if_pos hi]
  have hcn : diaC n S n = some ⟨100, S, []⟩ := by unfold diaC; rw [if_pos rfl]
  refine (o_written (S := [i]) h (wf7 i (by omega)) ?_ (by simp) (by simp) (fun j hj => ?_) (fun j hj => ?_)).mono ?_
  · show ((diaB n S i).map (·.nx)).getD [] = [i]
    unfold diaB
    rw [if_neg (by omega), if_pos hi]
    rfl
  · obtain rfl : j = 0 := by simpa using hj
    show (diaA n S).Ok ∧ ∃ c, diaC n S i = some c ∧ (∀ y ∈ c.ab, y ≠ i ∧ (diaC n S y).isSome = true) ∧ c.ab.length ≤ 1000000000
    refine ⟨(dia_fit n hn S hS hl).ok, _, hc, fun y hy => ?_, by simp⟩
    rw [List.mem_singleton.1 hy]
    exact ⟨by omega, by rw [hcn]; rfl⟩
  · obtain rfl : j = 0 := by simpa using hj
    show (diaC n S i).isSome = true
    rw [hc]
    rfl
  · rintro e W' ⟨v, rfl, -, h', -⟩
    have e1 : (diaA n S).fins [i] = diaA n (delS i S) := by
      unfold Ga.fins
      rw [List.foldl_cons, List.foldl_nil, dia_finish n hn S hS hp i hi]
    rw [e1] at h'
    exact ⟨_, rfl, Hid.mk h'⟩
theorem dia_next0 {X : Nat → Prop} {w W : World} {gg n : Nat} {S : List Int} (h : DpO X w W gg (diaA n S)) (hn : n ≤ 40) (hS : ∀ x ∈ S, 0 ≤ x ∧ x < n) (hl : S.length ≤ n) (hne : S ≠ []) :
    Calls Try.prog 16 #[ptV gg, .int .i64 100] W fun e W' => ∃ ao c, e = .returned (.slice ao 0 c) ∧ Hid (DpO X w W' gg (diaA n S)) := by
  refine (o_next h (dia_fit n hn S hS hl).ok (wf7 100 (by omega))).mono ?_
  rintro e W' ⟨v, rfl, hr, hB⟩
  have e1 : (((diaA n S).bf 100).map (·.nx)).getD [] = [] := by
    show ((diaB n S 100).map (·.nx)).getD [] = []
    unfold diaB
    rw [if_pos rfl, if_neg hne]
    rfl
  rw [e1] at hr
  obtain ⟨ao, c, rfl, -⟩ := owns_lat hr
  exact ⟨ao, c, rfl, Hid.mk (h.grow hB)⟩
theorem dia_next1 {X : Nat → Prop} {w W : World} {gg n : Nat} (h : DpO X w W gg (diaA n [])) (hn : n ≤ 40) :
    Calls Try.prog 16 #[ptV gg, .int .i64 100] W fun e W' => ∃ ao c, e = .returned (.slice ao 1 c) ∧ Hid (LAt W' ao 1 [(n : Int)] ∧ DpO X w W' gg (diaA n [])) := by
  refine (o_next h (dia_fit n hn [] (fun x hx => by cases hx) (Nat.zero_le _)).ok (wf7 100 (by omega))).mono ?_
  rintro e W' ⟨v, rfl, hr, hB⟩
  have e1 : (((diaA n []).bf 100).map (·.nx)).getD [] = [(n : Int)] := by
    show ((diaB n [] 100).map (·.nx)).getD [] = [(n : Int)]
    unfold diaB
    rw [if_pos rfl, if_pos rfl]
    rfl
  rw [e1] at hr
  obtain ⟨ao, c, rfl, hl⟩ := owns_lat hr
  exact ⟨ao, c, rfl, Hid.mk ⟨hl, h.grow hB⟩⟩
theorem dia_ready {X : Nat → Prop} {w W : World} {gg n : Nat} (h : DpO X w W gg (diaA n [])) (hn : n ≤ 40) :
    Calls Try.prog 22 #[ptV gg] W fun e W' => ∃ ao c, e = .returned (.slice ao 1 c) ∧ Hid (LAt W' ao 1 [100] ∧ DpO X w W' gg (diaA n [])) := by
  refine (o_ready h (dia_fit n hn [] (fun x hx => by cases hx) (Nat.zero_le _)) rfl [100] ⟨by simp, fun x hx => by rw [List.mem_singleton.1 hx]; exact wf7 100 (by omega)⟩ (fun x => ?_)).mono ?_
  · constructor
    · intro hx
      rw [List.mem_singleton.1 hx]
      refine ⟨⟨[(n : Int)], []⟩, ?_, by simp⟩
      show diaB n [] 100 = _
      unfold diaB
      rw [if_pos rfl, if_pos rfl]
    · rintro ⟨bx, hb, -⟩
      have hb' : diaB n [] x = some bx := hb
      unfold diaB at hb'
      by_cases e : x = 100
      · rw [e]; simp
      · rw [if_neg e, if_neg (by simp)] at hb'
        cases hb'
  · rintro e W' ⟨v, rfl, hr, hB⟩
    obtain ⟨ao, c, rfl, hl⟩ := owns_lat hr
    exact ⟨ao, c, rfl, Hid.mk ⟨hl, h.grow hB⟩⟩
/-- The graph beside a row of what was added. -/
def DiI (w : World) (gg i : Nat) (v : Value) (W : World) : Prop := DpO (fun k => v.ownBlock = some k) w W gg (flatA i) ∧ W.ownsRow w.heap.size 3 1 v i (Iy (rr 0 i))
set_option maxRecDepth 100000 in
set_option maxHeartbeats 8000000 in
theorem diamond_any (w : World) (n last : Int) : Calls Try.prog 8 #[.int .i64 n, .int .i64 last] w fun e w' => e = .returned (.bool true) ∧ Below w.heap.size w w' := by
  have HAL := Hid.mk (alive_any w)
  by_cases g0 : n < 1
  · go_enter Try.func8, Try.ntmps8
    go_wp2_with (go_at_call 9; refine HAL.out.mono ?_; rintro e w1 ⟨rfl, hb1⟩; have HB1 := Hid.mk hb1; clear hb1 HAL)
    go_ret
    exact ⟨rfl, HB1.out⟩
  by_cases g1 : 40 < n
  · go_enter Try.func8, Try.ntmps8
    go_wp2_with (go_at_call 9; refine HAL.out.mono ?_; rintro e w1 ⟨rfl, hb1⟩; have HB1 := Hid.mk hb1; clear hb1 HAL)
    go_ret
    exact ⟨rfl, HB1.out⟩
  by_cases g2 : last < 0
  · go_enter Try.func8, Try.ntmps8
    go_wp2_with (go_at_call 9; refine HAL.out.mono ?_; rintro e w1 ⟨rfl, hb1⟩; have HB1 := Hid.mk hb1; clear hb1 HAL)
    go_ret
    exact ⟨rfl, HB1.out⟩
  by_cases g3 : n ≤ last
  · go_enter Try.func8, Try.ntmps8
    go_wp2_with (go_at_call 9; refine HAL.out.mono ?_; rintro e w1 ⟨rfl, hb1⟩; have HB1 := Hid.mk hb1; clear hb1 HAL)
    go_ret
    exact ⟨rfl, HB1.out⟩
  obtain ⟨N, rfl⟩ : ∃ N : Nat, n = N := ⟨n.toNat, by omega⟩
  obtain ⟨K, rfl⟩ : ∃ K : Nat, last = K := ⟨last.toNat, by omega⟩
  have HN : Hid (1 ≤ N ∧ N ≤ 40 ∧ K < N) := Hid.mk (by omega)
  have HNEW : Hid (∀ W, Below w.heap.size w W → Calls Try.prog 28 #[] W fun e W' => ∃ gg, e = .returned (ptV gg) ∧ Hid (DpO (fun _ => False) w W' gg (flatA 0))) := Hid.mk (fun W hB => (o_new hB).mono (by
    rintro e W' ⟨rfl, h⟩
    rw [flat_zero] at h
    exact ⟨_, rfl, Hid.mk h⟩))
  go_enter Try.func8, Try.ntmps8
  go_wp2_with (first
    | (go_at_call 9; refine HAL.out.mono ?_; rintro e w1 ⟨rfl, hb1⟩; have HB1 := Hid.mk hb1; clear hb1 HAL)
    | (go_at_call 28; refine (HNEW.out _ HB1.out).mono ?_; rintro e w2 ⟨gg, rfl, H2⟩; clear HNEW HB1))
  go_loopw [7, 8] (fun v iv wr => ∃ i : Nat, iv = .int .i64 i ∧ (∃ ao c, v = .slice ao i c) ∧ Hid (i ≤ N ∧ DiI w gg i v wr)) (fun _ iv _ => N - (Go.RowKit.intOf iv).toNat)
  case atStart => exact ⟨0, rfl, ⟨none, 0, rfl⟩, Hid.mk ⟨Nat.zero_le _, H2.out.side (Only.refl (fun _ => False) _) (fun _ h => h.elim) (fun k hk => by cases hk), by rw [rr_nil (Nat.le_refl _)]; exact World.ownsRow_nil _ _ _ _⟩⟩
  case round =>
    obtain ⟨i, rfl, ⟨ao, c, rfl⟩, HI⟩ := hrel
    clear H2
    by_cases hlt : (i : Int) < (N : Int)
    · have u1 : IntKind.i64.wrap ((i : Int) + 1) = ((i + 1 : Nat) : Int) := by have := HN.out; rw [IntKind.wrap_i64]; omega
      have HLT : Hid (i < N) := Hid.mk (by omega)
      have HAD := Hid.mk (dia_leaf HI.out.2.1 rfl (by have := HN.out; omega) rfl HI.out.2.2)
      have HPU : Hid (∀ W, DpO (fun k => (Value.slice ao i c).ownBlock = some k) w W gg (flatA (i + 1)) ∧ W.ownsRow w.heap.size 3 1 (.slice ao i c) i (Iy (rr 0 i)) → ∃ v' W', (Builtin.append_ #[23, 23] 23 #[.slice ao i c, .slice (some ⟨W.heap.size, 0, none⟩) 1 1]).run Try.prog (W.alloc (.cells #[.int .i64 i] 3)) = .ok v' W' ∧ (∃ ao c, v' = .slice ao (i + 1) c) ∧ Hid (DiI w gg (i + 1) v' W')) := Hid.mk (fun W h => by
        obtain ⟨v', W', h1, h2, h3⟩ := dia_push h.1 h.2 (by have := HN.out; have := HLT.out; omega) (i : Int)
        refine ⟨v', W', h1, h2, Hid.mk ⟨h3.out.1, ?_⟩⟩
        rw [rr_snoc (Nat.zero_le _)]
        exact h3.out.2)
      clear HI
      go_wp2_with (first
        | (go_at_call 27; refine HAD.out.mono ?_; rintro e w3 ⟨u, rfl, H3⟩; obtain ⟨v4, W4, hr4, ⟨ao4, c4, rfl⟩, H4⟩ := HPU.out w3 H3.out; have HR := Hid.mk hr4; clear HAD HPU hr4)
        | (at_builtin; refine wpList_append_known rfl (.tmp 44) (.tmp 46) 23 rfl _ _ _ _ rfl rfl HR.out ?_))
      go_roundw
      case rel => exact ⟨i + 1, rfl, ⟨_, _, rfl⟩, Hid.mk ⟨HLT.out, H4.out⟩⟩
      case measure => (have := HLT.out; simp [Go.RowKit.intOf]; omega)
    · obtain rfl : i = N := by have := HI.out.1; omega
      have HTOP := Hid.mk (dia_top HI.out.2.1 (by have := HN.out; omega) (by have := HN.out; omega) HI.out.2.2)
      clear HI
      go_wp2_with (go_at_call 27; refine HTOP.out.mono ?_; rintro e w3 ⟨rfl, H3⟩; clear HTOP)
      go_loopw [11] (fun kv wr => ∃ k : Nat, kv = .int .i64 k ∧ Hid (k ≤ i ∧ DpO (fun _ => False) w wr gg (diaA i (opL i K k)))) (fun kv _ => i - (Go.RowKit.intOf kv).toNat)
      case atStart =>
        refine ⟨0, rfl, Hid.mk ⟨Nat.zero_le _, ?_⟩⟩
        have e : opL i K 0 = rr 0 i := by unfold opL; rw [if_neg (by omega)]
        rw [e]
        exact H3.out
      case round =>
        obtain ⟨k, rfl, HK⟩ := hrel
        clear H3
        by_cases hkl : (k : Int) < (i : Int)
        · have u1 : IntKind.i64.wrap ((k : Int) + 1) = ((k + 1 : Nat) : Int) := by have := HN.out; rw [IntKind.wrap_i64]; omega
          have HLT : Hid (k < i) := Hid.mk (by omega)
          by_cases hkK : k = K
          · subst hkK
            have HNX : Hid (DpO (fun _ => False) w wr gg (diaA i (opL i k (k + 1)))) := Hid.mk (by rw [opL_skip HLT.out]; exact HK.out.2)
            clear HK
            go_wp2
            go_roundw
            case rel => exact ⟨k + 1, rfl, Hid.mk ⟨HLT.out, HNX.out⟩⟩
            case measure => (have := HLT.out; simp [Go.RowKit.intOf]; omega)
          · have hne : ¬ (k : Int) = (K : Int) := by omega
            have hne2 : ((k : Int) == (K : Int)) = false := by simp; omega
            have hKi : K < i := HN.out.2.2
            have HWR := Hid.mk (dia_write HK.out.2 HN.out.2.1 (fun x hx => opL_mem hKi hx) (opL_pw i K k) (opL_len i K k HK.out.1 hKi) (k : Int) (opL_in HLT.out))
            rw [opL_del HLT.out hkK] at HWR
            clear HK hKi hkK
            go_wp2_with (go_at_call 25; refine HWR.out.mono ?_; rintro e w4 ⟨u, rfl, H4⟩; clear HWR)
            go_roundw
            case rel => exact ⟨k + 1, rfl, Hid.mk ⟨HLT.out, H4.out⟩⟩
            case measure => (have := HLT.out; simp [Go.RowKit.intOf]; omega)
        · obtain rfl : k = i := by have := HK.out.1; omega
          have hKi : K < k := HN.out.2.2
          have HST : Hid (DpO (fun _ => False) w wr gg (diaA k [(K : Int)])) := Hid.mk (by have := HK.out.2; rwa [opL_end hKi] at this)
          have hS1 : ∀ x ∈ [(K : Int)], 0 ≤ x ∧ x < (k : Int) := fun x hx => by rw [List.mem_singleton.1 hx]; omega
          have HNE := Hid.mk (dia_next0 HST.out HN.out.2.1 hS1 (by simp; omega) (by simp))
          have HWR : Hid (∀ W, DpO (fun _ => False) w W gg (diaA k [(K : Int)]) → Calls Try.prog 25 #[ptV gg, .int .i64 K] W fun e W' => ∃ u, e = .returned u ∧ Hid (DpO (fun _ => False) w W' gg (diaA k []))) := Hid.mk (fun W h => by
            have := dia_write h HN.out.2.1 hS1 (by simp) (by simp; omega) (K : Int) (by simp)
            have e : delS (K : Int) [(K : Int)] = [] := by simp [delS]
            rw [e] at this
            exact this)
          have HNUM := Hid.mk num_any
          clear HK hKi HST hS1
          go_wp2_with (first
            | (go_at_call 16; refine HNE.out.mono ?_; rintro e w4 ⟨ao4, c4, rfl, H4⟩; clear HNE)
            | (go_at_call 25; refine (HWR.out _ H4.out).mono ?_; rintro e w5 ⟨u, rfl, H5⟩; have HN1 := Hid.mk (dia_next1 H5.out HN.out.2.1); clear HWR H4)
            | (go_at_call 16; refine HN1.out.mono ?_; rintro e w6 ⟨ao6, c6, rfl, H6⟩; have HSM := Hid.mk (fun c => one_same (c := c) H6.out.2 H6.out.1); clear HN1 H5)
            | (go_at_call 29; refine (HNUM.out _ _).mono ?_; rintro e w7 ⟨rfl, hw7⟩; have hw7' := hw7.symm; clear hw7; subst hw7')
            | (go_at_call 15; refine (HSM.out _).mono ?_; rintro e w8 ⟨rfl, h8⟩; have H8 := Hid.mk h8; have HRD := Hid.mk (dia_ready h8 HN.out.2.1); clear h8 HSM H6)
            | (go_at_call 22; refine HRD.out.mono ?_; rintro e w9 ⟨ao9, c9, rfl, H9⟩; have HS2 := Hid.mk (fun c => one_same (c := c) H9.out.2 H9.out.1); clear HRD H8)
            | (go_at_call 15; refine (HS2.out _).mono ?_; rintro e w10 ⟨rfl, h10⟩; have H10 := Hid.mk h10; clear h10 HS2))
          go_ret
          exact ⟨rfl, H10.out.bel⟩
end Go.Proofs.Ythmbhcmicebcpaa
