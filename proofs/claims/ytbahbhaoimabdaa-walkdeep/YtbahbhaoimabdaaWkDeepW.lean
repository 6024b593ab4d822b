/-
  WalkDeep: its walk.
-/
import Derived.Test.YtbahbhaoimabdaaWkDeepL
import Derived.Test.YtbahbhaoimabdaaWkOwn
import Derived.Test.YtbahbhaoimabdaaWkFindsW
namespace Go.Proofs.Ytbahbhaoimabdaa
open Go Go.Proofs Go.RowKit Go.Shelf

/-- A node of the chain as it lies. -/
def chN (s : ByteArray) (bs : Nat → Nat) (j : Nat) : NoV := ⟨(j : Int) + 1, 2, 0, 0, none, 0, 0, fun _ => ⟨0, none, 0, 0, []⟩, some ⟨bs j, 0, none⟩, 1, 1, fun _ => ⟨(j : Int) + 2, s⟩⟩
def chL (s : ByteArray) (bs : Nat → Nat) (i : Nat) : List NoV := (List.range i).map (chN s bs)
def lastN (n : Nat) : NoV := ⟨(n : Int) + 1, 1, 0, 0, none, 0, 0, fun _ => ⟨0, none, 0, 0, []⟩, none, 0, 0, fun _ => ⟨0, ⟨#[]⟩⟩⟩
theorem chL_length (s : ByteArray) (bs : Nat → Nat) (i : Nat) : (chL s bs i).length = i := by simp [chL]
theorem chL_snoc (s : ByteArray) (bs : Nat → Nat) (i : Nat) : chL s bs (i + 1) = chL s bs i ++ [chN s bs i] := by simp [chL, List.range_succ]
theorem chL_congr {s : ByteArray} {bs bs' : Nat → Nat} {i : Nat} (h : ∀ j, j < i → bs j = bs' j) : chL s bs i = chL s bs' i := by
  unfold chL
  apply List.map_congr_left
  intro j hj
  unfold chN
  rw [h j (List.mem_range.1 hj)]
theorem chL_get (s : ByteArray) (bs : Nat → Nat) (n j : Nat) (hj : j < n) : (chL s bs n ++ [lastN n]).getD j noZ = chN s bs j := by
  have h : j < (chL s bs n).length := by rw [chL_length]; exact hj
  rw [List.getD, List.getElem?_append_left h]
  simp [chL, hj]
theorem chL_last (s : ByteArray) (bs : Nat → Nat) (n : Nat) : (chL s bs n ++ [lastN n]).getD n noZ = lastN n := by
  rw [List.getD, List.getElem?_append_right (by rw [chL_length]; exact Nat.le_refl _), chL_length, Nat.sub_self]
  rfl
theorem chain_of (s : ByteArray) (bs : Nat → Nat) (n : Nat) : Chain s n (fun j => (chL s bs n ++ [lastN n]).getD j noZ) := by
  refine ⟨fun i hi => ?_, fun i hi => ?_, ?_⟩
  · rcases Nat.lt_or_ge i n with h | h
    · rw [chL_get s bs n i h]; rfl
    · obtain rfl : i = n := by omega
      rw [chL_last]; rfl
  · rw [chL_get s bs n i hi]; exact ⟨rfl, rfl, rfl⟩
  · rw [chL_last]; exact ⟨rfl, rfl⟩
/-- The first i nodes of the chain are made. -/
structure DeI (w : World) (s : ByteArray) (L : List NoV) (bs : Nat → Nat) (i : Nat) (v : Value) (W : World) : Prop where
  row : W.ownsRow w.heap.size 39 6 v L.length (Ny L)
  ents : ∀ j, j < i → w.heap.size ≤ bs j ∧ W.heap[bs j]? = some (.cells #[.int .i64 ((j : Int) + 2), .string s] 41 (0, 0))
  below : Below w.heap.size w W
theorem DeI.push {w : World} {s : ByteArray} {L : List NoV} {bs : Nat → Nat} {i : Nat} {v : Value} {W : World} (h : DeI w s L bs i v W) (p : NoV) (hn : L.length ≤ 16777216) : ∃ v' W', (Builtin.append_ #[22, 22] 22 #[v, .slice (some ⟨W.heap.size, 0, none⟩) 1 1]).run Try.prog (W.alloc (.cells (noC p).toArray 39)) = .ok v' W' ∧ DeI w s (L ++ [p]) bs i v' W' := by
  obtain ⟨v', W', hr, hown, hgr, hat⟩ := appendN_run W w.heap.size v L.length L p h.row h.below.size hn
  have hlt := ownsN_lt h.row
  have hkeep : ∀ b, b < W.heap.size → v.ownBlock ≠ some b → W'.heap[b]? = W.heap[b]? := fun b hb hc => by
    rw [hgr.block b (by simp; omega) (fun e => hc e.symm), Below.heap_alloc _ _ _ hb]
  refine ⟨v', W', hr, ⟨by rw [List.length_append]; exact hown, fun j hj => ⟨(h.ents j hj).1, ?_⟩, ?_⟩⟩
  · have he := (h.ents j hj).2
    refine (hkeep _ (lt_of_block he) (fun e => ?_)).trans he
    obtain ⟨-, -, cs, hcs⟩ := hlt _ e
    rw [hcs] at he
    cases he
  · exact (h.below.alloc h.below.size _).grown hgr (by have := h.below.size; simp; omega) (fun k e => (hlt k e).1)
theorem DeI.alloc {w : World} {s : ByteArray} {L : List NoV} {bs : Nat → Nat} {i : Nat} {v : Value} {W : World} (h : DeI w s L bs i v W) (o : Obj) : DeI w s L bs i v (W.alloc o) :=
  ⟨owns_at h.row (fun j e => Below.heap_alloc _ _ _ (ownsN_lt h.row j e).2.1), fun j hj => ⟨(h.ents j hj).1, (Below.heap_alloc _ _ _ (lt_of_block (h.ents j hj).2)).trans (h.ents j hj).2⟩, h.below.alloc h.below.size _⟩
/-- One node more. -/
theorem DeI.more {w : World} {s : ByteArray} {bs : Nat → Nat} {i : Nat} {v : Value} {W : World} (h : DeI w s (chL s bs i) bs i v W) (hn : i ≤ 16777216) : ∃ v' W' bs', (Builtin.append_ #[22, 22] 22 #[v, .slice (some ⟨W.heap.size + 1, 0, none⟩) 1 1]).run Try.prog ((W.alloc (.cells #[.int .i64 ((i : Int) + 2), .string s] 41)).alloc (.cells #[.int .i64 ((i : Int) + 1), .int .i64 2, .int .i64 0, .int .i64 0, .slice none 0 0, .slice (some ⟨W.heap.size, 0, none⟩) 1 1] 39)) = .ok v' W' ∧ DeI w s (chL s bs' (i + 1)) bs' (i + 1) v' W' := by
  have hA := h.alloc (.cells #[.int .i64 ((i : Int) + 2), .string s] 41)
  have hb := h.below.size
  obtain ⟨bs', hbs⟩ : ∃ bs' : Nat → Nat, bs' = fun j => if j = i then W.heap.size else bs j := ⟨_, rfl⟩
  have hi : bs' i = W.heap.size := by rw [hbs]; simp
  have hj : ∀ j, j < i → bs j = bs' j := fun j hj => by rw [hbs]; simp; intro e; omega
  rw [chL_congr hj] at hA
  have hB : DeI w s (chL s bs' i) bs' (i + 1) v (W.alloc (.cells #[.int .i64 ((i : Int) + 2), .string s] 41)) := ⟨hA.row, fun j hj' => by
    by_cases e : j = i
    · subst e
      rw [hi]
      exact ⟨hb, blk_new W _⟩
    · rw [← hj j (by omega)]
      exact hA.ents j (by omega), hA.below⟩
  obtain ⟨v', W', hr, hD⟩ := hB.push (chN s bs' i) (by rw [chL_length]; exact hn)
  refine ⟨v', W', bs', ?_, by rw [chL_snoc]; exact hD⟩
  simpa [noC, chN, hi] using hr
theorem wf_60 {x : Int} (h : -1000 ≤ x ∧ x ≤ 1000) : (Lit.int .i64 x).wf = true := by
  have e1 : IntKind.i64.min = -9223372036854775808 := by decide
  have e2 : IntKind.i64.max = 9223372036854775807 := by decide
  simp [Lit.wf, e1, e2]
  omega
/-- The chain in memory. -/
theorem DeI.nodes {w : World} {s : ByteArray} {bs : Nat → Nat} {n : Nat} {ao : Option Addr} {c : Nat} {W : World} (h : DeI w s (chL s bs n ++ [lastN n]) bs n (.slice ao (n + 1) c) W) (hn : n ≤ 60) : NoAt W ao (n + 1) (fun j => (chL s bs n ++ [lastN n]).getD j noZ) := by
  have hr := h.row
  rw [List.length_append, chL_length] at hr
  refine ownsN_NoAt hr (fun j hj => ?_)
  rcases Nat.lt_or_ge j n with e | e
  · rw [chL_get s bs n j e]
    obtain ⟨-, h2⟩ := h.ents j e
    refine ⟨fun hn => absurd hn (Nat.lt_irrefl 0), fun _ => ⟨bs j, 0, rfl, lt_of_block h2, fun k hk => ?_⟩, ⟨by unfold chN; dsimp only; omega, by unfold chN; dsimp only; omega, ?_, fun k hk => ?_⟩⟩
    · obtain rfl : k = 0 := by have : k < 1 := hk; omega
      exact ⟨by rw [blk_cell h2]; rfl, by rw [blk_cell h2]; rfl⟩
    · show (Lit.int .i64 ((j : Int) + 1)).wf = true
      exact wf_60 (by omega)
    · show (Lit.int .i64 ((j : Int) + 2)).wf = true
      exact wf_60 (by omega)
  · obtain rfl : j = n := by omega
    rw [chL_last]
    refine ⟨fun hn => absurd hn (Nat.lt_irrefl 0), fun hn => absurd hn (Nat.lt_irrefl 0), ⟨by unfold lastN; dsimp only; omega, by unfold lastN; dsimp only; omega, ?_, fun k hk => absurd hk (Nat.not_lt_zero k)⟩⟩
    show (Lit.int .i64 ((j : Int) + 1)).wf = true
    exact wf_60 (by omega)
set_option maxRecDepth 100000 in
set_option maxHeartbeats 4000000 in
theorem walkdeep_law (w : World) (a0 a1 : Int) : Calls Try.prog 7 #[.int .i64 a0, .int .i64 a1] w fun e w' => e = .returned (.bool true) ∧ Below w.heap.size w w' := by
  have HAL := Hid.mk (alive_any w)
  by_cases hbad : a0 < 1 ∨ 60 < a0 ∨ a1 < 1 ∨ 27 < a1
  · rcases Int.lt_or_le a0 1 with h1 | h1
    · have h1' : a0 < 1 := h1
      clear hbad
      go_enter Try.func7, Try.ntmps7
      go_wp2_with (go_at_call 9; with_reducible refine HAL.out.mono ?_; rintro e W ⟨rfl, hB⟩; have BB := Hid.mk hB; clear hB HAL)
      go_ret
      exact ⟨rfl, BB.out⟩
    · have h1' : ¬ a0 < 1 := by omega
      rcases Int.lt_or_le 60 a0 with h2 | h2
      · have h2' : (60 : Int) < a0 := h2
        clear hbad
        go_enter Try.func7, Try.ntmps7
        go_wp2_with (go_at_call 9; with_reducible refine HAL.out.mono ?_; rintro e W ⟨rfl, hB⟩; have BB := Hid.mk hB; clear hB HAL)
        go_ret
        exact ⟨rfl, BB.out⟩
      · have h2' : ¬ (60 : Int) < a0 := by omega
        rcases Int.lt_or_le a1 1 with h3 | h3
        · have h3' : a1 < 1 := h3
          clear hbad
          go_enter Try.func7, Try.ntmps7
          go_wp2_with (go_at_call 9; with_reducible refine HAL.out.mono ?_; rintro e W ⟨rfl, hB⟩; have BB := Hid.mk hB; clear hB HAL)
          go_ret
          exact ⟨rfl, BB.out⟩
        · have h3' : ¬ a1 < 1 := by omega
          have h4' : (27 : Int) < a1 := by omega
          clear hbad
          go_enter Try.func7, Try.ntmps7
          go_wp2_with (go_at_call 9; with_reducible refine HAL.out.mono ?_; rintro e W ⟨rfl, hB⟩; have BB := Hid.mk hB; clear hB HAL)
          go_ret
          exact ⟨rfl, BB.out⟩
  · obtain ⟨n, rfl⟩ : ∃ n : Nat, a0 = (n : Int) := ⟨a0.toNat, by omega⟩
    obtain ⟨k, rfl⟩ : ∃ k : Nat, a1 = (k : Int) := ⟨a1.toNat, by omega⟩
    have hn : 1 ≤ n ∧ n ≤ 60 := by omega
    have hk : 1 ≤ k ∧ k ≤ 27 := by omega
    have HN := Hid.mk hn
    have HK := Hid.mk hk
    have h1' : ¬ (n : Int) < 1 := by omega
    have h2' : ¬ (60 : Int) < (n : Int) := by omega
    have h3' : ¬ (k : Int) < 1 := by omega
    have h4' : ¬ (27 : Int) < (k : Int) := by omega
    clear hbad hn hk
    go_enter Try.func7, Try.ntmps7
    go_upto_region 2 with (go_at_call 9; with_reducible refine HAL.out.mono ?_; rintro e W ⟨rfl, hB⟩; have BB := Hid.mk hB; clear hB HAL)
    go_cut [33] from 16 to 34 (fun v wr => v = .bool false ∧ Hid (wr = W))
    case first =>
      go_wp2
      go_meet
      case rel => exact ⟨by simp [h1', h2', h3', h4'], Hid.mk rfl⟩
    case rest =>
    obtain ⟨rfl, HWC⟩ := hcut
    have hwc := HWC.out
    subst hwc
    clear h1' h2' h3' h4' HWC
    go_wp2
    go_loopw [6, 7] (fun sv iv wr => ∃ j : Nat, j ≤ k ∧ iv = .int .i64 (j : Int) ∧ ∃ t : ByteArray, sv = .string t ∧ Hid (t = dS j ∧ wr = wc)) (fun _ iv _ => ((k : Int) - Go.RowKit.intOf iv).toNat)
    case atStart => exact ⟨0, by omega, rfl, ⟨#[]⟩, rfl, Hid.mk ⟨rfl, rfl⟩⟩
    case round =>
      obtain ⟨j, hj, rfl, t, rfl, HW⟩ := hrel
      by_cases hlt : j < k
      · have hjk : (j : Int) < (k : Int) := by omega
        have hjj : IntKind.i64.wrap ((j : Int) + 1) = (j : Int) + 1 := by have := HK.out; rw [IntKind.wrap_i64]; omega
        have hts : ¬ 9223372036854775807 < t.size + 1 := by have h1 := dS_size j; rw [← HW.out.1] at h1; have := HK.out; omega
        go_wp2
        go_roundw
        case rel => exact ⟨j + 1, hlt, by push_cast; rfl, _, rfl, Hid.mk ⟨by rw [dS, HW.out.1], HW.out.2⟩⟩
        case measure => simp [Go.RowKit.intOf]; omega
      · obtain rfl : j = k := by omega
        obtain ⟨hds, hW⟩ := HW.out
        subst hW
        have HDS := Hid.mk hds
        clear hds
        obtain ⟨w3, rfl⟩ : ∃ w3, w3 = wr := ⟨_, rfl⟩
        have hts := dS_size j
        rw [← HDS.out] at hts
        have HTS := Hid.mk hts
        clear hj hlt HW hts
        go_upto_region 10 with fail
        go_wp2
        have e0 : DeI w3 t (chL t (fun _ => 0) 0) (fun _ => 0) 0 (.slice none 0 0) w3 := ⟨World.ownsRow_nil _ _ _ _, fun i hi => absurd hi (Nat.not_lt_zero i), Below.refl _ _⟩
        have HE0 := Hid.mk e0
        clear e0
        go_loopw [8, 9] (fun lv iv w5 => ∃ i : Nat, i ≤ n ∧ iv = .int .i64 (i : Int) ∧ Hid (∃ bs, DeI w3 t (chL t bs i) bs i lv w5)) (fun _ iv _ => ((n : Int) - Go.RowKit.intOf iv).toNat)
        case atStart => exact ⟨0, by omega, rfl, Hid.mk ⟨_, HE0.out⟩⟩
        case round =>
          obtain ⟨i, hi, rfl, HI⟩ := hrel
          obtain ⟨bs, hD⟩ := HI.out
          have hrw := hD.row
          rw [chL_length] at hrw
          by_cases hlt : i < n
          · have hin : (i : Int) < (n : Int) := by omega
            have hw1 : IntKind.i64.wrap ((i : Int) + 1) = (i : Int) + 1 := by have := HN.out; rw [IntKind.wrap_i64]; omega
            have hw2 : IntKind.i64.wrap ((i : Int) + 2) = (i : Int) + 2 := by have := HN.out; rw [IntKind.wrap_i64]; omega
            obtain ⟨va, vc, rfl⟩ := ownsN_slice hrw
            obtain ⟨v', W', bs', hr, hD'⟩ := hD.more (by have := HN.out; omega)
            have HR := Hid.mk hr
            have HD' := Hid.mk hD'
            clear hD hrw hr hD' HI
            go_wp2_with (with_reducible refine wpList_it ?_; refine wpLB_append (by kernel_rfl) (.tmp 47) (.tmp 56) 22 rfl _ _ _ W' (by kernel_rfl) (by kernel_rfl) HR.out ?_; simp only [Act.put])
            go_roundw
            case rel => exact ⟨i + 1, hlt, by push_cast; rfl, Hid.mk ⟨bs', HD'.out⟩⟩
            case measure => simp [Go.RowKit.intOf]; omega
          · obtain rfl : i = n := by omega
            clear HE0 hi hlt HI
            obtain ⟨va, vc, rfl⟩ := ownsN_slice hrw
            obtain ⟨w5, rfl⟩ : ∃ w5, w5 = wr := ⟨_, rfl⟩
            have hw1 : IntKind.i64.wrap ((i : Int) + 1) = (i : Int) + 1 := by have := HN.out; rw [IntKind.wrap_i64]; omega
            obtain ⟨v', W', hr, hD'⟩ := hD.push (lastN i) (by rw [chL_length]; have := HN.out; omega)
            have hrw' := hD'.row
            rw [List.length_append, chL_length] at hrw'
            obtain ⟨va', vc', rfl⟩ := ownsN_slice hrw'
            have hNo := hD'.nodes HN.out.2
            have hr2 : (Builtin.append_ #[22, 22] 22 #[.slice va i vc, .slice (some ⟨w5.heap.size, 0, none⟩) 1 1]).run Try.prog (w5.alloc (.cells #[.int .i64 ((i : Int) + 1), .int .i64 1, .int .i64 0, .int .i64 0, .slice none 0 0, .slice none 0 0] 39)) = .ok (.slice va' (i + 1) vc') W' := by simpa [noC, lastN] using hr
            have HR := Hid.mk hr2
            have HNO := Hid.mk hNo
            have HB5 := Hid.mk (BB.out.trans (hD'.below.mono BB.out.size))
            have hCH := chain_of t bs i
            generalize hNd : (fun j => (chL t bs i ++ [lastN i]).getD j noZ) = Nd at *
            have HCH := Hid.mk hCH
            clear hD hrw hr hD' hrw' hNo hr2 hCH hNd
            obtain ⟨q, hq⟩ : ∃ q : Nat, q = 500 / (j + 1) := ⟨_, rfl⟩
            have hdv : Int.tdiv 500 ((j : Int) + 1) = (q : Int) := by
              rw [hq, Int.tdiv_eq_ediv_of_nonneg (by omega)]
              push_cast
              rfl
            have hq5 : q ≤ 500 := by rw [hq]; exact Nat.div_le_self _ _
            have hwq : IntKind.i64.wrap (q : Int) = (q : Int) := by rw [IntKind.wrap_i64]; omega
            have hwj : IntKind.i64.wrap ((j : Int) + 1) = (j : Int) + 1 := by have := HK.out; rw [IntKind.wrap_i64]; omega
            have hj0 : ¬ (j : Int) + 1 = 0 := by omega
            have hj0b : ((j : Int) + 1 == 0) = false := by simpa using hj0
            have HQ := Hid.mk hq
            clear hq
            go_upto_region 15 with (with_reducible refine wpList_it ?_; refine wpLB_append (by kernel_rfl) (.tmp 58) (.tmp 62) 22 rfl _ _ _ W' (by kernel_rfl) (by kernel_rfl) HR.out ?_; simp only [Act.put])
            clear HR hw1
            go_upto_region 16 with fail
            have hchp := HCH.out.paths HN.out.1
            rw [HTS.out, ← HQ.out] at hchp
            have hnm : ∀ d x, d < i + 1 → x < (Nd d).sn → ((Nd d).E x).nm.size ≤ 1000 := fun d x hd hx => by
              rcases Nat.lt_or_ge d i with h | h
              · obtain ⟨-, d2, d3⟩ := HCH.out.dir d h
                obtain rfl : x = 0 := by omega
                rw [d3]
                show t.size ≤ 1000
                rw [HTS.out]
                have := HK.out
                omega
              · obtain rfl : d = i := by omega
                have := HCH.out.last.2
                omega
            obtain ⟨want, hwant⟩ : ∃ want, want = min i q := ⟨_, rfl⟩
            rw [← hwant] at hchp
            have hlen : (pathsS (i + 1) Nd).length = want := by rw [hchp]; simp
            have HP := Hid.mk (paths_any W' va' (i + 1) vc' Nd HNO.out hnm (by have := HN.out; omega) (by rw [hlen]; have := HN.out; omega))
            rw [hlen] at HP
            have HGET : Hid (∀ x, x < want → (pathsS (i + 1) Nd).getD x ⟨#[]⟩ = pthB t (x + 1)) := Hid.mk (fun x hx => by
              rw [hchp, List.getD, List.getElem?_map, List.getElem?_range' hx]
              simp [Nat.add_comm])
            have HSZ : Hid (∀ x, (pthB t (x + 1)).size = (x + 1) * (j + 1)) := Hid.mk (fun x => by rw [pthB_size, HTS.out])
            have HF : Hid (∀ (W : World) (x : Nat), Below W'.heap.size W' W → x < want → Calls Try.prog 11 #[.slice va' (i + 1) vc', .string (pthB t (x + 1))] W fun e w' => e = .returned (.tuple #[.int .i64 ((x : Int) + 1), .int .i64 0]) ∧ Below W.heap.size W w') := Hid.mk (fun W x hB hx => by
              have h1 : (x + 1) * (j + 1) ≤ 500 := (Nat.le_div_iff_mul_le (by omega)).1 (by rw [← HQ.out]; omega)
              have hfs := HCH.out
              rw [HDS.out] at hfs
              have h2 := hfs.find HK.out.1 (by have := HK.out; omega) x (by omega) h1
              rw [← HDS.out] at h2
              have h3 := find_any W va' (i + 1) vc' Nd (pthB t (x + 1)) (HNO.out.blw hB) (by have := HN.out; omega) (by rw [HSZ.out]; omega)
              rw [h2] at h3
              simpa using h3)
            have HWT : Hid (want ≤ 500) := Hid.mk (by omega)
            have HWQ : Hid (want = min i q) := Hid.mk hwant
            clear hchp hlen hnm hwant
            by_cases hgt : (i : Int) < (q : Int)
            · have hwi : (i : Int) = (want : Int) := by have := HWQ.out; omega
              go_upto_region 18 with fail
              rw [hwi]
              clear hwi hgt
              go_upto_region 19 with (go_at_call 14; refine HP.out.mono ?_; rintro e W6 ⟨v6, rfl, h6, hB6⟩; obtain ⟨a6, c6, rfl⟩ := owns_slice h6)
              have HROW : Hid (∀ (W : World) (x : Nat), Below W6.heap.size W6 W → x < want → ∃ g, a6 = some ⟨g, 0, none⟩ ∧ W.cell? ⟨g, x, none⟩ = some (.string (pthB t (x + 1)))) := Hid.mk (fun W x hB hx => by
                obtain ⟨g, qq, e6, -, l6, r6⟩ := owns_str h6 (by omega)
                cases e6
                refine ⟨g, rfl, ?_⟩
                rw [World.cell?_of_block (w := W6) (a := ⟨g, x, none⟩) (hB.block _ l6), r6 x hx, HGET.out x hx])
              have HB6 := Hid.mk hB6
              clear h6 hB6 HP
              go_wp2
              go_loopw [12] (fun iv w7 => ∃ x : Nat, x ≤ want ∧ iv = .int .i64 (x : Int) ∧ Hid (Below W6.heap.size W6 w7)) (fun iv _ => ((want : Int) - Go.RowKit.intOf iv).toNat)
              case atStart => exact ⟨0, by omega, rfl, Hid.mk (Below.refl _ _)⟩
              case round =>
                obtain ⟨x, hx, rfl, HX⟩ := hrel
                by_cases hlx : x < want
                · obtain ⟨g, rfl, y⟩ := HROW.out wr x HX.out hlx
                  have HFX := Hid.mk (HF.out wr x (HB6.out.trans (HX.out.mono HB6.out.size)) hlx)
                  have hps := HSZ.out x
                  generalize pthB t (x + 1) = ps at *
                  have hx0 : (0 : Int) ≤ (x : Int) := by omega
                  have hxw : (x : Int) < (want : Int) := by omega
                  have hxx : IntKind.i64.wrap ((x : Int) + 1) = (x : Int) + 1 := by have := HWT.out; rw [IntKind.wrap_i64]; omega
                  have hpi : (ps.size : Int) = ((x : Int) + 1) * ((j : Int) + 1) := by rw [hps]; push_cast; rfl
                  have hwm : IntKind.i64.wrap (((x : Int) + 1) * ((j : Int) + 1)) = ((x : Int) + 1) * ((j : Int) + 1) := by
                    rw [← hpi]
                    have h1 : (x + 1) * (j + 1) ≤ 501 * 28 := Nat.mul_le_mul (by have := HWT.out; omega) (by have := HK.out; omega)
                    rw [IntKind.wrap_i64]
                    omega
                  clear hps
                  go_wp2_with (first
                    | (go_at_call 11; refine HFX.out.mono ?_; rintro e W8 ⟨rfl, hB8⟩; have HB8 := Hid.mk hB8; have y8 := (World.cell?_of_block (w := wr) (w' := W8) (a := ⟨g, x, none⟩) (hB8.block _ (cell_ltA y))).trans y; clear hB8 HFX)
                    | (go_at_call 13; refine (num_any _ _).mono ?_; rintro r W9 ⟨rfl, hW9⟩; subst hW9))
                  go_roundw
                  case rel => exact ⟨x + 1, hlx, by push_cast; rfl, Hid.mk (HX.out.trans (HB8.out.mono HX.out.size))⟩
                  case measure => simp [Go.RowKit.intOf]; omega
                · obtain rfl : x = want := by omega
                  go_wp2
                  refine bodyPost_ret (results_tmp rfl _ _ _) rfl ?_
                  have h6 := HB5.out.trans (HB6.out.mono HB5.out.size)
                  exact ⟨rfl, h6.trans (HX.out.mono h6.size)⟩
            · have hwi : (q : Int) = (want : Int) := by have := HWQ.out; omega
              go_upto_region 18 with fail
              rw [hwi]
              clear hwi hgt
              go_upto_region 19 with (go_at_call 14; refine HP.out.mono ?_; rintro e W6 ⟨v6, rfl, h6, hB6⟩; obtain ⟨a6, c6, rfl⟩ := owns_slice h6)
              have HROW : Hid (∀ (W : World) (x : Nat), Below W6.heap.size W6 W → x < want → ∃ g, a6 = some ⟨g, 0, none⟩ ∧ W.cell? ⟨g, x, none⟩ = some (.string (pthB t (x + 1)))) := Hid.mk (fun W x hB hx => by
                obtain ⟨g, qq, e6, -, l6, r6⟩ := owns_str h6 (by omega)
                cases e6
                refine ⟨g, rfl, ?_⟩
                rw [World.cell?_of_block (w := W6) (a := ⟨g, x, none⟩) (hB.block _ l6), r6 x hx, HGET.out x hx])
              have HB6 := Hid.mk hB6
              clear h6 hB6 HP
              go_wp2
              go_loopw [12] (fun iv w7 => ∃ x : Nat, x ≤ want ∧ iv = .int .i64 (x : Int) ∧ Hid (Below W6.heap.size W6 w7)) (fun iv _ => ((want : Int) - Go.RowKit.intOf iv).toNat)
              case atStart => exact ⟨0, by omega, rfl, Hid.mk (Below.refl _ _)⟩
              case round =>
                obtain ⟨x, hx, rfl, HX⟩ := hrel
                by_cases hlx : x < want
                · obtain ⟨g, rfl, y⟩ := HROW.out wr x HX.out hlx
                  have HFX := Hid.mk (HF.out wr x (HB6.out.trans (HX.out.mono HB6.out.size)) hlx)
                  have hps := HSZ.out x
                  generalize pthB t (x + 1) = ps at *
                  have hx0 : (0 : Int) ≤ (x : Int) := by omega
                  have hxw : (x : Int) < (want : Int) := by omega
                  have hxx : IntKind.i64.wrap ((x : Int) + 1) = (x : Int) + 1 := by have := HWT.out; rw [IntKind.wrap_i64]; omega
                  have hpi : (ps.size : Int) = ((x : Int) + 1) * ((j : Int) + 1) := by rw [hps]; push_cast; rfl
                  have hwm : IntKind.i64.wrap (((x : Int) + 1) * ((j : Int) + 1)) = ((x : Int) + 1) * ((j : Int) + 1) := by
                    rw [← hpi]
                    have h1 : (x + 1) * (j + 1) ≤ 501 * 28 := Nat.mul_le_mul (by have := HWT.out; omega) (by have := HK.out; omega)
                    rw [IntKind.wrap_i64]
                    omega
                  clear hps
                  go_wp2_with (first
                    | (go_at_call 11; refine HFX.out.mono ?_; rintro e W8 ⟨rfl, hB8⟩; have HB8 := Hid.mk hB8; have y8 := (World.cell?_of_block (w := wr) (w' := W8) (a := ⟨g, x, none⟩) (hB8.block _ (cell_ltA y))).trans y; clear hB8 HFX)
                    | (go_at_call 13; refine (num_any _ _).mono ?_; rintro r W9 ⟨rfl, hW9⟩; subst hW9))
                  go_roundw
                  case rel => exact ⟨x + 1, hlx, by push_cast; rfl, Hid.mk (HX.out.trans (HB8.out.mono HX.out.size))⟩
                  case measure => simp [Go.RowKit.intOf]; omega
                · obtain rfl : x = want := by omega
                  go_wp2
                  refine bodyPost_ret (results_tmp rfl _ _ _) rfl ?_
                  have h6 := HB5.out.trans (HB6.out.mono HB5.out.size)
                  exact ⟨rfl, h6.trans (HX.out.mono h6.size)⟩
end Go.Proofs.Ytbahbhaoimabdaa
