/-
  walk.way: its iterator.
-/
import Derived.Test.YtbahbhaoimabdaaWkRange2
namespace Go.Proofs.Ytbahbhaoimabdaa
open Go Go.Proofs Go.RowKit Go.Shelf
attribute [local go_sem] Oper.semAt_some

theorem arm_call {f n : Nat} {C : Prop} (h : C) : Fence.wide.fn f ∧ (Fence.wide.depth.isSome = true → 1 ≤ n) ∧ C := ⟨trivial, fun h => by simp [Fence.wide] at h, h⟩
theorem arm_yield {n : Nat} {C : Prop} (h : C) : (Fence.wide.depth.isSome = true → 1 ≤ n) ∧ C := ⟨fun h => by simp [Fence.wide] at h, h⟩
theorem cast0 : ((0 : Nat) : Int) = 0 := rfl
theorem cast12 : ((12 : Nat) : Int) = 12 := rfl
/-- A row of strings. -/
def StrAt (W : World) (po : Option Addr) (n : Nat) (PB : List ByteArray) : Prop := PB.length = n ∧ (0 < n → ∃ g o, po = some ⟨g, o, none⟩ ∧ g < W.heap.size ∧ ∀ k, k < n → W.cell? ⟨g, o + k, none⟩ = some (.string (PB.getD k ⟨#[]⟩)))
theorem StrAt.blw {W W' : World} {po : Option Addr} {n : Nat} {PB : List ByteArray} (h : StrAt W po n PB) (hB : Below W.heap.size W W') : StrAt W' po n PB := by
  refine ⟨h.1, fun hn => ?_⟩
  obtain ⟨g, o, e, hl, hc⟩ := h.2 hn
  exact ⟨g, o, e, Nat.lt_of_lt_of_le hl hB.size, fun k hk => (World.cell?_of_block (w := W) (w' := W') (a := ⟨g, o + k, none⟩) (hB.block g hl)).trans (hc k hk)⟩
/-- What the iterator reads. -/
structure WyR (W : World) (B : Nat) (ao : Option Addr) (m cc : Nat) (Nd : Nat → NoV) (po : Option Addr) (n pc : Nat) (PB : List ByteArray) : Prop where
  l : W.heap[B]? = some (.cells #[.slice ao m cc] 22 (0, 0))
  p : W.heap[B + 1]? = some (.cells #[.slice po n pc] 31 (0, 0))
  no : NoAt W ao m Nd
  st : StrAt W po n PB
/-- Between two rounds. -/
structure WyI (J : (Nat → Prop) → Nat → World → Prop) (b c m : Nat) (Nd : Nat → NoV) (PB : List ByteArray) (Lw : List (Nat × Nat)) (i : Nat) (st : Nat × Nat) (W : World) : Prop where
  j : J (fun x => x = b) i W
  map : MAt W 3 b c (plcF m Nd m)
  left : Lw.drop i = wayW m Nd st (PB.drop i)
  lt : st.2 = 0 → st.1 < m
theorem drop_one {α : Type} {L X : List α} {x : α} (d : α) {i : Nat} (h : L.drop i = x :: X) : L.getD i d = x ∧ i < L.length ∧ L.drop (i + 1) = X := by
  have hlt : i < L.length := by
    rcases Nat.lt_or_ge i L.length with h1 | h1
    · exact h1
    · rw [List.drop_of_length_le h1] at h; cases h
  refine ⟨?_, hlt, ?_⟩
  · rw [List.drop_eq_getElem_cons hlt] at h
    simp [List.getD, List.getElem?_eq_getElem hlt, (List.cons.inj h).1]
  · rw [← List.drop_drop, h]; rfl
theorem drop_last {α : Type} {L : List α} {x : α} {i : Nat} (h : L.drop i = [x]) : i + 1 = L.length := by
  have := congrArg List.length h
  simp at this
  omega
theorem wayW_nil (m : Nat) (Nd : Nat → NoV) (st : Nat × Nat) : wayW m Nd st [] = [st] := rfl
theorem wayW_err {m : Nat} {Nd : Nat → NoV} {st : Nat × Nat} (p : ByteArray) (r : List ByteArray) (h : st.2 ≠ 0) : wayW m Nd st (p :: r) = [st] := by rw [wayW, if_pos h]
theorem wayW_file {m : Nat} {Nd : Nat → NoV} {st : Nat × Nat} (p : ByteArray) (r : List ByteArray) (h : st.2 = 0) (hk : (Nd st.1).kind ≠ 2) : wayW m Nd st (p :: r) = [(st.1, 0), (0, 12)] := by rw [wayW, if_neg (fun x => x h), if_pos hk]
theorem wayW_dir {m : Nat} {Nd : Nat → NoV} {st : Nat × Nat} (p : ByteArray) (r : List ByteArray) (h : st.2 = 0) (hk : (Nd st.1).kind = 2) : wayW m Nd st (p :: r) = (st.1, 0) :: wayW m Nd (placeS m Nd (namedS (Nd st.1) p)) r := by rw [wayW, if_neg (fun x => x h), if_neg (fun x => x hk)]
theorem namedS_wf {x : NoV} (h : ∀ j, j < x.sn → (Lit.int .i64 (x.E j).ino).wf = true) (p : ByteArray) : (Lit.int .i64 (namedS x p)).wf = true := by
  unfold namedS
  cases hq : slotN x p with
  | none => rfl
  | some j =>
    have := List.mem_of_find?_eq_some hq
    exact h j (List.mem_range.1 this)
set_option maxRecDepth 100000 in
set_option maxHeartbeats 4000000 in
theorem way_hit {l N n : Nat} {J : (Nat → Prop) → Nat → World → Prop} {ao po : Option Addr} {m cc pc B : Nat} {Nd : Nat → NoV} {PB : List ByteArray} {Lw : List (Nat × Nat)} (hLw : Lw = wayW m Nd (placeS m Nd 1) PB) (hN : Lw.length = N)
    (hJ : Jt Try.prog l N (fun k => #[.int .i64 ((Lw.getD k (0, 0)).1 : Nat), .int .i64 ((Lw.getD k (0, 0)).2 : Nat)]) J)
    (hR : ∀ S k A, J S k A → WyR A B ao m cc Nd po n pc PB) (hm : m ≤ 16777216) (hn : n ≤ 16777216)
    (W : World) (h0 : J (fun _ => False) 0 W) (q : Nat) :
    CallsIn Fence.wide q Try.prog 36 #[.func (.yield l) #[] #[], .pointer (some ⟨B, 0, none⟩), .pointer (some ⟨B + 1, 0, none⟩)] W fun e W' => (∃ v, e = .returned v) ∧ ∃ S, J S N W' := by
  have HM := Hid.mk hm
  have HNN := Hid.mk hn
  have HJ := Hid.mk hJ
  have HR := Hid.mk hR
  have HL := Hid.mk (And.intro hLw hN)
  have HH0 := Hid.mk h0
  have e0 := blk_cell (hR _ _ _ h0).l 0
  simp at e0
  have HPL := Hid.mk (places_any W ao m cc Nd (hR _ _ _ h0).no (by omega))
  clear hm hn hJ hR hLw hN h0
  refine callsIn_of_wp Try.func36 rfl trivial ?_ rfl
  simp only [Try.ntmps36, List.size_toArray, List.length_cons, List.length_nil, Nat.reduceAdd, Nat.reduceSub, Array.replicate_succ, Array.replicate_zero, List.push_toArray, List.append_toArray, List.nil_append, List.cons_append]
  gi_upto_region 1 with (refine ⟨trivial, (fun h => by simp [Fence.wide] at h), ?_⟩; gi_at_call 37; refine (callsIn_wide.2 HPL.out).mono ?_; rintro e w3 ⟨rfl, ⟨c, hM⟩, hB3⟩)
  have hj3 : J (fun x => x = W.heap.size) 0 w3 := HJ.out.step _ _ _ _ _ HH0.out (Only.of_new _ hB3) (fun x hx => .inr (by subst hx; exact ⟨Nat.le_refl _, hM.lt⟩))
  generalize hb : W.heap.size = b at *
  have HI0 : Hid (J (fun x => x = b) 0 w3 ∧ MAt w3 3 b c (plcF m Nd m)) := Hid.mk ⟨hj3, hM⟩
  have HPC := Hid.mk (placed_any w3 b m c Nd hM 1 (by decide))
  clear hM hB3 hj3 HPL HH0 hb e0
  gi_upto_region 2 with (refine ⟨trivial, (fun h => by simp [Fence.wide] at h), ?_⟩; gi_at_call 38; refine (callsIn_wide.2 HPC.out).mono ?_; rintro e w4 ⟨rfl, hB4⟩)
  have HI1 : Hid (WyI J b c m Nd PB Lw 0 (placeS m Nd 1) w4) := Hid.mk ⟨HJ.out.step _ _ _ _ _ HI0.out.1 (Only.of_new _ hB4) (fun _ hx => .inl hx), HI0.out.2.kept (hB4.block _ HI0.out.2.lt), by rw [HL.out.1]; rfl, fun h => placeS_lt h⟩
  clear hB4 HPC HI0
  generalize hst : placeS m Nd 1 = st at *
  have e1 := blk_cell (HR.out _ _ _ HI1.out.j).p 0
  simp at e1
  gi_wp2
  clear e1
  gi_loopw [5, 6, 18] (fun v5 v6 iv wr => ∃ (i : Nat) (st : Nat × Nat), i ≤ n ∧ iv = .int .i64 (i : Int) ∧ v5 = .int .i64 (st.1 : Int) ∧ v6 = .int .i64 (st.2 : Int) ∧ Hid (WyI J b c m Nd PB Lw i st wr)) (fun _ _ iv _ => ((n : Int) - Go.RowKit.intOf iv).toNat)
  case atStart => exact ⟨0, st, by omega, rfl, rfl, rfl, HI1⟩
  case round =>
    obtain ⟨i, st, hi, rfl, rfl, rfl, HK⟩ := hrel
    obtain ⟨s1, s2⟩ := st
    dsimp only
    have e1 := (HR.out _ _ _ HK.out.j).st
    by_cases hlt : i < n
    · have hd0 : PB.drop i = PB.getD i ⟨#[]⟩ :: PB.drop (i + 1) := by
        rw [List.drop_eq_getElem_cons (by rw [e1.1]; exact hlt)]
        simp [List.getD, List.getElem?_eq_getElem (show i < PB.length by rw [e1.1]; exact hlt)]
      obtain ⟨pg, po1, hpo, -, hpc⟩ := e1.2 (by omega)
      have y0 := hpc i hlt
      have hle := HK.out.left
      rw [hd0] at hle
      generalize hpp : PB.getD i ⟨#[]⟩ = pp at *
      have hi0 : (0 : Int) ≤ (i : Int) := by omega
      have his : (i : Int) < (n : Int) := by omega
      have hii : IntKind.i64.wrap ((i : Int) + 1) = (i : Int) + 1 := by have := HNN.out; rw [IntKind.wrap_i64]; omega
      rw [hpo]
      clear hpc e1 hpo
      by_cases h2 : s2 = 0
      · subst h2
        have hlm := HK.out.lt rfl
        dsimp only at hlm
        have hd : Lw.getD i (0, 0) = (s1, 0) ∧ i < Lw.length := by
          by_cases hk : (Nd s1).kind = 2
          · rw [wayW_dir pp _ rfl hk] at hle
            exact ⟨(drop_one (0, 0) hle).1, (drop_one (0, 0) hle).2.1⟩
          · rw [wayW_file pp _ rfl hk] at hle
            exact ⟨(drop_one (0, 0) hle).1, (drop_one (0, 0) hle).2.1⟩
        have hY := HJ.out.ask q _ i _ HK.out.j (by rw [← HL.out.2]; exact hd.2)
        rw [hd.1] at hY
        dsimp only at hY
        simp only [cast0] at hY
        obtain ⟨fn, tmps, assign, body, hy, hR⟩ := hY
        have HRR := Hid.mk hR
        have HLE := Hid.mk hle
        clear hR hd hle
        gi_upto_region 7 with (refine ⟨(fun h => by simp [Fence.wide] at h), (roundIn_any HRR.out).mono ?_⟩; rintro e W4 ⟨rfl, hj4, hk4, hz4⟩)
        have HJ4 : Hid (J (fun x => x = b) (i + 1) W4 ∧ MAt W4 3 b c (plcF m Nd m)) := Hid.mk ⟨hj4, HK.out.map.kept (hk4 b rfl)⟩
        have hw := HR.out _ _ _ hj4
        have e0 := blk_cell hw.l 0
        simp at e0
        obtain ⟨f1, o1, rfl, -, ⟨z0, z1, z2, z3, z4, z5⟩, -, hE, hwf⟩ := no_at hw.no hlm
        have HE := Hid.mk hE
        have HWF := Hid.mk hwf
        have hs0 : (0 : Int) ≤ (s1 : Int) := by omega
        have hsm : (s1 : Int) < (m : Int) := by omega
        clear hj4 hk4 hz4 hy HRR y0 hE hwf hw HK
        by_cases hk : (Nd s1).kind = 2
        · have hkb : ((Nd s1).kind == 2) = true := by simpa using hk
          have hkc : ((Nd s1).kind != 2) = false := by simpa using hk
          have hle2 : Lw.drop (i + 1) = wayW m Nd (placeS m Nd (namedS (Nd s1) pp)) (PB.drop (i + 1)) := by
            have h := HLE.out
            rw [wayW_dir pp _ rfl hk] at h
            exact (drop_one (0, 0) h).2.2
          have HL2 := Hid.mk hle2
          have HNA := Hid.mk (named_any W4 (Nd s1) pp HE.out HWF.out.2.1)
          have HPC := Hid.mk (fun (w5 : World) (h5 : Below W4.heap.size W4 w5) => placed_any w5 b m c Nd (HJ4.out.2.kept (h5.block _ HJ4.out.2.lt)) (namedS (Nd s1) pp) (namedS_wf HWF.out.2.2.2 pp))
          generalize hns : namedS (Nd s1) pp = ns at *
          have HNV : Hid (NoV.val (Nd s1) = .agg #[.int .i64 (Nd s1).ino, .int .i64 (Nd s1).kind, .int .i64 (Nd s1).links, .int .i64 (Nd s1).size, .slice (Nd s1).bo (Nd s1).bn (Nd s1).bc, .slice (Nd s1).so (Nd s1).sn (Nd s1).sc]) := Hid.mk rfl
          rw [HNV.out, hk] at HNA
          clear hle2 HLE hns
          gi_wp2_with (first
            | (with_reducible refine arm_call ?_; gi_at_call 39; refine (callsIn_wide.2 HNA.out).mono ?_; rintro e w5 ⟨rfl, hB5⟩; have HB5 := Hid.mk hB5; clear hB5)
            | (with_reducible refine arm_call ?_; gi_at_call 38; refine (callsIn_wide.2 (HPC.out _ HB5.out)).mono ?_; rintro e w6 ⟨rfl, hB6⟩))
          have HI6 : Hid (WyI J b c m Nd PB Lw (i + 1) (placeS m Nd ns) w6) := Hid.mk (by
            have h6 : Below W4.heap.size W4 w6 := HB5.out.trans (hB6.mono HB5.out.size)
            exact ⟨HJ.out.step _ _ _ _ _ HJ4.out.1 (Only.of_new _ h6) (fun _ hx => .inl hx), HJ4.out.2.kept (h6.block _ HJ4.out.2.lt), HL2.out, fun h => placeS_lt h⟩)
          clear hB6 HB5 HNA HPC HL2
          go_roundw
          case rel => exact ⟨i + 1, placeS m Nd ns, hlt, by push_cast; rfl, rfl, rfl, HI6⟩
          case measure => simp [Go.RowKit.intOf]; omega
        · have hkb : ((Nd s1).kind == 2) = false := by simpa using hk
          have hkc : ((Nd s1).kind != 2) = true := by simpa using hk
          have hle2 : Lw.drop (i + 1) = [(0, 12)] := by
            have h := HLE.out
            rw [wayW_file pp _ rfl hk] at h
            exact (drop_one (0, 0) h).2.2
          have hd := drop_one (0, 0) hle2
          have hl1 := drop_last hle2
          have hY := HJ.out.ask q _ (i + 1) _ HJ4.out.1 (by rw [← HL.out.2]; exact hd.2.1)
          rw [hd.1] at hY
          dsimp only at hY
          try simp only [cast0, cast12] at hY
          obtain ⟨fn, tmps, assign, body, hy, hR⟩ := hY
          have HRR := Hid.mk hR
          have HEN : Hid ((i + 1) + 1 = N) := Hid.mk (by rw [← HL.out.2]; exact hl1)
          clear hR hd hl1
          gi_wp2_with (refine ⟨(fun h => by simp [Fence.wide] at h), (roundIn_any HRR.out).mono ?_⟩; rintro e W9 ⟨rfl, hj9, hk9, hz9⟩)
          refine bodyPost_end (results_none rfl _ _ _) rfl ?_
          exact ⟨⟨_, rfl⟩, _, by rw [← HEN.out]; exact hj9⟩
      · have h2i : ¬ (s2 : Int) = 0 := by omega
        have h2b : ((s2 : Int) == 0) = false := by simpa using h2
        have h2c : ((s2 : Int) != 0) = true := by simpa using h2
        rw [wayW_err (st := (s1, s2)) pp _ h2] at hle
        have hd := drop_one (0, 0) hle
        have hl1 := drop_last hle
        have hY := HJ.out.ask q _ (i) _ HK.out.j (by rw [← HL.out.2]; exact hd.2.1)
        rw [hd.1] at hY
        dsimp only at hY
        try simp only [cast0, cast12] at hY
        obtain ⟨fn, tmps, assign, body, hy, hR⟩ := hY
        have HRR := Hid.mk hR
        have HEN : Hid ((i) + 1 = N) := Hid.mk (by rw [← HL.out.2]; exact hl1)
        clear hR hd hl1
        gi_wp2_with (refine ⟨(fun h => by simp [Fence.wide] at h), (roundIn_any HRR.out).mono ?_⟩; rintro e W9 ⟨rfl, hj9, hk9, hz9⟩)
        refine bodyPost_end (results_none rfl _ _ _) rfl ?_
        exact ⟨⟨_, rfl⟩, _, by rw [← HEN.out]; exact hj9⟩
    · obtain rfl : i = n := by omega
      have hle := HK.out.left
      rw [show PB.drop i = [] by rw [← e1.1]; exact List.drop_length, wayW_nil] at hle
      clear e1
      have hd := drop_one (0, 0) hle
      have hl1 := drop_last hle
      have hY := HJ.out.ask q _ (i) _ HK.out.j (by rw [← HL.out.2]; exact hd.2.1)
      rw [hd.1] at hY
      dsimp only at hY
      try simp only [cast0, cast12] at hY
      obtain ⟨fn, tmps, assign, body, hy, hR⟩ := hY
      have HRR := Hid.mk hR
      have HEN : Hid ((i) + 1 = N) := Hid.mk (by rw [← HL.out.2]; exact hl1)
      clear hR hd hl1
      gi_wp2_with (refine ⟨(fun h => by simp [Fence.wide] at h), (roundIn_any HRR.out).mono ?_⟩; rintro e W9 ⟨rfl, hj9, hk9, hz9⟩)
      refine bodyPost_end (results_none rfl _ _ _) rfl ?_
      exact ⟨⟨_, rfl⟩, _, by rw [← HEN.out]; exact hj9⟩
end Go.Proofs.Ytbahbhaoimabdaa
