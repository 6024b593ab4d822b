/-
  How much room nodes take: numbers (of a directory), room, growth; fits, take, Used.
-/
import Derived.Test.YtehaoeclnmelhacGreatTrAdd
import Derived.Lib.QuietBelow
import Derived.BigQuiet
namespace Go.Proofs.YtehaoeclnmelhacGreat
open Go Go.Proofs Go.RowKit Go.Shelf Go.Sort

theorem owns_lat {w : World} {base : Nat} {v : Value} {n : Nat} {xs : List Int} (h : w.ownsRow base 3 1 v n (Iy xs)) : ∃ ao c, v = .slice ao n c ∧ LAt w ao n xs := by
  rcases Nat.eq_zero_or_pos n with rfl | hn
  · obtain ⟨h1, h2⟩ := h
    rw [Iy_length, Nat.zero_mul] at h1
    rcases h2 with ⟨rfl, _⟩ | ⟨g, cap, cur, rfl, hg, _⟩
    · exact ⟨none, 0, rfl, ⟨h1, fun h => absurd h (Nat.lt_irrefl 0)⟩⟩
    · exact ⟨_, cap, rfl, ⟨h1, fun h => absurd h (Nat.lt_irrefl 0)⟩⟩
  · obtain ⟨g, c, e, hl, hg⟩ := owns_LAt h hn
    exact ⟨_, c, e, hl⟩
theorem appi_one (W : World) (B : Nat) (v : Value) (n : Nat) (xs : List Int) (hown : W.ownsRow B 3 1 v n (Iy xs)) (hB : B ≤ W.heap.size) (x : Int) (hn : n + 1 ≤ 16777216) :
    ∃ v' W', (Builtin.append_ #[40, 40] 40 #[v, .slice (some ⟨W.heap.size, 0, none⟩) 1 1]).run Tryz.prog (W.alloc (.cells #[.int .i64 x] 3)) = .ok v' W' ∧ W'.ownsRow B 3 1 v' (n + 1) (Iy (xs ++ [x])) ∧ Below B W W' := by
  obtain ⟨v', W', hr, h2, h3⟩ := appendi_run (W.alloc (.cells #[.int .i64 x] 3)) B v n xs (hown.alloc _) (by simp; omega) ⟨W.heap.size, 0, none⟩ 1 1 [x] (lat_newi W [x]) hn
  exact ⟨v', W', hr, h2, ((Below.refl B W).alloc hB _).trans h3⟩
theorem LAt.blw {W W' : World} {ao : Option Addr} {n : Nat} {xs : List Int} (h : LAt W ao n xs) (hB : Below W.heap.size W W') : LAt W' ao n xs := h.only (Only.of_new (fun _ => False) hB) (fun _ _ _ h => h)
theorem room_bound (l : List Int) : 0 ≤ roomL l ∧ roomL l ≤ (l.length : Int) + 258 := by have := mt_le l; unfold roomL; omega
theorem upto_len (n : Nat) : (upto n).length = n := by simp [upto]
set_option maxRecDepth 100000 in
set_option maxHeartbeats 2000000 in
theorem room_any (w : World) (ao : Option Addr) (n c : Nat) (xs : List Int) (h : LAt w ao n xs) (hn : n ≤ 16777217) :
    Calls Tryz.prog 52 #[.slice ao n c] w fun e w' => e = .returned (.int .i64 (roomL xs)) ∧ Below w.heap.size w w' := by
  have HM := Hid.mk (meta_any w ao n c xs h (by omega))
  have HV : Hid (wrap64 ((n : Int) + (mtN xs : Int)) = roomL xs) := Hid.mk (by
    have := mt_le xs
    have := h.1
    unfold roomL wrap64
    omega)
  clear h
  go_enter Tryz.func52, Tryz.ntmps52
  go_wp2_with (go_at_call 64; refine HM.out.mono ?_; rintro e W1 ⟨rfl, hB⟩; have HB := Hid.mk hB; clear hB)
  go_ret
  refine ⟨?_, HB.out⟩
  rw [← HV.out]
  rfl
set_option maxRecDepth 100000 in
set_option maxHeartbeats 2000000 in
theorem nos_dir (w : World) (loc : Nat → Nat) (b m r c : Nat) (l z : Int) (s : List Slt) (h : DrAt w loc b m r c l z s) (q : Nat) (hz : z.tdiv 1024 = q) (hq : q ≤ 1048576) :
    Calls Tryz.prog 51 #[ptrV b] w fun e w' => ∃ ao c', e = .returned (.slice ao q c') ∧ w'.ownsRow w.heap.size 3 1 (.slice ao q c') q (Iy (upto q)) ∧ Below w.heap.size w w' := by
  have e0 := blk_cell h.node 0
  have e2 := blk_cell h.node 2
  simp at e0 e2
  have HQ := Hid.mk hq
  have hwq : wrap64 (q : Int) = q := by unfold wrap64; omega
  obtain ⟨B, hB⟩ : ∃ B, w.heap.size = B := ⟨_, rfl⟩
  have HBB := Hid.mk hB
  rw [hB]
  clear h hB hq
  unfold ptrV
  go_enter Tryz.func51, Tryz.ntmps51
  go_wp2
  go_loopw [3, 21] (fun v i wr => ∃ k : Nat, k ≤ q ∧ i = .int .i64 k ∧ wr.ownsRow B 3 1 v k (Iy (upto k)) ∧ Below B w wr ∧ B ≤ wr.heap.size) (fun _ i _ => q - (intOf i).toNat)
  case atStart => exact ⟨0, by omega, rfl, World.ownsRow_nil _ _ _ _, by have := HBB.out; rw [← this]; exact Below.refl _ _, by have := HBB.out; omega⟩
  case round =>
    obtain ⟨k, hk, rfl, hown, hbl, hsz⟩ := hrel
    have HO := Hid.mk hown
    have HB1 := Hid.mk hbl
    have HZ := Hid.mk hsz
    clear hown hbl hsz
    by_cases hlt : k < q
    · have hi : (k : Int) < q := by omega
      have hw1 : IntKind.i64.wrap ((k : Int) + 1) = (k : Int) + 1 := by rw [IntKind.wrap_i64]; have := HQ.out; omega
      obtain ⟨v', W1, hr, ho1, hb1⟩ := appi_one wr B u3 k (upto k) HO.out HZ.out k (by have := HQ.out; omega)
      rw [← upto_succ] at ho1
      have HR := Hid.mk hr
      have HO1 := Hid.mk ho1
      have HB2 := Hid.mk (HB1.out.trans hb1)
      have HZ1 := Hid.mk (Nat.le_trans HZ.out hb1.size)
      clear hr ho1 hb1
      go_wp2_with (at_builtin; refine wpList_append_known rfl _ _ _ rfl _ _ _ _ rfl rfl HR.out ?_; simp only [Act.put, List.setIfInBounds_toArray, List.set_cons_zero, List.set_cons_succ])
      refine ⟨⟨k + 1, by omega, by simp, HO1.out, HB2.out, HZ1.out⟩, ?_⟩
      simp [intOf]
      omega
    · obtain rfl : k = q := by omega
      have hi : ¬ (k : Int) < (k : Nat) := by omega
      go_wp2
      go_ret
      obtain ⟨ao, c', ev, _⟩ := owns_lat HO.out
      have h1 := HO.out
      rw [ev] at h1
      exact ⟨ao, c', congrArg Ending.returned ev, h1, HB1.out⟩
/-- append(has, x) leaves what 'has' tells. -/
theorem appi_keep (W : World) (B : Nat) (ao : Option Addr) (n c : Nat) (xs : List Int) (hown : W.ownsRow B 3 1 (.slice ao n c) n (Iy xs)) (hB : B ≤ W.heap.size) (x : Int) (hn : n + 1 ≤ 16777216) :
    ∃ bo c2 W', (Builtin.append_ #[40, 40] 40 #[.slice ao n c, .slice (some ⟨W.heap.size, 0, none⟩) 1 1]).run Tryz.prog (W.alloc (.cells #[.int .i64 x] 3)) = .ok (.slice bo (n + 1) c2) W' ∧ LAt W' bo (n + 1) (xs ++ [x]) ∧ LAt W' ao n xs ∧ Below B W W' := by
  obtain ⟨v', W', hr, h2, h3⟩ := appi_one W B _ n xs hown hB x hn
  obtain ⟨bo, c2, rfl, hl⟩ := owns_lat h2
  refine ⟨bo, c2, W', hr, hl, ?_, h3⟩
  have hlen : xs.length = n := by have := hown.1; rw [Iy_length] at this; omega
  refine ⟨hlen, fun hpos => ?_⟩
  have hown1 := hown.alloc (.cells #[.int .i64 x] 3)
  obtain ⟨i0, hi, hz0, hz1, hz2⟩ := info3p
  have hnews : ∀ (j : Nat) (u : Value), [Value.int .i64 x][j]? = some u → (W.alloc (.cells #[.int .i64 x] 3)).cell? ((⟨W.heap.size, 0, none⟩ : Addr).add j) = some u := fun j u hj => by
    match j, hj with
    | 0, hj => cases hj; rw [add_at, blk_cell (blk_new W _)]; rfl
  rcases hown1.2 with ⟨hv, h0⟩ | ⟨g, cap, cur, hv, hg, hh, hnc, hcm, hcs, htake⟩
  · omega
  · cases hv
    have get : ∀ k, k < n → cur[k]? = some (.int .i64 (xs.getD k 0)) := fun k hk => by
      rw [← Array.getElem?_toList]
      have : (cur.toList.take (n * 1))[k]? = (Iy xs)[k]? := by rw [htake]
      rw [List.getElem?_take, if_pos (by omega)] at this
      rw [this]
      simp [Iy, List.getD, List.getElem?_eq_getElem (show k < xs.length by omega)]
    by_cases hroom : n + 1 ≤ c
    · obtain ⟨w', hr', hf, hg'⟩ := run_append_fits (P := Tryz.prog) (W.alloc (.cells #[.int .i64 x] 3)) 0 40 40 3 i0 1 Tryz.underlying40 hi hz1 g n c (Iy xs) (owns_base hown1 (Nat.zero_le _)) ⟨W.heap.size, 0, none⟩ 1 1 [.int .i64 x] rfl hnews (fun u hu => by rw [List.mem_singleton.1 hu]; rfl) hroom
      rw [hr] at hr'
      simp only [Result.ok.injEq] at hr'
      obtain ⟨e1, rfl⟩ := hr'
      cases e1
      obtain ⟨a, ea, hlt, hc⟩ := hl.2 (by omega)
      cases ea
      refine ⟨_, rfl, hlt, fun k hk => ?_⟩
      rw [hc k (by omega)]
      simp [List.getD, List.getElem?_append_left (show k < xs.length by omega)]
    · obtain ⟨v', w', hr', hf, hg'⟩ := run_append_arg_grows (P := Tryz.prog) (W.alloc (.cells #[.int .i64 x] 3)) 40 40 3 i0 (.int .i64 0) 1 8 Tryz.underlying40 hi hz0 hz1 hz2 rfl (by decide) ⟨g, 0, none⟩ n c (Iy xs) hown1.1 (hown1.cells rfl) ⟨W.heap.size, 0, none⟩ 1 1 [.int .i64 x] rfl hnews (by omega) (by unfold maxLen; omega) (by omega)
      rw [hr] at hr'
      simp only [Result.ok.injEq] at hr'
      obtain ⟨e1, rfl⟩ := hr'
      have hk := (hg'.block g (lt_of_block hh) (by simp)).trans hh
      refine ⟨_, rfl, lt_of_block hk, fun k hk' => ?_⟩
      rw [add_at, blk_cell hk, Nat.zero_add]
      exact get k hk'
set_option maxRecDepth 100000 in
set_option maxHeartbeats 2000000 in
theorem growth_any (w : World) (loc : Nat → Nat) (b m r c : Nat) (l z : Int) (s : List Slt) (h : DrAt w loc b m r c l z s) (hn : s.length ≤ 16777216) (hz0 : 0 ≤ z) (hz1 : z ≤ 1073741824) :
    Calls Tryz.prog 39 #[ptrV b] w fun e w' => e = .returned (.int .i64 (Nd.growth (.dir l z s))) ∧ Below w.heap.size w w' := by
  have mixed : Tryz.prog.follows Departure.mixedOrders = true := by kernel_rfl
  have e4 := blk_cell h.node 4
  simp at e4
  have k4 := cell_regrown e4
  have cF : ∀ d os, Calls Tryz.prog 57 #[.pointer (some ⟨b, 0, none⟩)] (grow (redrawn w d) os) fun e w'' => e = .returned (.int .i64 (freeAt s : Nat)) ∧ ∃ p : Regrown, w'' = grow (redrawn w p.d) p.os := fun d os => Calls.regrown_of (free_any _ loc b m r c l z s (h.below (below_regrown w d os)) hn)
  have HH := Hid.mk h
  obtain ⟨q, hq⟩ : ∃ q : Nat, z / 1024 = q := ⟨(z / 1024).toNat, by omega⟩
  have hqb : q ≤ 1048576 := by omega
  have HN : Hid (∀ W, Below w.heap.size w W → _) := Hid.mk (fun W hB => nos_dir W loc b m r c l z s (h.below hB) q (by rw [Int.tdiv_eq_ediv_of_nonneg hz0]; exact hq) hqb)
  have HQ := Hid.mk hqb
  have HG : Hid (Nd.growth (.dir l z s) = if freeAt s < s.length then 0 else roomL (upto q ++ [(q : Int)]) - roomL (upto q)) := Hid.mk (by
    simp only [Nd.growth, Nd.slots, Nd.nos, hq, Int.toNat_natCast, upto_len])
  clear h hq hqb hn hz0 hz1
  unfold ptrV at *
  by_cases hlt : freeAt s < s.length
  · have hi : ((freeAt s : Nat) : Int) < ((s.length : Nat) : Int) := by omega
    go_enter Tryz.func39, Tryz.ntmps39
    go_wp2
    refine wp_region_quiet_below (by assumption) (by kernel_rfl) ?_
    repeat (quiet_step (exact cF _ _))
    refine wpQuiet_nil ?_
    intro _ hw'
    obtain ⟨⟨dq, osq⟩, hw''⟩ := hw'
    subst hw''
    go_wp2
    go_ret
    refine ⟨?_, below_regrown w dq osq⟩
    rw [HG.out, if_pos hlt]
    rfl
  · have hi : ¬ ((freeAt s : Nat) : Int) < ((s.length : Nat) : Int) := by omega
    go_enter Tryz.func39, Tryz.ntmps39
    go_wp2
    refine wp_region_quiet_below (by assumption) (by kernel_rfl) ?_
    repeat (quiet_step (exact cF _ _))
    refine wpQuiet_nil ?_
    intro _ hw'
    obtain ⟨⟨dq, osq⟩, hw''⟩ := hw'
    have HW0 := Hid.mk (below_regrown w dq osq)
    rw [← hw''] at HW0
    rename_i W0
    clear hw'' cF k4
    have HNN := Hid.mk (HN.out W0 HW0.out)
    go_wp2_with (first
      | (go_at_call 51; refine HNN.out.mono ?_; rintro e W1 ⟨ao, c', rfl, hown, hB⟩; have HO := Hid.mk hown; have HB1 := Hid.mk hB; clear hown hB; obtain ⟨bo, c2, W2, hap, hl1, hl2, hb2⟩ := appi_keep W1 W0.heap.size ao q c' (upto q) HO.out HB1.out.size q (by have := HQ.out; omega); have HAP := Hid.mk hap; have HR1 := Hid.mk (room_any W2 bo (q + 1) c2 _ hl1 (by have := HQ.out; omega)); have HL2 := Hid.mk hl2; have HB2 := Hid.mk hb2; clear hap hl1 hl2 hb2)
      | (at_builtin; have hx := HAP.out; refine wpList_append_known rfl _ _ _ rfl _ _ _ _ rfl rfl hx ?_; simp only [Act.put, List.setIfInBounds_toArray, List.set_cons_zero, List.set_cons_succ]; clear hx)
      | (go_at_call 52; have _t := HR1; refine HR1.out.mono ?_; rintro e W3 ⟨rfl, hB⟩; have HB3 := Hid.mk hB; have HR2 := Hid.mk (room_any W3 ao q c' _ (HL2.out.blw hB) (by have := HQ.out; omega)); clear hB HR1 _t)
      | (go_at_call 52; refine HR2.out.mono ?_; rintro e W4 ⟨rfl, hB⟩; have HB4 := Hid.mk hB; clear hB))
    go_ret
    refine ⟨?_, ?_⟩
    · rw [HG.out, if_neg hlt]
      have h1 := room_bound (upto q ++ [(q : Int)])
      have h2 := room_bound (upto q)
      have h3 := HQ.out
      simp only [List.length_append, upto_len, List.length_cons, List.length_nil] at h1 h2
      have e : wrap64 (roomL (upto q ++ [(q : Int)]) - roomL (upto q)) = roomL (upto q ++ [(q : Int)]) - roomL (upto q) := by unfold wrap64; omega
      rw [e]
      rfl
    · have b1 := HW0.out
      have b2 := HB1.out.mono b1.size
      have b3 := HB2.out.mono b1.size
      have b4 := HB3.out.mono (Nat.le_trans (Nat.le_trans b1.size b2.size) b3.size)
      have b5 := HB4.out.mono (Nat.le_trans (Nat.le_trans (Nat.le_trans b1.size b2.size) b3.size) b4.size)
      exact (((b1.trans b2).trans b3).trans b4).trans b5
end Go.Proofs.YtehaoeclnmelhacGreat
