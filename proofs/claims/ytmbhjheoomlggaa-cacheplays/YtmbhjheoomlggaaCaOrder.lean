/-
  CacheOrder: of blocks that nobody has pinned the last ones that were got are kept.
-/
import Derived.Test.YtmbhjheoomlggaaCaLru
namespace Go.Proofs.Ytmbhjheoomlggaa
open Go Go.Proofs Go.RowKit Go.Shelf
theorem appendi_one (W : World) (B : Nat) (v : Value) (n : Nat) (xs : List Int) (hown : W.ownsRow B 3 1 v n (Iy xs)) (hB : B ≤ W.heap.size) (x : Int) (hn : n + 1 ≤ 16777216) :
    ∃ v' W', (Builtin.append_ #[44, 44] 44 #[v, .slice (some ⟨W.heap.size, 0, none⟩) 1 1]).run Try.prog (W.alloc (.cells #[.int .i64 x] 3)) = .ok v' W' ∧ W'.ownsRow B 3 1 v' (n + 1) (Iy (xs ++ [x])) ∧ Below B W W' := by
  obtain ⟨i0, hi, hz0, hz1, hz2⟩ := info3p
  have h1 : (W.alloc (.cells #[.int .i64 x] 3)).ownsRow B 3 1 v n (Iy xs) := hown.alloc _
  have hb := blk_new W (.cells #[.int .i64 x] 3)
  have hsz : (W.alloc (.cells #[.int .i64 x] 3)).heap.size = W.heap.size + 1 := by simp
  obtain ⟨v3, W3, hr, hown3, hg3, _⟩ := run_append_own (P := Try.prog) (W.alloc (.cells #[.int .i64 x] 3)) B 44 44 3 i0 (.int .i64 0) 1 8 Try.underlying44 hi hz0 hz1 hz2 rfl (by decide) v n (Iy xs) h1 ⟨W.heap.size, 0, none⟩ 1 1 [.int .i64 x] (by simp) (fun j u hj => by
    have hj0 : j = 0 := by
      have := (List.getElem?_eq_some_iff.1 hj).1
      simp at this
      exact this
    subst hj0
    simp at hj
    rw [add_at, blk_cell hb]
    simp [hj]) (fun u hu => by simp at hu; rw [hu]; rfl) (by unfold maxLen; omega) (by omega) (by omega)
  refine ⟨v3, W3, hr, ?_, ((Below.refl B W).alloc hB _).grown hg3 (by omega) (fun k hk => ?_)⟩
  · rw [show Iy (xs ++ [x]) = Iy xs ++ [.int .i64 x] by simp [Iy]]
    exact hown3
  · exact (hown.lt k hk).1
theorem owns_ints {w : World} {base : Nat} {v : Value} {n : Nat} {xs : List Int} (h : w.ownsRow base 3 1 v n (Iy xs)) (hn : 0 < n) : ∃ g c, v = .slice (some ⟨g, 0, none⟩) n c ∧ n ≤ c ∧ base ≤ g ∧ g < w.heap.size ∧ LAt w (some ⟨g, 0, none⟩) n xs ∧ ∀ i, i < n → w.cell? ⟨g, i, none⟩ = some (.int .i64 (xs.getD i 0)) := by
  have hlt := h
  obtain ⟨h1, h2⟩ := h
  rw [Iy_length, Nat.mul_one] at h1
  rcases h2 with ⟨_, rfl⟩ | ⟨g, cap, cur, rfl, hg, hh, hnc, hm, hsz, ht⟩
  · omega
  · have hgl := (hlt.lt g rfl).2
    have hc : ∀ i, i < n → w.cell? ⟨g, i, none⟩ = some (.int .i64 (xs.getD i 0)) := fun i hi => by
      rw [blk_cell hh, ← Array.getElem?_toList]
      have : (cur.toList.take (n * 1))[i]? = (Iy xs)[i]? := by rw [ht]
      rw [List.getElem?_take, if_pos (by omega), Iy_get xs i (by omega)] at this
      exact this
    exact ⟨g, cap, rfl, hnc, hg, hgl, ⟨h1, fun _ => ⟨_, rfl, hgl, fun i hi => by rw [add_at, Nat.zero_add]; exact hc i hi⟩⟩, hc⟩
def nI (l : List Nat) : List Int := l.map (fun j : Nat => (j : Int))
theorem nI_length (l : List Nat) : (nI l).length = l.length := by simp [nI]
theorem nI_get (l : List Nat) (k : Nat) : (nI l).getD k 0 = ((l.getD k 0 : Nat) : Int) := by
  unfold nI
  rw [List.getD_eq_getElem?_getD, List.getD_eq_getElem?_getD, List.getElem?_map]
  cases l[k]? <;> rfl
theorem kl_nums (s : Dk.DS) (l : List Nat) : (kl s l).map (·.num) = nI l := by simp [kl, nI, kbN]
/-- Between two gets: the cache, and what is wanted. -/
def OrS (w : World) (c dd size t : Nat) (u : Value) (W : World) : Prop := ∃ (l : List Nat) (reads : Int) (F : Nat → Prop) (wo : Option Addr) (wc : Nat), u = .slice wo l.length wc ∧ LAt W wo l.length (nI l) ∧ CdAt F W c dd size reads (kl (newS 20) l) (newS 20) ∧ Lru size l ∧
  (∀ j, F j → w.heap.size ≤ j ∧ j < W.heap.size ∧ ∀ a, wo = some a → a.block ≠ j) ∧ 0 ≤ reads ∧ reads ≤ t ∧ Below w.heap.size w W ∧ (∀ a, wo = some a → a.block < W.heap.size)
/-- Get and Release of one. -/
theorem or_use {w W : World} {c dd size t : Nat} {u : Value} (h : OrS w c dd size t u W) (ht : t ≤ 1000) (hs : size ≤ 100) (i : Nat) (hi : i < 20) :
    Calls Try.prog 12 #[ptV c, .int .i64 (i : Int)] W fun e w' => ∃ v, e = .returned v ∧ Below w.heap.size w w' ∧ Calls Try.prog 15 #[ptV c, .int .i64 (i : Int)] w' fun e w'' => ∃ v, e = .returned v ∧
      ∃ (l : List Nat) (reads : Int) (F : Nat → Prop) (wo : Option Addr) (wc : Nat), u = .slice wo l.length wc ∧ LAt w'' wo l.length (nI l) ∧ CdAt F w'' c dd size reads (kl (newS 20) (lruN size l i)) (newS 20) ∧ Lru size l ∧ (∀ j, F j → w.heap.size ≤ j ∧ j < w''.heap.size) ∧ 0 ≤ reads ∧ reads ≤ t + 1 ∧ Below w.heap.size w w'' := by
  obtain ⟨l, reads, F, wo, wc, hu, hL, hC, hR, hF, r0, r1, hB, hwo⟩ := h
  have hlen := hR.len
  have hg : gotK (newS 20) (kl (newS 20) l) (i : Int) = some (kbN (newS 20) (i : Int) 0) := by
    unfold gotK
    rw [kl_fnd]
    by_cases hm : i ∈ l
    · rw [if_pos hm]
    · rw [if_neg hm]
      simp only
      rw [newS_has, if_pos (by simp; omega)]
      rfl
  refine (cd_get_yes hC (i : Int) (wf_small (by omega)) (kl_fine (by rw [newS_len]; omega) r0 (by omega) (by omega)).1 _ hg).mono ?_
  rintro e w' ⟨g, cap, rfl, _, _, hC', ho⟩
  rw [kl_get _ hR] at hC'
  have hs1 := ho.size
  have hB1 : Below w.heap.size w w' := hB.trans (ho.below hB.size (fun k hk => (hF k hk).1))
  have hL1 : LAt w' wo l.length (nI l) := hL.only ho (fun a ea _ hk => (hF _ hk).2.2 a ea rfl)
  have hC1 := hC'.trim
  have hrr : 0 ≤ rdK (kl (newS 20) l) reads (i : Int) ∧ rdK (kl (newS 20) l) reads (i : Int) ≤ t + 1 := by unfold rdK; split <;> omega
  refine ⟨_, rfl, hB1, ?_⟩
  have hfl := fr_len hR i
  refine (cd_release hC1 (i : Int) (wf_small (by omega)) ((kl_fine (by rw [newS_len]; omega) hrr.1 (by omega) (by omega)).2 i)).mono ?_
  rintro e w'' ⟨rfl, hC2, ho2⟩
  obtain ⟨e1, _⟩ := kl_rel (newS 20) (size := size) i (fr_not size l i) hfl
  rw [e1] at hC2
  have hs2 := ho2.size
  have hFF : ∀ j, (((F j ∨ W.heap.size ≤ j) ∧ j ≠ g) ∧ j < w'.heap.size) → w.heap.size ≤ j := fun j hj => hj.1.1.elim (fun h => (hF j h).1) (fun h => Nat.le_trans hB.size h)
  refine ⟨_, rfl, l, _, _, wo, wc, hu, hL1.only ho2 (fun a ea _ hk => ?_), hC2, hR, fun j hj => ⟨hFF j hj, Nat.lt_of_lt_of_le hj.2 hs2⟩, hrr.1, hrr.2, hB1.trans (ho2.below hB1.size hFF)⟩
  rcases hk.1.1 with h | h
  · exact (hF _ h).2.2 a ea rfl
  · have := hwo a ea; omega
theorem filter_take (l : List Nat) (i k : Nat) (hk : k < l.length) : (l.take (k + 1)).filter (fun j => j != i) = if l.getD k 0 = i then (l.take k).filter (fun j => j != i) else (l.take k).filter (fun j => j != i) ++ [l.getD k 0] := by
  have e : l.getD k 0 = l[k] := by simp [List.getD, List.getElem?_eq_getElem hk]
  rw [e, List.take_add_one, List.getElem?_eq_getElem hk]
  simp only [Option.toList_some, List.filter_append]
  by_cases h : l[k] = i
  · rw [if_pos h]; simp [h]
  · rw [if_neg h]
    congr 1
    simp [h]
set_option maxRecDepth 100000 in
set_option maxHeartbeats 4000000 in
theorem order_any (w : World) (size : Int) (ao : Option Addr) (n cc : Nat) (xs : List Int) (hx : LAt w ao n xs) (hn : n ≤ 9223372036854775807) : Calls Try.prog 5 #[.int .i64 size, .slice ao n cc] w fun e w' => e = .returned (.bool true) ∧ Below w.heap.size w w' := by
  have HAL := Hid.mk (alive_any w)
  by_cases q0 : size < 1
  · go_enter Try.func5, Try.ntmps5
    go_wp2_with (go_at_call 8; refine HAL.out.mono ?_; rintro e w1 ⟨rfl, hb1⟩; have HB1 := Hid.mk hb1; clear hb1 HAL)
    go_ret
    exact ⟨rfl, HB1.out⟩
  by_cases q1 : 10 < size
  · go_enter Try.func5, Try.ntmps5
    go_wp2_with (go_at_call 8; refine HAL.out.mono ?_; rintro e w1 ⟨rfl, hb1⟩; have HB1 := Hid.mk hb1; clear hb1 HAL)
    go_ret
    exact ⟨rfl, HB1.out⟩
  by_cases q2 : 100 < (n : Int)
  · go_enter Try.func5, Try.ntmps5
    go_wp2_with (go_at_call 8; refine HAL.out.mono ?_; rintro e w1 ⟨rfl, hb1⟩; have HB1 := Hid.mk hb1; clear hb1 HAL)
    go_ret
    exact ⟨rfl, HB1.out⟩
  obtain ⟨sz, rfl⟩ : ∃ x : Nat, size = x := ⟨size.toNat, by omega⟩
  have p1 : 1 ≤ sz := by omega
  have p2 : sz ≤ 10 := by omega
  have p3 : n ≤ 100 := by omega
  have HD : Hid (∀ W, Below w.heap.size w W → Calls Try.prog 9 #[.int .i64 20] W fun e w' => ∃ dd, e = .returned (ptV dd) ∧ Dk.DiskAt (fun k => w.heap.size ≤ k) w' dd (newS 20) ∧ Below w.heap.size w w') := Hid.mk (fun W hB => (cd_made W 20 (by omega)).mono (by
    rintro e w' ⟨dd, rfl, _, hd, hB'⟩
    exact ⟨dd, rfl, hd.mono (fun k _ hk => Nat.le_trans hB.size hk), hB.trans (hB'.mono hB.size)⟩))
  have z1 : szN (sz : Int) = sz := by unfold szN; omega
  have HS0 : Hid (∀ W c dd, Cd w W c dd (szN (sz : Int)) 0 [] (newS 20) → OrS w c dd sz 0 (.slice none 0 0) W) := Hid.mk (fun W c dd h => by
    rw [z1] at h
    exact ⟨[], 0, _, none, 0, rfl, ⟨rfl, fun h => absurd h (Nat.lt_irrefl 0)⟩, h.at'.trim, ⟨p1, by simp, by simp⟩, fun j hj => ⟨hj.1, hj.2, fun a e => by cases e⟩, by omega, by omega, h.bel, fun a e => by cases e⟩)
  have HXS : Hid (∀ W, Below w.heap.size w W → LAt W ao n xs) := Hid.mk (fun W h => hx.next h)
  have P3 := Hid.mk p3
  have P2 := Hid.mk p2
  have P1 := Hid.mk p1
  clear z1 p1 p2 p3 hx
  go_enter Try.func5, Try.ntmps5
  go_wp2_with (first
    | (go_at_call 8; refine HAL.out.mono ?_; rintro e w1 ⟨rfl, hb1⟩; have HB1 := Hid.mk hb1; clear hb1 HAL)
    | (go_at_call 9; refine (HD.out _ HB1.out).mono ?_; rintro e w2 ⟨dd, rfl, hd2, hb2⟩; have HN := Hid.mk (Cd.new hd2 hb2 (sz : Int)); clear hd2 hb2 HD)
    | (go_at_call 10; refine HN.out.mono ?_; rintro e w3 ⟨c, rfl, h3⟩; have H3 := Hid.mk (HS0.out _ _ _ h3); clear h3 HN HS0))
  go_loopw [7, 8] (fun u i wr => ∃ k : Nat, i = .int .i64 k ∧ Hid (k ≤ n) ∧ Hid (OrS w c dd sz k u wr)) (fun _ i _ => n - (intOf i).toNat)
  case atStart => exact ⟨0, rfl, Hid.mk (Nat.zero_le _), H3⟩
  case round =>
    obtain ⟨k, rfl, hk, HK⟩ := hrel
    clear H3
    have hkb : k ≤ 100 := by have h1 := hk.out; have h2 := P3.out; omega
    have hw1 : IntKind.i64.wrap ((k : Int) + 1) = (k : Int) + 1 := by rw [IntKind.wrap_i64]; omega
    by_cases hlt : (k : Int) < (n : Int)
    · have HLT : Hid (k < n) := Hid.mk (by omega)
      obtain ⟨a', ea, c1⟩ := (HXS.out wr (by obtain ⟨l, r, F, wo, wc, h⟩ := HK.out; exact h.2.2.2.2.2.2.2.1)).at k HLT.out
      subst ea
      have HXK : Hid (∀ W, Below w.heap.size w W → W.cell? (a'.add k) = some (.int .i64 (xs.getD k 0))) := Hid.mk (fun W hB => by
        obtain ⟨a2, e2, c2⟩ := (HXS.out W hB).at k HLT.out
        cases e2
        exact c2)
      obtain ⟨x, hx⟩ : ∃ x, x = xs.getD k 0 := ⟨_, rfl⟩
      rw [← hx] at c1 HXK
      clear hx
      have HBK : Hid (Below w.heap.size w wr) := Hid.mk (by obtain ⟨l, r, F, wo, wc, h⟩ := HK.out; exact h.2.2.2.2.2.2.2.1)
      by_cases hx0 : x < 0
      · go_wp2
        go_ret
        exact ⟨rfl, HBK.out⟩
      · by_cases hx1 : 20 ≤ x
        · go_wp2
          go_ret
          exact ⟨rfl, HBK.out⟩
        · obtain ⟨i, rfl⟩ : ∃ i : Nat, x = i := ⟨x.toNat, by omega⟩
          have HI : Hid (i < 20) := Hid.mk (by omega)
          have HUSE := Hid.mk (or_use HK.out (by omega) (by have := P2.out; omega) i HI.out)
          go_wp2_with (first
            | (go_at_call 12; refine HUSE.out.mono ?_; rintro e w4 ⟨v4, rfl, hb4, h4⟩; have c4 := HXK.out _ hb4; have H4 := Hid.mk h4; clear h4 hb4 HUSE)
            | (go_at_call 15; refine H4.out.mono ?_; rintro e w5 ⟨v5, rfl, h5⟩; have H5 := Hid.mk h5; clear h5 H4))
          obtain ⟨l, reads, F, wo, wc, hu, hL, hC, hR, hF, r0, r1, hB⟩ := H5.out
          subst hu
          have HRR := Hid.mk (And.intro hC (And.intro hR (And.intro hF (And.intro r0 (And.intro r1 hB)))))
          have HL := Hid.mk hL
          have hlen := hR.len
          have hlb : l.length ≤ 10 := by have := P2.out; omega
          clear hL hC hR hF r0 r1 hB H5 HK hlen
          go_loopw [9, 10] (fun u q wr => ∃ j : Nat, q = .int .i64 j ∧ Hid (j ≤ l.length) ∧ Hid (wr.ownsRow w5.heap.size 3 1 u ((l.take j).filter (fun z => z != i)).length (Iy (nI ((l.take j).filter (fun z => z != i))))) ∧ Hid (Below w5.heap.size w5 wr)) (fun _ q _ => l.length - (intOf q).toNat)
          case atStart => exact ⟨0, rfl, Hid.mk (Nat.zero_le _), Hid.mk (World.ownsRow_nil _ _ _ _), Hid.mk (Below.refl _ _)⟩
          case round =>
            obtain ⟨j, rfl, hj, HOW, HBW⟩ := hrel
            have hjb : j ≤ 10 := by have h1 := hj.out; omega
            have hw2 : IntKind.i64.wrap ((j : Int) + 1) = (j : Int) + 1 := by rw [IntKind.wrap_i64]; omega
            have HBW2 : Hid (Below w.heap.size w wr) := Hid.mk (HRR.out.2.2.2.2.2.trans (HBW.out.mono HRR.out.2.2.2.2.2.size))
            have c6 := HXK.out wr HBW2.out
            by_cases hlj : (j : Int) < (l.length : Int)
            · have HLJ : Hid (j < l.length) := Hid.mk (by omega)
              obtain ⟨b', eb, c7⟩ := (HL.out.next HBW.out).at j HLJ.out
              subst eb
              rw [nI_get] at c7
              have hft := filter_take l i j HLJ.out
              by_cases he : l.getD j 0 = i
              · rw [if_pos he] at hft
                rw [he] at c7
                have HN2 : Hid (wr.ownsRow w5.heap.size 3 1 u9 ((l.take (j + 1)).filter (fun z => z != i)).length (Iy (nI ((l.take (j + 1)).filter (fun z => z != i))))) := Hid.mk (by rw [hft]; exact HOW.out)
                clear hft he HOW
                go_wp2
                go_quiet (fail)
                go_wp2
                go_roundw
                case rel => exact ⟨j + 1, by go_num, Hid.mk HLJ.out, Hid.mk (owns_at HN2.out (fun _ _ => rfl)), Hid.mk (HBW.out.trans (below_drewN' _ _ _ HBW.out.size))⟩
                case measure => have := HLJ.out; simp [intOf]; omega
              · rw [if_neg he] at hft
                obtain ⟨y, hy⟩ : ∃ y, y = l.getD j 0 := ⟨_, rfl⟩
                rw [← hy] at c7 he hft
                have hne : ¬ (y : Int) = (i : Int) := by omega
                have hne2 : ((y : Int) == (i : Int)) = false := by simpa using hne
                have hflen : ((l.take j).filter (fun z => z != i)).length ≤ 10 := by
                  have h1 := List.length_filter_le (fun z => z != i) (l.take j)
                  have h2 := List.length_take_le j l
                  have h3 := hj.out
                  omega
                have HAP : Hid (∀ W2 : World, (∃ m, wr.drewN m = W2) → W2.cell? (b'.add j) = some (.int .i64 (y : Int)) ∧ ∃ v' W', (Builtin.append_ #[44, 44] 44 #[u9, .slice (some ⟨W2.heap.size, 0, none⟩) 1 1]).run Try.prog (W2.alloc (.cells #[.int .i64 (y : Int)] 3)) = .ok v' W' ∧ W'.ownsRow w5.heap.size 3 1 v' ((l.take (j + 1)).filter (fun z => z != i)).length (Iy (nI ((l.take (j + 1)).filter (fun z => z != i)))) ∧ Below w5.heap.size w5 W') := Hid.mk (fun W2 hm => by
                  obtain ⟨m, rfl⟩ := hm
                  refine ⟨c7, ?_⟩
                  obtain ⟨v', W', g1, g2, g3⟩ := appendi_one (wr.drewN m) w5.heap.size u9 _ _ (owns_at HOW.out (fun _ _ => rfl)) HBW.out.size (y : Int) (by omega)
                  refine ⟨v', W', g1, ?_, HBW.out.trans ((below_drewN' wr m _ HBW.out.size).trans g3)⟩
                  rw [hft]
                  simpa [nI] using g2)
                clear hft hy he HOW hflen
                go_wp2
                go_quiet (fail)
                generalize hdn : World.drewN wr _ = W2
                obtain ⟨c8, v', W1, hr, ho1, hb1⟩ := HAP.out W2 ⟨_, hdn⟩
                have HR := Hid.mk hr
                have HO1 := Hid.mk ho1
                have HB2 := Hid.mk hb1
                clear hr ho1 hb1 hdn HAP c6 c7
                go_wp2_with (at_builtin; refine wpList_append_known rfl _ _ _ rfl _ _ _ _ rfl rfl HR.out ?_; simp only [Act.put, List.setIfInBounds_toArray, List.set_cons_zero, List.set_cons_succ])
                go_roundw
                case rel => exact ⟨j + 1, by go_num, Hid.mk HLJ.out, HO1, HB2⟩
                case measure => have := HLJ.out; simp [intOf]; omega
            · obtain rfl : j = l.length := by have := hj.out; omega
              rw [List.take_length] at HOW
              have hfl : (l.filter (fun z => z != i)).length ≤ 10 := by
                have h1 := List.length_filter_le (fun z => z != i) l
                omega
              obtain ⟨v', W1, hr, ho1, hb1⟩ := appendi_one wr w5.heap.size u9 _ _ HOW.out HBW.out.size (i : Int) (by omega)
              have hnI : nI (l.filter (fun z => z != i)) ++ [(i : Int)] = nI (l.filter (fun z => z != i) ++ [i]) := by simp [nI]
              rw [hnI] at ho1
              obtain ⟨g, cap, hv', hcap, hgB, hgl, hlat, hcl⟩ := owns_ints ho1 (by omega)
              subst hv'
              have HR := Hid.mk hr
              have hBW1 : Below w5.heap.size w5 W1 := HBW.out.trans hb1
              have FIN : Hid (∀ (wo : Option Addr) (wc : Nat) (m : List Nat), m = lruN sz l i → LAt W1 wo m.length (nI m) → (∀ a, wo = some a → a.block = g) → OrS w c dd sz (k + 1) (.slice wo m.length wc) W1) := Hid.mk (fun wo wc m hm hlm ha => by
                subst hm
                obtain ⟨hC, hR, hF, r0, r1, hB⟩ := HRR.out
                have hs5 := hBW1.size
                refine ⟨_, reads, F, wo, wc, rfl, hlm, hC.below hBW1, hR.step i, fun q hq => ?_, r0, by omega, hB.trans (hBW1.mono hB.size), fun a ea => by rw [ha a ea]; exact hgl⟩
                have := hF q hq
                exact ⟨this.1, by omega, fun a ea => by rw [ha a ea]; omega⟩)
              have HLR := Hid.mk (show lruN sz l i = frN sz l i ++ [i] from rfl)
              have HLAT := Hid.mk hlat
              have HCL := Hid.mk hcl
              have HGL := Hid.mk hgl
              have HFD := Hid.mk (show frN sz l i = if sz < (l.filter (fun z => z != i)).length + 1 then (l.filter (fun z => z != i)).tail else l.filter (fun z => z != i) from rfl)
              obtain ⟨M, hM⟩ : ∃ M, M = (l.filter (fun z => z != i)).length := ⟨_, rfl⟩
              rw [← hM] at HR HLAT HCL HFD hfl hcap
              have HMM := Hid.mk hM
              clear hr ho1 hb1 hlat hcl hgl hnI HOW hM hBW1 HBW HRR HL hgB
              have hcapI : (M : Int) + 1 ≤ (cap : Int) := by omega
              by_cases hbig : (sz : Int) < (M : Int) + 1
              · go_wp2_with (at_builtin; refine wpList_append_known rfl _ _ _ rfl _ _ _ _ rfl rfl HR.out ?_; simp only [Act.put, List.setIfInBounds_toArray, List.set_cons_zero, List.set_cons_succ])
                have hP1 := P1.out
                have hfr : frN sz l i = (l.filter (fun z => z != i)).tail := by rw [HFD.out, if_pos (by omega)]
                have hml : (lruN sz l i).length = M := by
                  rw [HLR.out, hfr, List.length_append, List.length_tail, ← HMM.out]
                  simp
                  omega
                have hOR := FIN.out (some ⟨g, 1, none⟩) (cap - 1) (lruN sz l i) rfl ⟨nI_length _, fun _ => ⟨_, rfl, HGL.out, fun q hq => ?_⟩⟩ (fun a ea => by cases ea; rfl)
                · rw [hml] at hOR
                  exact ⟨⟨k + 1, by go_num, Hid.mk HLT.out, Hid.mk hOR⟩, by have := HLT.out; simp [intOf]; omega⟩
                · rw [add_at, HCL.out (1 + q) (by omega), HLR.out, hfr]
                  have hne : l.filter (fun z => z != i) ≠ [] := fun e => by
                    have := HMM.out
                    rw [e] at this
                    simp at this
                    omega
                  rw [nI_get, nI_get]
                  congr 2
                  obtain ⟨x0, r0, hxr⟩ := List.exists_cons_of_ne_nil hne
                  rw [hxr]
                  simp [List.getD, Nat.add_comm 1 q]
              · have hfr : frN sz l i = l.filter (fun z => z != i) := by rw [HFD.out, if_neg (by omega)]
                have hml : (lruN sz l i).length = M + 1 := by rw [HLR.out, hfr, List.length_append, ← HMM.out]; rfl
                have hle : (M : Int) + 1 ≤ (sz : Int) := by omega
                have HOR : Hid (OrS w c dd sz (k + 1) (.slice (some ⟨g, 0, none⟩) (M + 1) cap) W1) := Hid.mk (by
                  have := FIN.out (some ⟨g, 0, none⟩) cap (lruN sz l i) rfl (by rw [hml, HLR.out, hfr]; exact HLAT.out) (fun a ea => by cases ea; rfl)
                  rwa [hml] at this)
                clear hfr hml
                go_wp2_with (at_builtin; refine wpList_append_known rfl _ _ _ rfl _ _ _ _ rfl rfl HR.out ?_; simp only [Act.put, List.setIfInBounds_toArray, List.set_cons_zero, List.set_cons_succ])
                exact ⟨⟨k + 1, by go_num, Hid.mk HLT.out, HOR⟩, by have := HLT.out; simp [intOf]; omega⟩
    · obtain rfl : k = n := by have := hk.out; omega
      obtain ⟨l, reads, F, wo, wc, hu, hL, hC, hR, hF, r0, r1, hB, hwo⟩ := HK.out
      subst hu
      have hlen := hR.len
      have hlb : l.length ≤ 10 := by have := P2.out; omega
      have HH : Hid (Calls Try.prog 23 #[ptV c] wr fun e w' => e = .returned (.slice (some ⟨wr.heap.size, 0, none⟩) l.length l.length) ∧ Calls Try.prog 22 #[.slice (some ⟨wr.heap.size, 0, none⟩) l.length l.length, .slice wo l.length wc] w' fun e w'' => e = .returned (.bool true) ∧ Below w.heap.size w w'') := Hid.mk (by
        have hkl : (kl (newS 20) l).length = l.length := by simp [kl]
        have := cd_held hC (kl_fine (by rw [newS_len]; omega) r0 (by omega) (by omega)).1
        rw [hkl, kl_nums] at this
        refine this.mono ?_
        rintro e w' ⟨rfl, hown, hB'⟩
        refine ⟨rfl, (sameints_any w' (some ⟨wr.heap.size, 0, none⟩) wo l.length l.length l.length wc (nI l) (nI l) ⟨nI_length _, fun _ => ⟨_, rfl, (hown.lt _ rfl).2, fun q hq => ?_⟩⟩ (hL.next hB') (by omega) (by omega)).mono ?_⟩
        · exact hown.cells rfl q (.int .i64 ((nI l).getD q 0)) (Iy_get _ _ (by rw [nI_length]; exact hq))
        · rintro e w'' ⟨rfl, hB''⟩
          exact ⟨by simp, hB.trans ((hB'.mono hB.size).trans (hB''.mono (by have h1 := hB.size; have h2 := hB'.size; omega)))⟩)
      clear hL hC hR hF r0 r1 hB hwo hlen HK
      go_wp2_with (first
        | (go_at_call 23; refine HH.out.mono ?_; rintro e w7 ⟨rfl, h7⟩; have H7 := Hid.mk h7; clear h7 HH)
        | (go_at_call 22; refine H7.out.mono ?_; rintro e w8 ⟨rfl, hb8⟩; have H8 := Hid.mk hb8; clear hb8 H7))
      go_ret
      exact ⟨rfl, H8.out⟩
end Go.Proofs.Ytmbhjheoomlggaa
