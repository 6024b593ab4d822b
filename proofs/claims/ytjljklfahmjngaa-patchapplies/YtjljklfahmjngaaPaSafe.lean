/-
  May what is out be made behind the others: Safe.
-/
import Derived.Test.YtjljklfahmjngaaPaSafeB
namespace Go.Proofs.Ytjljklfahmjngaa
open Go Go.Proofs Go.RowKit Go.Shelf
attribute [local go_sem] Oper.semAt_some
set_option maxRecDepth 100000 in
theorem res_cell13 {tmps : Array Value} {b : Nat} {t : Bool} {W : World} (h4 : tmps.getD 4 undef = .pointer (some ⟨b, 0, none⟩)) (hc : W.cell? ⟨b, 0, none⟩ = some (.bool t)) : (results Try.f13 tmps).run Try.prog W = .ok (.bool t) W := by
  rw [Array.getD_eq_getD_getElem?] at h4
  simp [results, go_sem, h4, hc]
set_option maxRecDepth 100000 in
set_option maxHeartbeats 4000000 in
theorem safe_any (w : World) (ao : Option Addr) (m c : Nat) (L : List Pt) (oo : Option Addr) (om oc : Nat) (outs : List Int) (hpc : PcAt w ao m L) (hpn : PnAt w L) (hm : m ≤ 60) (hlo : LAt w oo om outs) (hom : om ≤ 100) (hio : ∀ x ∈ outs, I64 x) :
    Calls Try.prog 13 #[.slice ao m c, .slice oo om oc] w fun e w' => e = .returned (.bool (safeL L outs)) ∧ Below w.heap.size w w' := by
  have HPC := Hid.mk hpc
  have HPN := Hid.mk hpn
  have HM : Hid (m ≤ 60 ∧ L.length = m) := Hid.mk ⟨hm, hpc.1⟩
  have HIO := Hid.mk hio
  have HRI := Hid.mk (fun W : World => rising_any W ao m c)
  unfold risingV at HRI
  obtain ⟨b4, hb4⟩ : ∃ b4, b4 = w.heap.size := ⟨_, rfl⟩
  have HB4 := Hid.mk hb4
  have hBw : Below w.heap.size w (w.alloc (.cells #[.bool false] 4)) := (Below.refl _ w).alloc (Nat.le_refl _) _
  have HAM := Hid.mk (among_any (w.alloc (.cells #[.bool false] 4)) oo om oc outs (hlo.below hBw) (by omega) hio)
  rw [World.size_alloc] at HAM
  unfold amongV at HAM
  clear hpc hpn hm hlo hom hio hb4 hBw
  refine (callsIn_wide (n := 6)).1 ?_
  refine callsIn_of_wp_marks Try.func13 rfl trivial ?_ rfl
  simp only [Try.ntmps13, List.size_toArray, List.length_cons, List.length_nil, Nat.reduceAdd, Nat.reduceSub, Array.replicate_succ, Array.replicate_zero, List.push_toArray, List.append_toArray, List.nil_append, List.cons_append]
  gi_wp2_with (first
    | (refine wpLIn_storeF (.tmp 5) (.tmp 15) rfl rfl w2.heap.size _ _ rfl rfl (blk_new w2 _) rfl ?_)
    | (refine ⟨trivial, ?_⟩; gi_at_call 24; refine (callsIn_wide.2 HAM.out).mono ?_; rintro e w2 ⟨rfl, hv2, hm2, hB2⟩; have HV2 := Hid.mk hv2; have HM2 := Hid.mk hm2; have HB2 := Hid.mk hB2; clear HAM hv2 hm2 hB2)
    | (refine ⟨trivial, ?_⟩; gi_at_call 25; refine (callsIn_wide.2 (HRI.out _)).mono ?_; rintro e w5 ⟨rfl, hw5⟩; have HW5 := Hid.mk hw5; clear hw5))
  obtain ⟨xl, hxl⟩ : ∃ x, x = w2.heap.size + 1 + 1 + 1 := ⟨_, rfl⟩
  obtain ⟨x7, hx7⟩ : ∃ x, x = w2.heap.size + 1 + 1 := ⟨_, rfl⟩
  obtain ⟨x6, hx6⟩ : ∃ x, x = w2.heap.size + 1 := ⟨_, rfl⟩
  obtain ⟨x5, hx5⟩ : ∃ x, x = w2.heap.size := ⟨_, rfl⟩
  obtain ⟨xv, hxv⟩ : ∃ x, x = w.heap.size + 1 + 1 := ⟨_, rfl⟩
  obtain ⟨x4, hx4⟩ : ∃ x, x = w.heap.size := ⟨_, rfl⟩
  rw [← hxl, ← hx7, ← hx6, ← hx5, ← hxv, ← hx4]
  have hs2 := HB2.out.size
  rw [World.size_alloc] at hs2
  have hv2 := lt_of_block HV2.out
  obtain ⟨z, hz⟩ : ∃ z, z = w5.heap.size := ⟨_, rfl⟩
  have hz5 : z = w2.heap.size + 4 := by rw [hz, HW5.out]; simp
  have HI0 : Hid (∃ B : Sb, B = ⟨x4, w.heap.size + 1, x5, x6, x7, xl, z⟩ ∧ B.Ok w ∧ SaI w B ao m c L outs 0 (fun _ => False) w5) := Hid.mk (by
    refine ⟨_, rfl, ⟨by simp only; omega, by simp only; omega, by simp only; omega, by simp only; omega, by simp only; omega⟩, ?_⟩
    have hbA : Below w.heap.size w (w.alloc (.cells #[.bool false] 4)) := (Below.refl _ w).alloc (Nat.le_refl _) _
    obtain ⟨v1, hv1⟩ : ∃ v1, v1 = w2.alloc (.cells #[.func (.func 32) #[] #[.pointer (some ⟨w.heap.size + 1 + 1, 0, none⟩)]] 44) := ⟨_, rfl⟩
    obtain ⟨v3, hv3⟩ : ∃ v3, v3 = v1.alloc (.cells #[.slice none 0 0] 47) := ⟨_, rfl⟩
    obtain ⟨v4, hv4⟩ : ∃ v4, v4 = v3.alloc (.cells #[.slice none 0 0] 47) := ⟨_, rfl⟩
    have h5 : w5 = v4.alloc (.cells #[.slice ao m c] 23) := by rw [hv4, hv3, hv1]; exact HW5.out
    have s1 : v1.heap.size = w2.heap.size + 1 := by rw [hv1]; simp
    have s3 : v3.heap.size = w2.heap.size + 2 := by rw [hv3]; simp [s1]
    have s4 : v4.heap.size = w2.heap.size + 3 := by rw [hv4]; simp [s3]
    have n1 : v1.heap[w2.heap.size]? = some (.cells #[.func (.func 32) #[] #[.pointer (some ⟨w.heap.size + 1 + 1, 0, none⟩)]] 44) := by rw [hv1]; exact blk_new w2 _
    have n3 : v3.heap[v1.heap.size]? = some (.cells #[.slice none 0 0] 47) := by rw [hv3]; exact blk_new v1 _
    have n4 : v4.heap[v3.heap.size]? = some (.cells #[.slice none 0 0] 47) := by rw [hv4]; exact blk_new v3 _
    have n5 : w5.heap[v4.heap.size]? = some (.cells #[.slice ao m c] 23) := by rw [h5]; exact blk_new v4 _
    have k5 : ∀ k, k < v4.heap.size → w5.heap[k]? = v4.heap[k]? := fun k hk => by rw [h5]; exact Below.heap_alloc _ _ _ hk
    have k4 : ∀ k, k < v3.heap.size → v4.heap[k]? = v3.heap[k]? := fun k hk => by rw [hv4]; exact Below.heap_alloc _ _ _ hk
    have k3 : ∀ k, k < v1.heap.size → v3.heap[k]? = v1.heap[k]? := fun k hk => by rw [hv3]; exact Below.heap_alloc _ _ _ hk
    have k1 : ∀ k, k < w2.heap.size → v1.heap[k]? = w2.heap[k]? := fun k hk => by rw [hv1]; exact Below.heap_alloc _ _ _ hk
    have k2 : ∀ k, k < w2.heap.size → w5.heap[k]? = w2.heap[k]? := fun k hk => by rw [k5 k (by omega), k4 k (by omega), k3 k (by omega), k1 k hk]
    have hb5 : Below w2.heap.size w2 w5 := by
      rw [h5, hv4, hv3, hv1]
      exact (((((Below.refl _ w2).alloc (Nat.le_refl _) _).alloc (by simp) _).alloc (by simp; omega) _).alloc (by simp; omega) _)
    have hbw2 : Below w.heap.size w w2 := hbA.trans (HB2.out.mono (by omega))
    refine ⟨hbw2.trans (hb5.mono hbw2.size), by rw [hz]; exact Nat.le_refl _, ?_, ?_, ?_, ?_, ?_, fun k q => q.elim, .slice none 0 0, 0, [], .slice none 0 0, 0, [], ⟨?_, World.ownsRow_nil _ _ _ _, by simp [Value.ownBlock]⟩, fun k _ h => by omega, ⟨?_, World.ownsRow_nil _ _ _ _, by simp [Value.ownBlock]⟩, fun k _ h => by omega, sf_none, ⟨Nat.le_refl _, Nat.le_refl _⟩, fun k e => by simp [Value.ownBlock] at e, fun k e => by simp [Value.ownBlock] at e⟩
    · show w5.heap[x4]? = _
      rw [hx4, k2 _ (by omega), HB2.out.block _ (by omega)]
      exact blk_new w _
    · show w5.heap[x5]? = _
      rw [hx5, k5 _ (by omega), k4 _ (by omega), k3 _ (by omega), n1]
      rfl
    · show w5.heap[w.heap.size + 1 + 1]? = _
      rw [k2 _ hv2]
      exact HV2.out
    · exact HM2.out.kept (k2 _ (by omega))
    · show w5.heap[xl]? = _
      rw [hxl, show w2.heap.size + 1 + 1 + 1 = v4.heap.size by omega, n5]
    · show w5.heap[x6]? = _
      rw [hx6, k5 _ (by omega), k4 _ (by omega), show w2.heap.size + 1 = v1.heap.size by omega, n3]
    · show w5.heap[x7]? = _
      rw [hx7, k5 _ (by omega), show w2.heap.size + 1 + 1 = v3.heap.size by omega, n4])
  obtain ⟨B, hB, hBok, hI0⟩ := HI0.out
  have HBE := Hid.mk hB
  have HOK := Hid.mk hBok
  have HZ : Hid (B.z = w5.heap.size) := Hid.mk (by rw [hB, hz])
  have HX4 := Hid.mk hx4
  have HX : Hid (B.b4 = x4 ∧ B.bm + 1 = xv ∧ B.b5 = x5 ∧ B.b6 = x6 ∧ B.b7 = x7 ∧ B.bl = xl) := Hid.mk (by rw [hB, hxv]; simp)
  have HI1 := Hid.mk hI0
  have HBD : Hid (∀ i ∈ ordL L, I64 (pt L i).at' ∧ (pt L i).n ≤ 9223372036854775807) := Hid.mk (fun i hi => by
    have hp := HPN.out _ (getP_mem (ord_n hi).2)
    exact ⟨hp.2.2.2.1, Nat.le_trans hp.2.2.2.2.2.1 hp.2.2.2.2.2.2⟩)
  have HNN : Hid ((ordL L).length ≤ 60) := Hid.mk (by
    have := ord_len L
    have := ix_len L L.length
    have := HM.out
    omega)
  clear hB hBok hI0 HI0 hz hz5 hv2 hs2 HB2 HM2 HV2 HW5 HRI hxl hx7 hx6 hx5 hxv hx4 HB4
  refine wpIn_range_ownx (σ := Nat) (gf := 33) (lb := #[.pointer (some ⟨xl, 0, none⟩)]) rfl (enters_of Try.func33 (by kernel_rfl) rfl) (fun s s' v => s' = s + 1 ∧ s < (ordL L).length ∧ v = riV L s) (fun s s' v q => by obtain ⟨_, _, rfl⟩ := q; rfl) (fun s => s = (ordL L).length) 0
    (SaI w B ao m c L outs) (fun W => W.heap[x4]? = some (.cells #[.bool false] 4 (0, 0)) ∧ Below w.heap.size w W ∧ safeL L outs = false)
    (fun s It It' A A' S q1 q2 q3 q4 => q1.side HOK.out q2 (fun k q => by rw [HZ.out]; exact q3 k q) q4) (fun A A' row q1 q2 q3 => ?hx) HI1.out ?hit
    (fun s W => { tmps := #[.slice ao m c, .slice oo om oc, undef, undef, .pointer (some ⟨x4, 0, none⟩), .pointer (some ⟨x5, 0, none⟩), .pointer (some ⟨x6, 0, none⟩), .pointer (some ⟨x7, 0, none⟩), .int .i64 ((ordL L).getD s 0 : Nat), .pointer (some ⟨W.heap.size, 0, none⟩), undef, undef, undef, undef, .slice oo om oc, .func (.func 32) #[] #[.pointer (some ⟨xv, 0, none⟩)], .slice ao m c, .func (.func 33) #[] #[.pointer (some ⟨xl, 0, none⟩)], .int .i64 ((ordL L).getD s 0 : Nat), paV (L.getD ((ordL L).getD s 0) noP).id (L.getD ((ordL L).getD s 0) noP).at' (L.getD ((ordL L).getD s 0) noP).val, undef, undef, undef, undef, undef, undef, undef, undef, undef, undef, undef, undef, undef, undef, undef, undef, undef, undef, undef, undef, undef, undef, undef, undef, undef, undef, undef, undef, undef, undef, undef, undef, undef, undef, undef, undef, undef, undef, undef, undef], defers := [] }) (fun s W => W.alloc (.cells #[.int .i64 (pt L ((ordL L).getD s 0)).id, .int .i64 (pt L ((ordL L).getD s 0)).at', (pt L ((ordL L).getD s 0)).val] 31)) (fun s W => grown_of_below ((Below.refl _ W).alloc (Nat.le_refl _) _)) ?assign ?body ?done ?stop
  case hx =>
    obtain ⟨r1, r2, r3⟩ := q1
    have hl4 := HOK.out.lt.1
    have hz4 := HZ.out
    have hx4' := HX.out.1
    have hb4 := HOK.out.base
    refine ⟨(q2.block x4 (lt_of_block r1) (fun e => ?_)).trans r1, ?_, r3⟩
    · have := q3 x4 e.symm
      omega
    · refine ⟨q2.os.trans r2.os, q2.tape.trans r2.tape, q2.output.trans r2.output, Nat.le_trans r2.size q2.size, fun k hk => (q2.block k (Nat.lt_of_lt_of_le hk r2.size) (fun e => ?_)).trans (r2.block k hk)⟩
      have := q3 k e.symm
      omega
  case hit =>
    intro l J Jx W hJI hJS hg hsz hY h0
    have hm := HM.out
    refine rising1_in 5 (by omega) l xl ao m c L (by omega) J Jx W (fun s It A hJ => ?_) hJS (fun s It A hJ hs => hY s (s + 1) (riV L s) It A hJ ⟨rfl, hs, rfl⟩) h0
    have hA := hJI s It A hJ
    have hbx := hA.box
    rw [HX.out.2.2.2.2.2] at hbx
    exact ⟨by rw [blk_cell hbx]; rfl, lt_of_block hbx, HPC.out.below hA.below⟩
  case assign =>
    rintro l s s' v W K ⟨rfl, hs, rfl⟩ hK
    unfold riV
    unfold pt at hK
    generalize (ordL L).getD s 0 = i0 at *
    generalize L.getD i0 noP = p at *
    unfold paV Pt.val at *
    gi_wp2
    exact hK
  case body =>
    rintro l s s' v It W W2 ⟨rfl, hsN, rfl⟩ hI hIt hW hg hs2
    obtain ⟨i0, hi0⟩ : ∃ i0, i0 = (ordL L).getD s 0 := ⟨_, rfl⟩
    rw [← hi0] at hg hs2 ⊢
    obtain ⟨p, hp⟩ : ∃ p, p = pt L i0 := ⟨_, rfl⟩
    have hp' : L.getD i0 noP = p := hp.symm
    rw [← hp] at hg hs2
    rw [hp']
    have hiL := (ord_lt hsN).1
    rw [← hi0] at hiL
    have hO2 : Only (fun k => k = w5.heap.size + 1) W W2 := ((Only.refl _ W).alloc _).grown hg (fun k e => by cases e; exact .inl rfl)
    have hI2 := hI.side (It' := It) HOK.out hO2 (fun k q => by rw [HZ.out]; exact .inr (.inr q)) (fun k q => .inl q)
    have hsa : (W.alloc (.cells #[.int .i64 p.id, .int .i64 p.at', p.val] 31)).heap.size = W.heap.size + 1 := by simp
    have hnew : W2.heap[W.heap.size]? = some (.cells #[.int .i64 p.id, .int .i64 p.at', p.val] 31 (0, 0)) := (hg.block _ (by omega) (fun e => by have := Option.some.inj e; omega)).trans (blk_new W _)
    have hpL : p ∈ L := by rw [hp]; exact getP_mem hiL
    have hpi : I64 p.id := (HPN.out p hpL).2.2.1
    obtain ⟨v6, n6, G, v7, n7, S, hH⟩ := hI2.st
    have hz := HZ.out
    have hs60 : s ≤ 60 := by have := HNN.out; omega
    have hW2s : W2.heap.size = W.heap.size + 1 := by omega
    have hn6 := HOK.out.n6
    have hn7 := HOK.out.n7
    have hlt := HOK.out.lt
    have h67 := HOK.out.n67
    have HTF : Hid (∀ W', Only (fun k => k = B.b6 ∨ k = B.b7 ∨ (B.z + 2 ≤ k ∧ ¬ It k)) W2 W' → W'.heap[w5.heap.size]? = W2.heap[w5.heap.size]? ∧ W'.heap[w5.heap.size + 1]? = W2.heap[w5.heap.size + 1]? ∧ (∀ k, It k → k < W.heap.size → W'.heap[k]? = W2.heap[k]?) ∧ W2.heap.size ≤ W'.heap.size) := Hid.mk (fun W' hO => by
      refine ⟨hO.block _ (by omega) (fun e => ?_), hO.block _ (by omega) (fun e => ?_), fun k ik hk => hO.block k (by omega) (fun e => ?_), hO.size⟩
      · rcases e with e | e | e <;> omega
      · rcases e with e | e | e <;> omega
      · have := hIt k ik
        rcases e with e | e | e
        · omega
        · omega
        · exact e.2 ik)
    have HNXT : Hid (∀ W', Only (fun k => k = B.b6 ∨ k = B.b7 ∨ (B.z + 2 ≤ k ∧ ¬ It k)) W2 W' → (∃ v6 n6 G v7 n7 S, SaH B L outs (s + 1) (fun k => It k ∧ k < W.heap.size) W' v6 n6 G v7 n7 S) → SaI w B ao m c L outs (s + 1) (fun k => It k ∧ k < W.heap.size) W') := Hid.mk (fun W' hO st => hI2.turn HOK.out hO (fun k q => by
      rcases q with q | q | q
      · exact .inl q
      · exact .inr (.inl q)
      · exact .inr (.inr (by omega))) (fun k q => hI2.it k q.1) st)
    have HSTP : Hid (∀ W', Only (fun k => k = B.b6 ∨ k = B.b7 ∨ (B.z + 2 ≤ k ∧ ¬ It k)) W2 W' → W'.heap[x4]? = some (.cells #[.bool false] 4 (0, 0)) ∧ Below w.heap.size w W') := Hid.mk (fun W' hO => by
      have hr := hI2.res
      rw [HX.out.1] at hr
      have := HX.out.1
      refine ⟨(hO.block x4 (lt_of_block hr) (fun e => ?_)).trans hr, hI2.below.trans (hO.below hI2.below.size (fun k e => ?_))⟩
      · rcases e with e | e | e <;> omega
      · have := HOK.out.base
        rcases e with e | e | e <;> omega)
    have HCE : Hid (∀ W', Only (fun k => k = B.b6 ∨ k = B.b7 ∨ (B.z + 2 ≤ k ∧ ¬ It k)) W2 W' → (v6.ownBlock ≠ some W.heap.size ∧ v7.ownBlock ≠ some W.heap.size) → True) := Hid.mk (fun _ _ _ => trivial)
    have hov : ∀ k, v6.ownBlock = some k ∨ v7.ownBlock = some k → k ≠ W.heap.size := fun k e e2 => by
      subst e2
      rcases e with e | e
      · rcases hH.p6.2.1.2 with ⟨e3, _⟩ | ⟨g', cap', cur, e3, _, hh, _⟩
        · rw [e3] at e; cases e
        · rw [e3] at e
          obtain rfl : g' = W.heap.size := Option.some.inj e
          rw [hnew] at hh
          cases hh
      · rcases hH.p7.2.1.2 with ⟨e3, _⟩ | ⟨g', cap', cur, e3, _, hh, _⟩
        · rw [e3] at e; cases e
        · rw [e3] at e
          obtain rfl : g' = W.heap.size := Option.some.inj e
          rw [hnew] at hh
          cases hh
    have HCC : Hid (∀ W', Only (fun k => k = B.b6 ∨ k = B.b7 ∨ v6.ownBlock = some k ∨ v7.ownBlock = some k) W2 W' → W'.cell? ⟨W.heap.size, 0, none⟩ = some (.int .i64 p.id) ∧ W'.cell? ⟨W.heap.size, 1, none⟩ = some (.int .i64 p.at') ∧ W'.cell? ⟨W.heap.size, 2, none⟩ = some (.slice p.ao p.n p.c)) := Hid.mk (fun W' hO => by
      have hb : W'.heap[W.heap.size]? = _ := (hO.block _ (by omega) (fun e => by
        rcases e with e | e | e | e
        · omega
        · omega
        · exact hov _ (.inl e) rfl
        · exact hov _ (.inr e) rfl)).trans hnew
      exact ⟨by rw [blk_cell hb]; rfl, by rw [blk_cell hb]; rfl, by rw [blk_cell hb]; rfl⟩)
    have HTT : Hid (∀ W', Only (fun k => k = B.b6 ∨ k = B.b7 ∨ v6.ownBlock = some k ∨ v7.ownBlock = some k) W2 W' → Only (fun k => k = B.b6 ∨ k = B.b7 ∨ (B.z + 2 ≤ k ∧ ¬ It k)) W2 W') := Hid.mk (fun W' hO => hO.mono (fun k _ e => by
      rcases e with e | e | e | e
      · exact .inl e
      · exact .inr (.inl e)
      · exact .inr (.inr ⟨(hH.p6.2.1.lt k e).1, (hH.d6 k e).2⟩)
      · exact .inr (.inr ⟨(hH.p7.2.1.lt k e).1, hH.d7 k e⟩)))
    have HST3 : Hid (∀ W', Only (fun k => k = B.b6 ∨ k = B.b7 ∨ v6.ownBlock = some k ∨ v7.ownBlock = some k) W2 W' → (W'.setCell ⟨x4, 0, none⟩ (.bool false)).heap[w5.heap.size]? = W2.heap[w5.heap.size]? ∧ (W'.setCell ⟨x4, 0, none⟩ (.bool false)).heap[w5.heap.size + 1]? = W2.heap[w5.heap.size + 1]? ∧ (∀ k, It k → k < W.heap.size → (W'.setCell ⟨x4, 0, none⟩ (.bool false)).heap[k]? = W2.heap[k]?) ∧ W2.heap.size ≤ W'.heap.size ∧ (W'.setCell ⟨x4, 0, none⟩ (.bool false)).heap[x4]? = some (.cells #[.bool false] 4 (0, 0)) ∧ Below w.heap.size w (W'.setCell ⟨x4, 0, none⟩ (.bool false))) := Hid.mk (fun W' hO' => by
      have hO := HTT.out W' hO'
      obtain ⟨t1, t2, t3, t4⟩ := HTF.out W' hO
      obtain ⟨r1, r2⟩ := HSTP.out W' hO
      have hx := HX.out.1
      have hne : ∀ k, k ≠ x4 → (W'.setCell ⟨x4, 0, none⟩ (.bool false)).heap[k]? = W'.heap[k]? := fun k hk => Below.heap_setCell _ _ _ _ hk
      refine ⟨(hne _ (by omega)).trans t1, (hne _ (by omega)).trans t2, fun k ik hk => (hne k (by have := hIt k ik; omega)).trans (t3 k ik hk), t4, ?_, r2.setCell (p := ⟨x4, 0, none⟩) (by have := HOK.out.base; show w.heap.size ≤ x4; omega) _⟩
      rw [blk_set r1]
      rfl)
    have HX44 : Hid (∀ W', Only (fun k => k = B.b6 ∨ k = B.b7 ∨ v6.ownBlock = some k ∨ v7.ownBlock = some k) W2 W' → W'.cell? ⟨x4, 0, none⟩ = some (.bool false) ∧ W'.frozen? ⟨x4, 0, none⟩ = false) := Hid.mk (fun W' hO => by
      have hb := (HSTP.out W' (HTT.out W' hO)).1
      exact ⟨by rw [blk_cell hb]; rfl, blk_free hb 0⟩)
    have hv5 : W2.cell? ⟨x5, 0, none⟩ = some (.func (.func 32) #[] #[.pointer (some ⟨xv, 0, none⟩)]) := by
      have hb := hI2.b5
      rw [HX.out.2.2.1, HX.out.2.1] at hb
      rw [blk_cell hb]
      rfl
    have HIN : Hid (Calls Try.prog 32 #[.int .i64 p.id, .pointer (some ⟨xv, 0, none⟩)] W2 fun e W' => e = .returned (.bool (decide (p.id ∈ outs))) ∧ Below W2.heap.size W2 W') := Hid.mk (by
      have hv := hI2.var
      rw [HX.out.2.1] at hv
      exact among1_any W2 xv B.bm outs (by rw [blk_cell hv]; rfl) hI2.mem p.id hpi)
    have HHH := Hid.mk hH
    have HSN := Hid.mk hsN
    have HI0' := Hid.mk hi0
    have HP := Hid.mk hp
    have HSZ : Hid (s ≤ 60 ∧ W2.heap.size = W.heap.size + 1 ∧ B.z + 2 ≤ W.heap.size) := Hid.mk ⟨hs60, hW2s, by omega⟩
    have HSH : Hid (∀ W3, Below W2.heap.size W2 W3 → SaH B L outs s It W3 v6 n6 G v7 n7 S) := Hid.mk (fun W3 hB => by
      have hO := Only.of_new (fun _ => False) hB
      exact ⟨hH.p6.only hO (fun q => q) (fun _ _ q => q), hH.h6, hH.p7.only hO (fun q => q) (fun _ _ q => q), hH.h7, hH.sf, hH.le, hH.d6, hH.d7⟩)
    have m0 : W2.cell? ⟨W.heap.size, 0, none⟩ = some (.int .i64 p.id) := by rw [blk_cell hnew]; rfl
    clear hov hs60 hW2s hz hpi hpL hnew hsa hI2 hO2 hiL hg hs2 hI hW hH HCE
    clear hIt hn6 hn7 hlt
    by_cases ho : p.id ∈ outs
    · rw [decide_eq_true ho] at HIN
      have HO := Hid.mk ho
      have HHD : Hid (∀ W3, Below W2.heap.size W2 W3 → Calls Try.prog 26 #[.pointer (some ⟨x7, 0, none⟩), .agg #[.int .i64 p.id, .int .i64 p.at', .slice p.ao p.n p.c]] W3 fun e W4 => ∃ (r : Int) (ok : Bool), e = .returned (.tuple #[.int .i64 r, .bool ok]) ∧ Hid (Only (fun k => k = B.b6 ∨ k = B.b7 ∨ v6.ownBlock = some k ∨ v7.ownBlock = some k) W2 W4) ∧ ((ok = false ∨ (ok = true ∧ IntKind.i64.wrap (-r) = -r ∧ ¬ (i0 : Int) < -r)) ∧ Hid (Calls Try.prog 27 #[.iface 54 (.pointer (some ⟨x6, 0, none⟩)), .iface 56 (.agg #[.int .i64 i0, .int .i64 p.id, .int .i64 p.at', .slice p.ao p.n p.c])] W4 fun e W5 => (∃ u, e = .returned u) ∧ Hid (SaI w B ao m c L outs (s + 1) (fun k => It k ∧ k < W.heap.size) W5 ∧ Only (fun k => k = B.b6 ∨ k = B.b7 ∨ (B.z + 2 ≤ k ∧ ¬ It k)) W2 W5)) ∨ (ok = true ∧ IntKind.i64.wrap (-r) = -r ∧ (i0 : Int) < -r ∧ safeL L outs = false))) := Hid.mk (fun W3 hB3 => by
        have hh := HSH.out W3 hB3
        have h1 := out_head hh HBD.out (by have := HM.out; omega) HSN.out HI0'.out (by rw [← HP.out]; exact ho) (by have := HSZ.out; omega)
        rw [← HP.out, HX.out.2.2.2.2.1] at h1
        refine h1.mono ?_
        rintro e W4 ⟨r, ok, rfl, HQ⟩
        obtain ⟨q1, q2, q3, q4⟩ := HQ.out
        have hO4 : Only (fun k => k = B.b6 ∨ k = B.b7 ∨ v6.ownBlock = some k ∨ v7.ownBlock = some k) W2 W4 := (Only.of_new (fun k => k = B.b6 ∨ k = B.b7 ∨ v6.ownBlock = some k ∨ v7.ownBlock = some k) hB3).trans q4 (fun k e => .inl (e.elim (fun e => .inr (.inl (by rw [e, HX.out.2.2.2.2.1]))) (fun e => .inr (.inr (.inr e)))))
        have hwr : ok = true → IntKind.i64.wrap (-r) = -r := fun e => by
          obtain ⟨k, hk, hkl⟩ := q1 e
          rw [IntKind.wrap_i64]
          omega
        refine ⟨r, ok, rfl, Hid.mk hO4, ?_⟩
        have push : (ok = false ∨ ¬ (i0 : Int) < -r) → Calls Try.prog 27 #[.iface 54 (.pointer (some ⟨x6, 0, none⟩)), .iface 56 (.agg #[.int .i64 i0, .int .i64 p.id, .int .i64 p.at', .slice p.ao p.n p.c])] W4 fun e W5 => (∃ u, e = .returned u) ∧ Hid (SaI w B ao m c L outs (s + 1) (fun k => It k ∧ k < W.heap.size) W5 ∧ Only (fun k => k = B.b6 ∨ k = B.b7 ∨ (B.z + 2 ≤ k ∧ ¬ It k)) W2 W5) := fun hno => by
          obtain ⟨v', n', H', r1, r2, r3, r4, r5⟩ := q3 hno
          have p64 : PvAt W4 (B.z + 2) B.b6 v6 n6 G := hh.p6.only q4 (fun e => e.elim (fun e => h67 (by rw [e, HX.out.2.2.2.2.1])) (fun e => by
            rcases hh.p7.2.1.2 with ⟨e3, _⟩ | ⟨g', cap', cur, e3, _, hh7, _⟩
            · rw [e3] at e; cases e
            · rw [e3] at e
              obtain rfl : g' = B.b6 := Option.some.inj e
              rw [hh.p6.1] at hh7
              cases hh7)) (fun k e1 e2 => e2.elim (fun e2 => by
            subst e2
            rcases hh.p6.2.1.2 with ⟨e3, _⟩ | ⟨g', cap', cur, e3, _, hh7, _⟩
            · rw [e3] at e1; cases e1
            · rw [e3] at e1
              have e9 := Option.some.inj e1
              have h77 := hh.p7.1
              rw [HX.out.2.2.2.2.1, ← e9] at h77
              rw [h77] at hh7
              cases hh7) (fun e2 => (hh.d6 k e1).1 e2))
          have hs4 := hO4.size
          have hsz := HSZ.out
          have h2 := out_push (It := It) (i0 := i0) (z0 := W.heap.size) p64 hh.h6 (by rw [← HX.out.2.2.2.2.1] at r1; exact r1) r2 ⟨hh.le.1, r4⟩ (by omega) (by omega) (by omega) (fun k e => ⟨by rw [r3]; exact (hh.d6 k e).1, (hh.d6 k e).2⟩) (fun k e => hh.d7 k (by rw [← r3]; exact e)) (by rw [← HP.out]; exact r5) h67
          rw [HX.out.2.2.2.1, ← HP.out] at h2
          refine h2.mono ?_
          rintro e W5 ⟨hu, H5⟩
          have hO5 := HTT.out W5 (hO4.trans H5.out.2 (fun k e => .inl (e.elim (fun e => .inl (by rw [e, HX.out.2.2.2.1])) (fun e => .inr (.inr (.inl e))))))
          exact ⟨hu, Hid.mk ⟨HNXT.out W5 hO5 H5.out.1, hO5⟩⟩
        cases ok with
        | false => exact .inl ⟨.inl rfl, Hid.mk (push (.inl rfl))⟩
        | true =>
          by_cases hlt : (i0 : Int) < -r
          · exact .inr ⟨rfl, hwr rfl, hlt, q2 rfl hlt⟩
          · exact .inl ⟨.inr ⟨rfl, hwr rfl, hlt⟩, Hid.mk (push (.inr hlt))⟩)
      clear ho
      unfold paV Pt.val
      dsimp only
      clear HNXT HSH HTT HHH HSTP hp hp' hi0 hsN h67
      gi_wp2_with (first
        | (refine ⟨trivial, ?_⟩; gi_at_call 32; refine (callsIn_round HIN.out).mono ?_; rintro e W3 ⟨rfl, hb3⟩; have HB3 := Hid.mk hb3; obtain ⟨m0', m1, m2⟩ := HCC.out W3 (Only.of_new _ hb3); clear hb3 HIN m0)
        | (refine ⟨trivial, ?_⟩; gi_at_call 26; refine (callsIn_round (HHD.out W3 HB3.out)).mono ?_; rintro e W4 ⟨r, ok, rfl, HO4, hdis⟩; obtain ⟨y0, y1, y2⟩ := HCC.out W4 HO4.out; obtain ⟨y3, y4⟩ := HX44.out W4 HO4.out; clear HHD; rcases hdis with ⟨rfl | ⟨rfl, hwr, hno⟩, HPU⟩ | ⟨rfl, hwr, hyes, hsf⟩)
        | (refine ⟨trivial, ?_⟩; gi_at_call 27; refine (callsIn_round HPU.out).mono ?_; rintro e W5 ⟨⟨u, rfl⟩, H5⟩; clear HPU)
        | gi_in)
      all_goals first
        | exact ⟨(HTF.out W5 H5.out.2).1, (HTF.out W5 H5.out.2).2.1, (HTF.out W5 H5.out.2).2.2.1, (HTF.out W5 H5.out.2).2.2.2, H5.out.1⟩
        | exact HST3.out W4 HO4.out
    · rw [decide_eq_false ho] at HIN
      have HO := Hid.mk ho
      have hng : IntKind.i64.wrap (-(i0 : Int)) = -(i0 : Int) := by
        have := (ord_lt HSN.out).1
        rw [← HI0'.out] at this
        have := HM.out
        rw [IntKind.wrap_i64]
        omega
      have HHD : Hid (∀ W3, Below W2.heap.size W2 W3 → Calls Try.prog 26 #[.pointer (some ⟨x6, 0, none⟩), .agg #[.int .i64 p.id, .int .i64 p.at', .slice p.ao p.n p.c]] W3 fun e W4 => ∃ (r : Int) (ok : Bool), e = .returned (.tuple #[.int .i64 r, .bool ok]) ∧ Hid (Only (fun k => k = B.b6 ∨ k = B.b7 ∨ v6.ownBlock = some k ∨ v7.ownBlock = some k) W2 W4) ∧ ((ok = false ∨ (ok = true ∧ ¬ r < (i0 : Int))) ∧ Hid (Calls Try.prog 27 #[.iface 54 (.pointer (some ⟨x7, 0, none⟩)), .iface 56 (.agg #[.int .i64 (-(i0 : Int)), .int .i64 p.id, .int .i64 p.at', .slice p.ao p.n p.c])] W4 fun e W5 => (∃ u, e = .returned u) ∧ Hid (SaI w B ao m c L outs (s + 1) (fun k => It k ∧ k < W.heap.size) W5 ∧ Only (fun k => k = B.b6 ∨ k = B.b7 ∨ (B.z + 2 ≤ k ∧ ¬ It k)) W2 W5)) ∨ (ok = true ∧ r < (i0 : Int) ∧ safeL L outs = false))) := Hid.mk (fun W3 hB3 => by
        have hh := HSH.out W3 hB3
        have h1 := stay_head hh HBD.out HSN.out HI0'.out (by rw [← HP.out]; exact ho) (by have := HSZ.out; omega)
        rw [← HP.out, HX.out.2.2.2.1] at h1
        refine h1.mono ?_
        rintro e W4 ⟨r, ok, rfl, HQ⟩
        obtain ⟨q2, q3, q4⟩ := HQ.out
        have hO4 : Only (fun k => k = B.b6 ∨ k = B.b7 ∨ v6.ownBlock = some k ∨ v7.ownBlock = some k) W2 W4 := (Only.of_new (fun k => k = B.b6 ∨ k = B.b7 ∨ v6.ownBlock = some k ∨ v7.ownBlock = some k) hB3).trans q4 (fun k e => .inl (e.elim (fun e => .inl (by rw [e, HX.out.2.2.2.1])) (fun e => .inr (.inr (.inl e)))))
        refine ⟨r, ok, rfl, Hid.mk hO4, ?_⟩
        have push : (ok = false ∨ ¬ r < (i0 : Int)) → Calls Try.prog 27 #[.iface 54 (.pointer (some ⟨x7, 0, none⟩)), .iface 56 (.agg #[.int .i64 (-(i0 : Int)), .int .i64 p.id, .int .i64 p.at', .slice p.ao p.n p.c])] W4 fun e W5 => (∃ u, e = .returned u) ∧ Hid (SaI w B ao m c L outs (s + 1) (fun k => It k ∧ k < W.heap.size) W5 ∧ Only (fun k => k = B.b6 ∨ k = B.b7 ∨ (B.z + 2 ≤ k ∧ ¬ It k)) W2 W5) := fun hno => by
          obtain ⟨v', n', H', r1, r2, r3, r4, r5⟩ := q3 hno
          have p74 : PvAt W4 (B.z + 2) B.b7 v7 n7 S := hh.p7.only q4 (fun e => e.elim (fun e => h67 (by rw [e, HX.out.2.2.2.1])) (fun e => by
            rcases hh.p6.2.1.2 with ⟨e3, _⟩ | ⟨g', cap', cur, e3, _, hh7, _⟩
            · rw [e3] at e; cases e
            · rw [e3] at e
              obtain rfl : g' = B.b7 := Option.some.inj e
              rw [hh.p7.1] at hh7
              cases hh7)) (fun k e1 e2 => e2.elim (fun e2 => by
            subst e2
            rcases hh.p7.2.1.2 with ⟨e3, _⟩ | ⟨g', cap', cur, e3, _, hh7, _⟩
            · rw [e3] at e1; cases e1
            · rw [e3] at e1
              have e9 := Option.some.inj e1
              have h77 := hh.p6.1
              rw [HX.out.2.2.2.1, ← e9] at h77
              rw [h77] at hh7
              cases hh7) (fun e2 => (hh.d6 k e2).1 e1))
          have hs4 := hO4.size
          have hsz := HSZ.out
          have h2 := stay_push (It := It) (i0 := i0) (z0 := W.heap.size) p74 hh.h7 (by rw [← HX.out.2.2.2.1] at r1; exact r1) r2 ⟨hh.le.2, r4⟩ (by omega) (by omega) (by omega) (fun k e => ⟨(hh.d6 k (by rw [← r3]; exact e)).1, (hh.d6 k (by rw [← r3]; exact e)).2⟩) (fun k e => hh.d7 k e) (by rw [← HP.out]; exact r5) h67
          rw [HX.out.2.2.2.2.1, ← HP.out] at h2
          refine h2.mono ?_
          rintro e W5 ⟨hu, H5⟩
          have hO5 := HTT.out W5 (hO4.trans H5.out.2 (fun k e => .inl (e.elim (fun e => .inr (.inl (by rw [e, HX.out.2.2.2.2.1]))) (fun e => .inr (.inr (.inr e))))))
          exact ⟨hu, Hid.mk ⟨HNXT.out W5 hO5 H5.out.1, hO5⟩⟩
        cases ok with
        | false => exact .inl ⟨.inl rfl, Hid.mk (push (.inl rfl))⟩
        | true =>
          by_cases hlt : r < (i0 : Int)
          · exact .inr ⟨rfl, hlt, q2 rfl hlt⟩
          · exact .inl ⟨.inr ⟨rfl, hlt⟩, Hid.mk (push (.inr hlt))⟩)
      clear ho
      unfold paV Pt.val
      dsimp only
      clear HNXT HSH HTT HHH HSTP hp hp' hi0 hsN h67
      gi_wp2_with (first
        | (refine ⟨trivial, ?_⟩; gi_at_call 32; refine (callsIn_round HIN.out).mono ?_; rintro e W3 ⟨rfl, hb3⟩; have HB3 := Hid.mk hb3; obtain ⟨m0', m1, m2⟩ := HCC.out W3 (Only.of_new _ hb3); clear hb3 HIN m0)
        | (refine ⟨trivial, ?_⟩; gi_at_call 26; refine (callsIn_round (HHD.out W3 HB3.out)).mono ?_; rintro e W4 ⟨r, ok, rfl, HO4, hdis⟩; obtain ⟨y0, y1, y2⟩ := HCC.out W4 HO4.out; obtain ⟨y3, y4⟩ := HX44.out W4 HO4.out; clear HHD; rcases hdis with ⟨rfl | ⟨rfl, hno⟩, HPU⟩ | ⟨rfl, hyes, hsf⟩)
        | (refine ⟨trivial, ?_⟩; gi_at_call 27; refine (callsIn_round HPU.out).mono ?_; rintro e W5 ⟨⟨u, rfl⟩, H5⟩; clear HPU)
        | gi_in)
      all_goals first
        | exact ⟨(HTF.out W5 H5.out.2).1, (HTF.out W5 H5.out.2).2.1, (HTF.out W5 H5.out.2).2.2.1, (HTF.out W5 H5.out.2).2.2.2, H5.out.1⟩
        | exact HST3.out W4 HO4.out
  case done =>
    rintro D9 s9 It9 W9 hD9 hs9 hA hKD
    subst hD9 hs9
    obtain ⟨v6, n6, G, v7, n7, S, hH⟩ := hA.st
    have HSF : Hid (safeL L outs = true) := Hid.mk (sf_end hH.sf)
    have hr := hA.res
    rw [HX.out.1] at hr
    have hxz : x4 < w5.heap.size := by have := HX.out.1; have := HZ.out; have := HOK.out.lt.1; omega
    have z0 : W9.cell? ⟨x4, 0, none⟩ = some (.bool false) := by rw [blk_cell hr]; rfl
    have z1 : W9.frozen? ⟨x4, 0, none⟩ = false := blk_free hr 0
    have hb9 : (W9.setCell ⟨x4, 0, none⟩ (.bool true)).heap[x4]? = some (.cells #[.bool true] 4 (0, 0)) := by rw [blk_set hr]; rfl
    have hd9 : (W9.setCell ⟨x4, 0, none⟩ (.bool true)).heap[w5.heap.size]? = some (.deferred (some [])) := (Below.heap_setCell _ _ _ _ (fun e => by have e : w5.heap.size = x4 := e; omega)).trans hKD
    have hb10 : ((W9.setCell ⟨x4, 0, none⟩ (.bool true)).putObj w5.heap.size (.deferred none)).heap[x4]? = some (.cells #[.bool true] 4 (0, 0)) := (World.putObj_heap_other (by omega)).trans hb9
    have hc10 : ((W9.setCell ⟨x4, 0, none⟩ (.bool true)).putObj w5.heap.size (.deferred none)).cell? ⟨x4, 0, none⟩ = some (.bool true) := by rw [blk_cell hb10]; rfl
    have HFIN : Hid (Below w.heap.size w ((W9.setCell ⟨x4, 0, none⟩ (.bool true)).putObj w5.heap.size (.deferred none))) := Hid.mk (by
      have hb := hA.below.setCell (p := ⟨x4, 0, none⟩) (by have := HOK.out.base; have := HX.out.1; show w.heap.size ≤ x4; omega) (.bool true)
      have hg := grownBy_putObj' (W9.setCell ⟨x4, 0, none⟩ (.bool true)) w5.heap.size (.deferred none)
      refine hb.grown hg hb.size (fun k e => ?_)
      cases e
      have := HOK.out.base
      have := HZ.out
      omega)
    have HD9 := Hid.mk hd9
    have HC10 := Hid.mk hc10
    clear hA hH hr hb9 hd9 hb10 hc10 hxz hKD
    dsimp only
    gi_wp2
    refine ⟨by simp, .inl ⟨_, _, rfl, run_takeDeferred HD9.out, ?_⟩⟩
    refine ⟨_, res_cell13 rfl HC10.out, ?_⟩
    exact ⟨by rw [HSF.out], HFIN.out⟩
  case stop =>
    rintro D9 W9 hD9 hX9 hKD
    subst hD9
    obtain ⟨r1, r2, r3⟩ := hX9
    have hxz : x4 < w5.heap.size := by have := HX.out.1; have := HZ.out; have := HOK.out.lt.1; omega
    have hb10 : (W9.putObj w5.heap.size (.deferred none)).heap[x4]? = some (.cells #[.bool false] 4 (0, 0)) := (World.putObj_heap_other (by omega)).trans r1
    have HC10 : Hid ((W9.putObj w5.heap.size (.deferred none)).cell? ⟨x4, 0, none⟩ = some (.bool false)) := Hid.mk (by rw [blk_cell hb10]; rfl)
    have HFIN : Hid (Below w.heap.size w (W9.putObj w5.heap.size (.deferred none))) := Hid.mk (by
      have hg := grownBy_putObj' W9 w5.heap.size (.deferred none)
      refine r2.grown hg r2.size (fun k e => ?_)
      cases e
      have := HOK.out.base
      have := HZ.out
      omega)
    have HSF := Hid.mk r3
    have HD9 := Hid.mk hKD
    clear r1 r2 r3 hb10 hxz hKD
    dsimp only
    gi_wp2
    refine ⟨by simp, .inl ⟨_, _, rfl, run_takeDeferred HD9.out, ?_⟩⟩
    refine ⟨_, res_cell13 rfl HC10.out, ?_⟩
    exact ⟨by rw [HSF.out], HFIN.out⟩
end Go.Proofs.Ytjljklfahmjngaa
