/-
  trunc: where nothing is wrong.
-/
import Derived.Test.YtehaoeclnmelhaaGreatTrWrite
import Derived.Test.YtehaoeclnmelhaaGreatTrWsS
import Derived.Test.YtehaoeclnmelhaaGreatTrCut
import Derived.Test.YtehaoeclnmelhaaGreatPaHeld
namespace Go.Proofs.YtehaoeclnmelhaaGreat
open Go Go.Proofs Go.RowKit Go.Shelf

theorem wp_region_but {P : Program} {ops : Array Oper} {Q : Exit → Act → World → Prop} {id : Nat} {a : Act} {w : World} (L : Nat) (S : World → Prop) (hm : P.follows .mixedOrders = true) (hS : S w.drew)
    (h : S w.drew → Butt P .any ops Q S L ops.size (Array.replicate ops.size false) a w.drew) : (Code.region id ops true).wp P Q a w := wp_region_any hm (any_of_butt _ _ _ _ (h hS))
theorem exec_storeI {ev : Operand → Value} {oi : Oper} {p x : Operand} {a : Addr} {n : Int} {v : Value} {W : World} (ho : oi.op = .store 3 p x) (hp : ev p = .pointer (some a)) (hx : ev x = .int .i64 n) (hc : W.cell? a = some v) (hf : W.frozen? a = false) : (execOp ev oi).run Tryz.prog W = .ok .skip (W.setCell a (.int .i64 n)) := by
  refine exec_store ho hp hx ?_
  simp [go_sem, hc, hf]
theorem owns_latB {w : World} {base : Nat} {v : Value} {n : Nat} {xs : List Int} (h : w.ownsRow base 3 1 v n (Iy xs)) : ∃ ao c, v = .slice ao n c ∧ LAt w ao n xs ∧ ∀ a, ao = some a → base ≤ a.block := by
  rcases Nat.eq_zero_or_pos n with rfl | hn
  · obtain ⟨h1, h2⟩ := h
    rw [Iy_length, Nat.zero_mul] at h1
    rcases h2 with ⟨rfl, _⟩ | ⟨g, cap, cur, rfl, hg, _⟩
    · exact ⟨none, 0, rfl, ⟨h1, fun h => absurd h (Nat.lt_irrefl 0)⟩, fun a e => by cases e⟩
    · exact ⟨_, cap, rfl, ⟨h1, fun h => absurd h (Nat.lt_irrefl 0)⟩, fun a e => by cases e; exact hg⟩
  · obtain ⟨g, c, e, hl, hg⟩ := owns_LAt h hn
    exact ⟨_, c, e, hl, fun a e => by cases e; exact hg⟩
/-- A tree of which a file is cut. -/
def truncT (σ : Tr) (c : Int) (j : Nat) : Tr :=
  { σ with blocks := w64 (σ.blocks - (roomL (nodeAt σ.nodes j).nos - roomL ((cutP c (nodeAt σ.nodes j).parts).map (·.1)))), nodes := σ.nodes.modify j (fun x => match x with | .file l _ p => .file l c (cutP c p) | .dir l z s => .dir l z s) }
set_option maxRecDepth 100000 in
set_option maxHeartbeats 4000000 in
theorem trunc_main (w : World) (t : Nat) (σ : Tr) (Ls : List Lay) (hT : TrAt w t σ Ls) (hOk : ∀ x ∈ σ.nodes, x.Ok) (kk : Int) (s s2 : ByteArray) (off N : Int) (dp : Option Addr) (dl dc : Nat) (hs : s.size ≤ 16777216) (j : Nat) (he : fileE σ.nodes (ofS s) = (some j, 0)) (hj : j < σ.nodes.length) (hjk : (nodeAt σ.nodes j).isDir = false) (h0 : 0 ≤ N) (h1 : N ≤ 67379200) :
    Calls Tryz.prog 51 #[ptrV t, callV kk s s2 off N (.slice dp dl dc)] w fun e w' => e = .returned (errV 0) ∧ Step (fun k => k ∈ feet t Ls) w t w' (truncT σ N j) := by
  obtain ⟨b, m, r, l, z, p, q1, q2, q3, q4, q5⟩ := hT.fileAt hj hjk
  have hok : (Nd.file l z p).Ok := hOk _ (List.mem_of_getElem? q2)
  have HFI : Hid (∀ W, Below w.heap.size w W → _) := Hid.mk (fun W (hB : Below w.heap.size w W) => file_any W t σ Ls (hT.below rfl hB) s hs)
  rw [he] at HFI
  simp only [optV, ptrV, q4] at HFI
  have HNO : Hid (∀ W, Below w.heap.size w W → _) := Hid.mk (fun W (hB : Below w.heap.size w W) => nos_file W b m r l z p (q3.kept (fun q hq => hB.block q (NdAt.lt (loc := fun _ => 0) (L := .file b m r) (d := .file l z p) q3 q hq))) hok.1 hok.2)
  have c1 : ¬ N < 0 := by omega
  have c3 : ¬ (67379200 : Int) < N := by omega
  have HT := Hid.mk hT
  have HOK := Hid.mk hok
  have HQ := Hid.mk (And.intro q1 (And.intro q2 (And.intro q3 (And.intro q4 q5))))
  have HNUM : Hid (0 ≤ N ∧ N ≤ 67379200) := Hid.mk ⟨h0, h1⟩
  clear hT hOk he hj hjk hok q1 q2 q3 q5 hs h0 h1
  unfold callV ptrV at *
  go_enter Tryz.func51, Tryz.ntmps51
  go_wp2_with fail
  obtain ⟨X, hX⟩ : ∃ X, X = (w.alloc (.cells #[.int .i64 kk, .string s, .string s2, .int .i64 off, .int .i64 N, .slice dp dl dc] 33)).alloc (.cells #[.int .i64 0, .slice none 0 0, .int .i64 0, .int .i64 0, .int .i64 0, .slice none 0 0, .int .i64 0] 37) := ⟨_, rfl⟩
  have hXB : Below w.heap.size w X := by rw [hX]; exact ((Below.refl _ w).alloc (Nat.le_refl _) _).alloc (by simp) _
  have hXs : X.heap.size = w.heap.size + 2 := by rw [hX]; simp
  have hX0 : X.heap[w.heap.size]? = some (.cells #[.int .i64 kk, .string s, .string s2, .int .i64 off, .int .i64 N, .slice dp dl dc] 33 (0, 0)) := by rw [hX, Below.heap_alloc _ _ _ (by simp)]; exact blk_new w _
  have hX1 : X.heap[w.heap.size + 1]? = some (.cells #[.int .i64 0, .slice none 0 0, .int .i64 0, .int .i64 0, .int .i64 0, .slice none 0 0, .int .i64 0] 37 (0, 0)) := by
    rw [hX]
    have := blk_new (w.alloc (.cells #[.int .i64 kk, .string s, .string s2, .int .i64 off, .int .i64 N, .slice dp dl dc] 33)) (.cells #[.int .i64 0, .slice none 0 0, .int .i64 0, .int .i64 0, .int .i64 0, .slice none 0 0, .int .i64 0] 37)
    rwa [World.size_alloc] at this
  rw [← hX]
  clear hX
  have f1 := blk_cell hX0 1
  have f4 := blk_cell hX0 4
  simp at f1 f4
  have HXB := Hid.mk hXB
  have HXS := Hid.mk hXs
  have HX0 := Hid.mk hX0
  have HX1 := Hid.mk hX1
  clear hXB hXs hX0 hX1
  go_wp2_with (first
    | (go_at_call 88; refine (HFI.out X HXB.out).mono ?_; rintro e' W1 ⟨rfl, hB1⟩
       have hx := (hB1.block _ (lt_of_block HX0.out)).trans HX0.out
       have HY0 := Hid.mk hx
       have HY1 := Hid.mk ((hB1.block _ (lt_of_block HX1.out)).trans HX1.out)
       have g4 := blk_cell hx 4
       simp at g4
       have HB1 : Hid (Below w.heap.size w W1) := Hid.mk (HXB.out.trans (hB1.mono HXB.out.size))
       have HB1s : Hid (w.heap.size ≤ W1.heap.size) := Hid.mk HB1.out.size
       clear hB1 hx f1 f4 HFI)
    | (go_at_call 68; refine (HNO.out _ HB1.out).mono ?_; rintro e' W2 ⟨ao, c', rfl, hrow, hB2⟩
       have HB2 := Hid.mk (HB1.out.trans (hB2.mono HB1.out.size))
       have HY2 := Hid.mk ((hB2.block _ (lt_of_block HY0.out)).trans HY0.out)
       have HY3 := Hid.mk ((hB2.block _ (lt_of_block HY1.out)).trans HY1.out)
       have HROW := Hid.mk hrow
       clear hB2 hrow g4 HB1 HY0 HY1))
  obtain ⟨ao2, c2, ev, hla, hnew⟩ := owns_latB HROW.out
  cases ev
  have hq := HQ.out
  have hmt : m < w.heap.size := NdAt.lt (loc := fun _ => 0) (L := .file b m r) (d := .file l z p) hq.2.2.1 m (by simp [Lay.foot])
  have hbt : b < w.heap.size := NdAt.lt (loc := fun _ => 0) (L := .file b m r) (d := .file l z p) hq.2.2.1 b (by simp [Lay.foot])
  have hnd : (b :: m :: r).Nodup := foot_nodup (List.nodup_cons.1 HT.out.apart).2 hq.1
  have hbm : b ≠ m := fun e => (List.nodup_cons.1 hnd).1 (by rw [e]; simp)
  have hpt2 : PtAt W2 m r p := (hq.2.2.1.parts HOK.out.1 (List.nodup_cons.1 hnd).2).kept (fun q hq' => HB2.out.block q (NdAt.lt (loc := fun _ => 0) (L := .file b m r) (d := .file l z p) hq.2.2.1 q (by simp [Lay.foot] at hq' ⊢; exact .inr hq')))
  have hnd2 : W2.heap[b]? = some (.cells #[.int .i64 1, .int .i64 l, .int .i64 z, .map (some m), .slice none 0 0, .map none] 102 (0, 0)) := (HB2.out.block b hbt).trans hq.2.2.1.node
  have HL2 := Hid.mk hla
  have HNW : Hid (∀ a, ao = some a → w.heap.size ≤ a.block) := Hid.mk (fun a ha => by have := hnew a ha; have := HB1s.out; omega)
  have HPT := Hid.mk hpt2
  have HND := Hid.mk hnd2
  have HMB : Hid (m < w.heap.size ∧ b < w.heap.size ∧ b ≠ m) := Hid.mk ⟨hmt, hbt, hbm⟩
  clear hla hnew hq hmt hbt hnd hbm hpt2 hnd2 HROW HNO
  go_loopw [35] (fun i wr => ∃ k : Nat, k ≤ p.length ∧ i = .int .i64 k ∧ PtAt wr m (dlR N (p.map (·.1)) p r k) (dlP N (p.map (·.1)) p k) ∧ Only (fun q => q = m) W2 wr) (fun i _ => p.length - (intOf i).toNat)
  case atStart => exact ⟨0, by omega, rfl, HPT.out, Only.refl _ _⟩
  case round =>
    obtain ⟨k, hk, rfl, hpk, hok⟩ := hrel
    have HPK := Hid.mk hpk
    have HO := Hid.mk hok
    clear hpk hok HPT
    by_cases hlt : k < p.length
    · have hi : (k : Int) < p.length := by omega
      have HLT := Hid.mk hlt
      obtain ⟨ax, rfl, hax, hcx⟩ := HL2.out.2 (by omega)
      have hw1 : IntKind.i64.wrap ((k : Int) + 1) = (k : Int) + 1 := by rw [IntKind.wrap_i64]; have := HOK.out.2; omega
      have hmb := HMB.out
      have hne : ¬ (ax.add k).block = m := fun e => by have := HNW.out ax rfl; rw [add_block] at e; omega
      have hcl : wr.cell? (ax.add k) = some (.int .i64 ((p.map (·.1)).getD k 0)) := by have e := HO.out.block (ax.add k).block (by rw [add_block]; exact hax) hne; rw [← hcx k hlt]; simp only [World.cell?, e]
      have hcb := (HO.out.block w.heap.size (lt_of_block HY2.out) (by omega)).trans HY2.out
      have y4 := blk_cell hcb 4
      have hnb := (HO.out.block b (lt_of_block HND.out) hmb.2.2).trans HND.out
      have y3 := blk_cell hnb 3
      simp at y4 y3
      obtain ⟨x, hx⟩ : ∃ x, x = (p.map (·.1)).getD k 0 := ⟨_, rfl⟩
      have hxk : x ∈ p.map (·.1) := by rw [hx]; exact List.mem_of_getElem? (i := k) (by simp [List.getD, hlt])
      obtain ⟨hx0, hx1⟩ : 0 ≤ x ∧ x < 65800 := by obtain ⟨e, he, rfl⟩ := List.mem_map.1 hxk; exact HOK.out.1.2 e he
      rw [← hx] at hcl
      have hw2 : IntKind.i64.wrap (x * 1024) = x * 1024 := by rw [IntKind.wrap_i64]; omega
      have hw3 : IntKind.i64.wrap (1024 * x) = 1024 * x := by rw [IntKind.wrap_i64]; omega
      obtain ⟨o, hdel, hmd⟩ := HPK.out.blocks.del keyed3 Tryz.underlying98 (Maps.keyOf_int_mk Tryz.underlying3 (okI_of (a := x) (by omega) (by omega))) 0
      have HMD := Hid.mk hmd
      have HX := Hid.mk hx
      clear hlt hk hcx hax hne hcb hnb hxk hmd hx hmb
      by_cases hc : N ≤ x * 1024
      · go_wp2_with fail
        go_roundw
        case rel =>
          have hx := HX.out
          have hset : Only (fun q => q = m) wr (ChangeMaps.setBlock wr m o) := (Only.refl (fun q => q = m) wr).setBlock (.inl rfl) o
          refine ⟨k + 1, by have := HLT.out; omega, by go_num, ?_, HO.out.trans hset (fun i hi => .inl hi)⟩
          rw [dlP, dlR, ← hx, if_pos hc, if_pos hc]
          exact HPK.out.del HMD.out hset
        case measure => have := HLT.out; simp [intOf]; omega
      · go_wp2_with fail
        go_roundw
        case rel =>
          have hx := HX.out
          refine ⟨k + 1, by have := HLT.out; omega, by go_num, ?_, HO.out⟩
          rw [dlP, dlR, ← hx, if_neg hc, if_neg hc]
          exact HPK.out
        case measure => have := HLT.out; simp [intOf]; omega
    · obtain rfl : k = p.length := by omega
      have hi2 : ¬ (p.length : Int) < (p.length : Int) := by omega
      have hpk := HPK.out
      rw [dl_end] at hpk
      have hsub : ∀ q ∈ dlR N (p.map (·.1)) p r p.length, q ∈ r := dlR_mem _ _ _ _ _
      have HRB : Hid (∀ q ∈ r, q ≠ m ∧ q ≠ b ∧ q ≠ w.heap.size ∧ q < w.heap.size) := Hid.mk (fun q hqr => by
        have hq0 := HQ.out
        have hnd : (b :: m :: r).Nodup := foot_nodup (List.nodup_cons.1 HT.out.apart).2 hq0.1
        have h2 := (List.nodup_cons.1 hnd)
        have hlt : q < w.heap.size := NdAt.lt (loc := fun _ => 0) (L := .file b m r) (d := .file l z p) hq0.2.2.1 q (by simp [Lay.foot, hqr])
        exact ⟨fun e => (List.nodup_cons.1 h2.2).1 (e ▸ hqr), fun e => h2.1 (by rw [← e]; simp [hqr]), by omega, hlt⟩)
      have HTT : Hid (t < w.heap.size ∧ t ∉ b :: m :: r) := Hid.mk ⟨lt_of_block HT.out.tree, fun h => (List.nodup_cons.1 HT.out.apart).1 (List.mem_flatMap.2 ⟨_, List.mem_of_getElem? HQ.out.1, h⟩)⟩
      have HSB := Hid.mk hsub
      clear hsub
      obtain ⟨rz, hrz⟩ : ∃ rz, rz = dlR N (p.map (·.1)) p r p.length := ⟨_, rfl⟩
      obtain ⟨pz, hpz⟩ : ∃ pz, pz = p.filter (fun q => decide (q.1 * 1024 < N)) := ⟨_, rfl⟩
      rw [← hrz, ← hpz] at hpk
      rw [← hrz] at HSB
      have HZ := Hid.mk hpk
      have HPZ := Hid.mk hpz
      have HRZ := Hid.mk hrz
      have hmb := HMB.out
      have hcb := (HO.out.block w.heap.size (lt_of_block HY2.out) (by omega)).trans HY2.out
      have y4 := blk_cell hcb 4
      have hnb := (HO.out.block b (lt_of_block HND.out) hmb.2.2).trans HND.out
      have y3 := blk_cell hnb 3
      simp at y4 y3
      have HCB : Hid (wr.drew.heap[w.heap.size]? = some (.cells #[.int .i64 kk, .string s, .string s2, .int .i64 off, .int .i64 N, .slice dp dl dc] 33 (0, 0))) := Hid.mk hcb
      have HNB : Hid (wr.drew.heap[b]? = some (.cells #[.int .i64 1, .int .i64 l, .int .i64 z, .map (some m), .slice none 0 0, .map none] 102 (0, 0))) := Hid.mk hnb
      clear hlt hk hpk hpz hrz HPK hcb hnb hmb
      have hq1 : N.tdiv 1024 = N / 1024 := Int.tdiv_eq_ediv_of_nonneg HNUM.out.1
      obtain ⟨x, hx⟩ : ∃ x, x = N / 1024 := ⟨_, rfl⟩
      rw [← hx] at hq1
      have hq2 : IntKind.i64.wrap x = x := by rw [IntKind.wrap_i64]; have := HNUM.out; omega
      have HX := Hid.mk hx
      have hlk := (HZ.out.kept (W' := wr.drew) (fun _ _ => rfl)).blocks.look2 keyed3 Tryz.underlying98 (zero_bytes wr.drew) (Maps.keyOf_int_mk Tryz.underlying3 (okI_of (a := x) (by have := HNUM.out; omega) (by have := HNUM.out; omega)))
      clear hx
      rcases HZ.out.get x with ⟨g1, g2, g3⟩ | ⟨d, q, g1, g2, g3, g4⟩
      · rw [g3] at hlk
        simp only [Option.getD_none, Option.isSome_none] at hlk
        have HS0 : Hid (wr.drew.cell? ⟨b, 3, none⟩ = some (.map (some m)) ∧ wr.drew.cell? ⟨w.heap.size, 4, none⟩ = some (.int .i64 N) ∧ (Instr.lookup 98 (.map (some m)) (.int .i64 x) true).run Tryz.prog wr.drew = .ok (.tuple #[.slice none 0 0, .bool false]) wr.drew) := Hid.mk ⟨y3, y4, hlk⟩
        have HG1 := Hid.mk g1
        clear hlk g1 g2 g3 y3 y4
        go_wp2_with fail
        refine wp_region_held_drew (S := fun W => W.cell? ⟨b, 3, none⟩ = some (.map (some m)) ∧ W.cell? ⟨w.heap.size, 4, none⟩ = some (.int .i64 N) ∧ (Instr.lookup 98 (.map (some m)) (.int .i64 x) true).run Tryz.prog W = .ok (.tuple #[.slice none 0 0, .bool false]) W) (by kernel_rfl) HS0.out (fun hH => ?_)
        change wpAnyH Tryz.prog Region.Mode.any _ _ _ 13 _ _ _
        refine takeH 0 51 (.pointer (some ⟨b, 0, none⟩)) rfl (by kernel_rfl) (by kernel_rfl) (by kernel_rfl) (by kernel_rfl) (fun _ _ _ h => h) (by kernel_rfl) (fun w hw => by (try dsimp only at hw); obtain ⟨hw1, hw2, hw3⟩ := hw; go_simp) hH ?_
        simp only [List.setIfInBounds_toArray, List.set_cons_zero, List.set_cons_succ]
        refine takeH 1 52 (.pointer (some ⟨b, 0, none⟩)) rfl (by kernel_rfl) (by kernel_rfl) (by kernel_rfl) (by kernel_rfl) (fun _ _ _ h => h) (by kernel_rfl) (fun w hw => by (try dsimp only at hw); obtain ⟨hw1, hw2, hw3⟩ := hw; go_simp) hH ?_
        simp only [List.setIfInBounds_toArray, List.set_cons_zero, List.set_cons_succ]
        refine takeH 2 53 (.pointer (some ⟨b, 3, none⟩)) rfl (by kernel_rfl) (by kernel_rfl) (by kernel_rfl) (by kernel_rfl) (fun _ _ _ h => h) (by kernel_rfl) (fun w hw => by (try dsimp only at hw); obtain ⟨hw1, hw2, hw3⟩ := hw; go_simp) hH ?_
        simp only [List.setIfInBounds_toArray, List.set_cons_zero, List.set_cons_succ]
        refine takeH 3 54 (.map (some m)) rfl (by kernel_rfl) (by kernel_rfl) (by kernel_rfl) (by kernel_rfl) (fun _ _ _ h => h) (by kernel_rfl) (fun w hw => by (try dsimp only at hw); obtain ⟨hw1, hw2, hw3⟩ := hw; go_simp) hH ?_
        simp only [List.setIfInBounds_toArray, List.set_cons_zero, List.set_cons_succ]
        refine takeH 4 55 (.pointer (some ⟨w.heap.size, 4, none⟩)) rfl (by kernel_rfl) (by kernel_rfl) (by kernel_rfl) (by kernel_rfl) (fun _ _ _ h => h) (by kernel_rfl) (fun w hw => by (try dsimp only at hw); obtain ⟨hw1, hw2, hw3⟩ := hw; go_simp) hH ?_
        simp only [List.setIfInBounds_toArray, List.set_cons_zero, List.set_cons_succ]
        refine takeH 5 56 (.int .i64 N) rfl (by kernel_rfl) (by kernel_rfl) (by kernel_rfl) (by kernel_rfl) (fun _ _ _ h => h) (by kernel_rfl) (fun w hw => by (try dsimp only at hw); obtain ⟨hw1, hw2, hw3⟩ := hw; go_simp) hH ?_
        simp only [List.setIfInBounds_toArray, List.set_cons_zero, List.set_cons_succ]
        refine takeH 6 57 (.int .i64 x) rfl (by kernel_rfl) (by kernel_rfl) (by kernel_rfl) (by kernel_rfl) (fun _ _ _ h => h) (by kernel_rfl) (fun w hw => by (try dsimp only at hw); obtain ⟨hw1, hw2, hw3⟩ := hw; go_simp) hH ?_
        simp only [List.setIfInBounds_toArray, List.set_cons_zero, List.set_cons_succ]
        refine takeH 7 58 (.tuple #[.slice none 0 0, .bool false]) rfl (by kernel_rfl) (by kernel_rfl) (by kernel_rfl) (by kernel_rfl) (fun _ _ _ h => h) (by kernel_rfl) (fun w hw => by (try dsimp only at hw); obtain ⟨hw1, hw2, hw3⟩ := hw; go_simp) hH ?_
        simp only [List.setIfInBounds_toArray, List.set_cons_zero, List.set_cons_succ]
        refine takeH 8 50 (.tuple #[.slice none 0 0, .bool false]) rfl (by kernel_rfl) (by kernel_rfl) (by kernel_rfl) (by kernel_rfl) (fun _ _ _ h => h) (by kernel_rfl) (fun w hw => by kernel_rfl) hH ?_
        simp only [List.setIfInBounds_toArray, List.set_cons_zero, List.set_cons_succ]
        refine takeH 9 59 (.slice none 0 0) rfl (by kernel_rfl) (by kernel_rfl) (by kernel_rfl) (by kernel_rfl) (fun _ _ _ h => h) (by kernel_rfl) (fun w hw => by (try dsimp only at hw); obtain ⟨hw1, hw2, hw3⟩ := hw; go_simp) hH ?_
        simp only [List.setIfInBounds_toArray, List.set_cons_zero, List.set_cons_succ]
        refine takeH 10 60 (.bool false) rfl (by kernel_rfl) (by kernel_rfl) (by kernel_rfl) (by kernel_rfl) (fun _ _ _ h => h) (by kernel_rfl) (fun w hw => by (try dsimp only at hw); obtain ⟨hw1, hw2, hw3⟩ := hw; go_simp) hH ?_
        simp only [List.setIfInBounds_toArray, List.set_cons_zero, List.set_cons_succ]
        refine takeH 11 10 (.slice none 0 0) rfl (by kernel_rfl) (by kernel_rfl) (by kernel_rfl) (by kernel_rfl) (fun _ _ _ h => h) (by kernel_rfl) (fun w hw => by kernel_rfl) hH ?_
        simp only [List.setIfInBounds_toArray, List.set_cons_zero, List.set_cons_succ]
        refine takeH 12 11 (.bool false) rfl (by kernel_rfl) (by kernel_rfl) (by kernel_rfl) (by kernel_rfl) (fun _ _ _ h => h) (by kernel_rfl) (fun w hw => by kernel_rfl) hH ?_
        simp only [List.setIfInBounds_toArray, List.set_cons_zero, List.set_cons_succ]
        refine wpAnyH_done (by kernel_rfl) ?_ _
        clear hH HS0
        have HCB2 : Hid (wr.drew.heap[w.heap.size]? = _) := HCB
        have HNC : Hid (wr.drew.heap[b]? = _) := HNB
        have hcut : cutP N p = pz := by unfold cutP; rw [← HPZ.out, ← HX.out, HG1.out]
        have HPC : Hid (PtAt wr.drew m rz (cutP N p)) := Hid.mk (by rw [hcut]; exact HZ.out.kept (W' := wr.drew) (fun _ _ => rfl))
        have HOC : Hid (Only (fun k => k = m ∨ k ∈ r) W2 wr.drew) := Hid.mk ((HO.out.mono (fun i _ hi => .inl hi)).drew)
        have HSC := HSB
        have HLC : Hid ((cutP N p).length ≤ 1048576) := Hid.mk (by rw [hcut, HPZ.out]; exact Nat.le_trans (List.length_filter_le _ _) HOK.out.2)
        clear hcut
        generalize wr.drew = V at *
        have y4 := blk_cell HCB2.out 4
        have z2 := blk_cell HNC.out 2
        have f2 := blk_free HNC.out 2
        simp at y4 z2
        have HUN : Hid (((World.setCell (V) ⟨b, 2, none⟩ (.int .i64 N))).heap[b]? = some (.cells #[.int .i64 1, .int .i64 l, .int .i64 N, .map (some m), .slice none 0 0, .map none] 102 (0, 0))) := Hid.mk (by rw [blk_set (w := V) (b := b) (i := 2) HNC.out]; rfl)
        have HUO : Hid (Only (fun k => k ∈ b :: m :: r) W2 (World.setCell (V) ⟨b, 2, none⟩ (.int .i64 N))) := Hid.mk ((HOC.out.mono (fun i _ hi => by rcases hi with h | h <;> simp [h])).setCell (p := ⟨b, 2, none⟩) (.inl (by simp)) _)
        have HUP : Hid (PtAt (World.setCell (V) ⟨b, 2, none⟩ (.int .i64 N)) m (rz) (cutP N p)) := Hid.mk (HPC.out.kept (fun q hq => Below.heap_setCell _ _ _ _ (by
          rcases List.mem_cons.1 hq with h | h
          · exact fun e => HMB.out.2.2 (by rw [← h, e])
          · exact fun e => (HRB.out q (HSC.out q h)).2.1 e)))
        go_wp2_with fail
        generalize World.setCell _ ⟨b, 2, none⟩ _ = U at *
        have HTU : Hid (TbAt U t σ.G σ.I σ.D (locL Ls 0) σ.inodes σ.blocks) := Hid.mk ((HUO.out.block t (by have := HTT.out.1; have := HB2.out.size; omega) HTT.out.2).trans ((HB2.out.block t HTT.out.1).trans HT.out.tree))
        have hnb1 : w.heap.size + 1 ∉ b :: m :: r := fun h => by
          rcases List.mem_cons.1 h with h | h
          · have := HMB.out; omega
          · rcases List.mem_cons.1 h with h | h
            · have := HMB.out; omega
            · have := (HRB.out _ h).2.2.2; omega
        have HBX : Hid (U.heap[w.heap.size + 1]? = some (.cells #[.int .i64 0, .slice none 0 0, .int .i64 0, .int .i64 0, .int .i64 0, .slice none 0 0, .int .i64 0] 37 (0, 0))) := Hid.mk ((HUO.out.block _ (lt_of_block HY3.out) hnb1).trans HY3.out)
        have HLU : Hid (LAt U ao p.length (p.map (·.1))) := Hid.mk (HL2.out.only HUO.out (fun a ha _ h => by
          have h3 := HNW.out a ha
          rcases List.mem_cons.1 h with h | h
          · have := HMB.out; omega
          · rcases List.mem_cons.1 h with h | h
            · have := HMB.out; omega
            · have := (HRB.out _ h).2.2.2; omega))
        have HT5 : Hid (∀ W, Below U.heap.size U W → W.cell? ⟨t, 5, none⟩ = some (.int .i64 σ.blocks) ∧ W.frozen? ⟨t, 5, none⟩ = false) := Hid.mk (fun W hB => by
          have e := (hB.block t (lt_of_block HTU.out)).trans HTU.out
          exact ⟨by rw [blk_cell e]; rfl, blk_free e 5⟩)
        have HN2 : Hid (∀ W, Below U.heap.size U W → _) := Hid.mk (fun W (hB : Below U.heap.size U W) => nos_file W b m (rz) l N (cutP N p) ((HUP.out.file HUN.out).kept' hB) HUP.out.ok HLC.out)
        have hrb1 := room_bound (p.map (·.1))
        have hrb2 := room_bound ((cutP N p).map (·.1))
        have hwr : IntKind.i64.wrap (roomL (p.map (·.1)) - roomL ((cutP N p).map (·.1))) = roomL (p.map (·.1)) - roomL ((cutP N p).map (·.1)) := by rw [IntKind.wrap_i64]; have h1 := HLC.out; have h2 := HOK.out.2; simp only [List.length_map] at hrb1 hrb2; omega
        have XB0 : Hid (Below U.heap.size U U.drew) := Hid.mk (Below.refl _ U).drew
        clear hrb1 hrb2 hnb1
        refine wp_region_but 13 (fun W => W.cell? ⟨t, 5, none⟩ = some (.int .i64 σ.blocks) ∧ W.frozen? ⟨t, 5, none⟩ = false) (by kernel_rfl) (HT5.out U.drew XB0.out) (fun hH => ?_)
        refine takeL 0 72 (.pointer (some ⟨t, 0, none⟩)) rfl (by kernel_rfl) (by kernel_rfl) (by kernel_rfl) (by kernel_rfl) (by kernel_rfl) (fun _ _ _ h => h) (by kernel_rfl) (fun w hw => by kernel_rfl) hH ?_
        simp only [List.setIfInBounds_toArray, List.set_cons_zero, List.set_cons_succ]
        refine takeL 1 73 (.pointer (some ⟨t, 0, none⟩)) rfl (by kernel_rfl) (by kernel_rfl) (by kernel_rfl) (by kernel_rfl) (by kernel_rfl) (fun _ _ _ h => h) (by kernel_rfl) (fun w hw => by go_simp) hH ?_
        simp only [List.setIfInBounds_toArray, List.set_cons_zero, List.set_cons_succ]
        refine takeL 2 74 (.pointer (some ⟨t, 5, none⟩)) rfl (by kernel_rfl) (by kernel_rfl) (by kernel_rfl) (by kernel_rfl) (by kernel_rfl) (fun _ _ _ h => h) (by kernel_rfl) (fun w hw => by go_simp) hH ?_
        simp only [List.setIfInBounds_toArray, List.set_cons_zero, List.set_cons_succ]
        refine takeL 3 75 (.int .i64 σ.blocks) rfl (by kernel_rfl) (by kernel_rfl) (by kernel_rfl) (by kernel_rfl) (by kernel_rfl) (fun _ _ _ h => h) (by kernel_rfl) (fun w hw => by (try dsimp only at hw); obtain ⟨hw1, hw2⟩ := hw; go_simp) hH ?_
        simp only [List.setIfInBounds_toArray, List.set_cons_zero, List.set_cons_succ]
        refine takeL 4 76 (.slice ao p.length c') rfl (by kernel_rfl) (by kernel_rfl) (by kernel_rfl) (by kernel_rfl) (by kernel_rfl) (fun _ _ _ h => h) (by kernel_rfl) (fun w hw => by kernel_rfl) hH ?_
        simp only [List.setIfInBounds_toArray, List.set_cons_zero, List.set_cons_succ]
        refine takeL 6 78 (.pointer (some ⟨b, 0, none⟩)) rfl (by kernel_rfl) (by kernel_rfl) (by kernel_rfl) (by kernel_rfl) (by kernel_rfl) (fun _ _ _ h => h) (by kernel_rfl) (fun w hw => by kernel_rfl) hH ?_
        simp only [List.setIfInBounds_toArray, List.set_cons_zero, List.set_cons_succ]
        refine stepL_call 5 77 rfl (by kernel_rfl) (by kernel_rfl) (by kernel_rfl) 91 #[.tmp 76] #[56] (by kernel_rfl) (enters_of Tryz.func91 (by kernel_rfl) rfl) #[.slice ao p.length c'] (by kernel_rfl) (room_any _ _ _ _ (p.map (·.1)) (HLU.out.blw XB0.out) (by have := HOK.out.2; omega)) ?_
        rintro e' Wr ⟨rfl, hbr⟩
        have XR : Hid (Below U.heap.size U Wr) := Hid.mk (XB0.out.trans (hbr.mono XB0.out.size))
        clear hbr
        refine ⟨.int .i64 (roomL (p.map (·.1))), rfl, HT5.out _ XR.out, ?_⟩
        simp only [List.setIfInBounds_toArray, List.set_cons_zero, List.set_cons_succ]
        refine stepL_call 7 79 rfl (by kernel_rfl) (by kernel_rfl) (by kernel_rfl) 68 #[.tmp 78] #[68] (by kernel_rfl) (enters_of Tryz.func68 (by kernel_rfl) rfl) #[.pointer (some ⟨b, 0, none⟩)] (by kernel_rfl) (HN2.out _ XR.out) ?_
        rintro e' Wn ⟨ao', c5, rfl, hown, hbn⟩
        obtain ⟨ao5, c6, ev, hla⟩ := owns_lat hown
        cases ev
        have XN : Hid (Below U.heap.size U Wn) := Hid.mk (XR.out.trans (hbn.mono XR.out.size))
        have LN := Hid.mk hla
        clear hown hbn hla
        refine ⟨_, rfl, HT5.out _ XN.out, ?_⟩
        simp only [List.setIfInBounds_toArray, List.set_cons_zero, List.set_cons_succ]
        refine stepL_call 8 80 rfl (by kernel_rfl) (by kernel_rfl) (by kernel_rfl) 91 #[.tmp 79] #[56] (by kernel_rfl) (enters_of Tryz.func91 (by kernel_rfl) rfl) #[.slice ao' (cutP N p).length c5] (by kernel_rfl) (room_any _ _ _ _ ((cutP N p).map (·.1)) LN.out (by have := HLC.out; omega)) ?_
        rintro e' Wz ⟨rfl, hbr⟩
        have XZ : Hid (Below U.heap.size U Wz) := Hid.mk (XN.out.trans (hbr.mono XN.out.size))
        clear hbr
        refine ⟨.int .i64 (roomL ((cutP N p).map (·.1))), rfl, HT5.out _ XZ.out, ?_⟩
        simp only [List.setIfInBounds_toArray, List.set_cons_zero, List.set_cons_succ]
        refine stepL_run 9 81 (.int .i64 (IntKind.i64.wrap (roomL (p.map (·.1)) - roomL ((cutP N p).map (·.1))))) Wz rfl (by kernel_rfl) (by kernel_rfl) (by kernel_rfl) (by go_simp) (HT5.out _ XZ.out) ?_
        simp only [List.setIfInBounds_toArray, List.set_cons_zero, List.set_cons_succ]
        rw [hwr]
        refine stepL_run 10 82 (.int .i64 (IntKind.i64.wrap (σ.blocks - (roomL (p.map (·.1)) - roomL ((cutP N p).map (·.1)))))) Wz rfl (by kernel_rfl) (by kernel_rfl) (by kernel_rfl) (by go_simp) (HT5.out _ XZ.out) ?_
        simp only [List.setIfInBounds_toArray, List.set_cons_zero, List.set_cons_succ]
        refine stepL_run 11 83 (.pointer (some ⟨t, 0, none⟩)) Wz rfl (by kernel_rfl) (by kernel_rfl) (by kernel_rfl) (by go_simp) (HT5.out _ XZ.out) ?_
        simp only [List.setIfInBounds_toArray, List.set_cons_zero, List.set_cons_succ]
        refine stepL_run 12 84 (.pointer (some ⟨t, 5, none⟩)) Wz rfl (by kernel_rfl) (by kernel_rfl) (by kernel_rfl) (by go_simp) (HT5.out _ XZ.out) ?_
        simp only [List.setIfInBounds_toArray, List.set_cons_zero, List.set_cons_succ]
        refine lastL (Wz.setCell ⟨t, 5, none⟩ (.int .i64 (IntKind.i64.wrap (σ.blocks - (roomL (p.map (·.1)) - roomL ((cutP N p).map (·.1))))))) rfl (by kernel_rfl) (by kernel_rfl) (by kernel_rfl) (exec_storeI (p := .tmp 84) (x := .tmp 82) (by kernel_rfl) (by kernel_rfl) (by kernel_rfl) (HT5.out _ XZ.out).1 (HT5.out _ XZ.out).2) (by kernel_rfl) ?_
        all_goals
          have hz := XZ.out
          have htz : TbAt Wz t σ.G σ.I σ.D (locL Ls 0) σ.inodes σ.blocks := (hz.block t (lt_of_block HTU.out)).trans HTU.out
          obtain ⟨bv, hbv⟩ : ∃ bv, bv = IntKind.i64.wrap (σ.blocks - (roomL (p.map (·.1)) - roomL ((cutP N p).map (·.1)))) := ⟨_, rfl⟩
          rw [← hbv]
          have HTZ : Hid (TbAt (World.setCell Wz ⟨t, 5, none⟩ (.int .i64 bv)) t σ.G σ.I σ.D (locL Ls 0) σ.inodes bv) := Hid.mk (by unfold TbAt; rw [blk_set htz]; rfl)
          have HOZ : Hid (Only (fun k => k = t ∨ k ∈ b :: m :: r) w (World.setCell Wz ⟨t, 5, none⟩ (.int .i64 bv))) := Hid.mk ((((Only.of_new (fun k => k = t ∨ k ∈ b :: m :: r) HB2.out).trans HUO.out (fun i hi => .inl (.inr hi))).trans (Only.of_new (fun _ => False) hz) (fun _ h => h.elim)).setCell (p := ⟨t, 5, none⟩) (.inl (.inl rfl)) _)
          have hbx : (World.setCell Wz ⟨t, 5, none⟩ (.int .i64 bv)).heap[w.heap.size + 1]? = some (.cells #[.int .i64 0, .slice none 0 0, .int .i64 0, .int .i64 0, .int .i64 0, .slice none 0 0, .int .i64 0] 37 (0, 0)) := (Below.heap_setCell _ _ _ _ (by have := HTT.out.1; show w.heap.size + 1 ≠ t; omega)).trans ((hz.block _ (lt_of_block HBX.out)).trans HBX.out)
          have HPE : Hid (PtAt (World.setCell Wz ⟨t, 5, none⟩ (.int .i64 bv)) m (rz) (cutP N p)) := Hid.mk (HUP.out.kept (fun q hq => (Below.heap_setCell _ _ _ _ (by
            show q ≠ t
            rcases List.mem_cons.1 hq with h | h
            · exact fun e => HTT.out.2 (by rw [← e, h]; simp)
            · exact fun e => HTT.out.2 (by rw [← e]; simp [HSC.out q h]))).trans (hz.block q (by
            rcases List.mem_cons.1 hq with h | h
            · rw [h]; exact HUP.out.blocks.lt
            · have h1 := (HRB.out q (HSC.out q h)).2.2.2
              have h2 := HUO.out.size
              have h3 := HB2.out.size
              omega))))
          have HNE : Hid ((World.setCell Wz ⟨t, 5, none⟩ (.int .i64 bv)).heap[b]? = some (.cells #[.int .i64 1, .int .i64 l, .int .i64 N, .map (some m), .slice none 0 0, .map none] 102 (0, 0))) := Hid.mk ((Below.heap_setCell _ _ _ _ (by show b ≠ t; exact fun e => HTT.out.2 (by rw [← e]; simp))).trans ((hz.block b (lt_of_block HUN.out)).trans HUN.out))
          generalize World.setCell Wz ⟨t, 5, none⟩ _ = E at *
          have BX := Hid.mk hbx
          have z0 := blk_cell hbx 0
          have y0 := blk_free hbx 0
          have z1 := blk_cell hbx 1
          have y1 := blk_free hbx 1
          have z2 := blk_cell hbx 2
          have y2 := blk_free hbx 2
          have z3 := blk_cell hbx 3
          have y3 := blk_free hbx 3
          have z4 := blk_cell hbx 4
          have y4 := blk_free hbx 4
          have z5 := blk_cell hbx 5
          have y5 := blk_free hbx 5
          have z6 := blk_cell hbx 6
          have y6 := blk_free hbx 6
          simp at z0 z1 z2 z3 z4 z5 z6
          clear hz htz hbx hwr
          go_wp2_with fail
          have hb7 := (box7 BX.out (.int .i64 0) (.slice none 0 0) (.int .i64 0) (.int .i64 0) (.int .i64 0) (.slice none 0 0) (.int .i64 0)).1
          have ho7 := (box7 BX.out (.int .i64 0) (.slice none 0 0) (.int .i64 0) (.int .i64 0) (.int .i64 0) (.slice none 0 0) (.int .i64 0)).2
          obtain ⟨Y, hY⟩ : ∃ Y, Y = (((((((E.setCell ⟨w.heap.size + 1, 0, none⟩ (.int .i64 0)).setCell ⟨w.heap.size + 1, 1, none⟩ (.slice none 0 0)).setCell ⟨w.heap.size + 1, 2, none⟩ (.int .i64 0)).setCell ⟨w.heap.size + 1, 3, none⟩ (.int .i64 0)).setCell ⟨w.heap.size + 1, 4, none⟩ (.int .i64 0)).setCell ⟨w.heap.size + 1, 5, none⟩ (.slice none 0 0)).setCell ⟨w.heap.size + 1, 6, none⟩ (.int .i64 0)) := ⟨_, rfl⟩
          rw [← hY] at hb7 ho7 ⊢
          have k0 := blk_cell hb7 0
          have k1 := blk_cell hb7 1
          have k2 := blk_cell hb7 2
          have k3 := blk_cell hb7 3
          have k4 := blk_cell hb7 4
          have k5 := blk_cell hb7 5
          have k6 := blk_cell hb7 6
          simp at k0 k1 k2 k3 k4 k5 k6
          refine bodyPost_ret (v := errV 0) ?_ rfl ⟨rfl, ?_⟩
          · simp [results, Tryz.results51, go_sem, errV, k0, k1, k2, k3, k4, k5, k6]
          · have hq := HQ.out
            have hlow : ∀ i, i < w.heap.size → i ≠ w.heap.size + 1 := fun i h => by omega
            have hrl : ∀ i ∈ b :: m :: (rz), i < w.heap.size := fun i hi => by
              rcases List.mem_cons.1 hi with h | h
              · have := HMB.out; omega
              · rcases List.mem_cons.1 h with h | h
                · have := HMB.out; omega
                · exact (HRB.out i (HSC.out i h)).2.2.2
            have hk7 : ∀ i, i < w.heap.size → i < E.heap.size → Y.heap[i]? = E.heap[i]? := fun i h hE => ho7.block i hE (hlow i h)
            have hsz := HOZ.out.size
            have hOY : Only (fun k => k = t ∨ k ∈ (Lay.file b m r).foot) w Y := HOZ.out.trans ho7 (fun i hi => .inr (by omega))
            have hPY : PtAt Y m (rz) (cutP N p) := HPE.out.kept (fun q hq => hk7 q (hrl q (List.mem_cons_of_mem _ hq)) (by have := hrl q (List.mem_cons_of_mem _ hq); omega))
            have hNY := (hk7 b HMB.out.2.1 (by have := HMB.out.2.1; omega)).trans HNE.out
            have hfin := HT.out.turn (L' := .file b m (rz)) (n' := .file l N (cutP N p)) hq.1 rfl hOY (i' := σ.inodes) (b' := bv) ((hk7 t HTT.out.1 (by have := HTT.out.1; omega)).trans HTZ.out) (hPY.file hNY) (fun q hq => .inl (by
              simp only [Lay.foot, List.mem_cons] at hq ⊢
              rcases hq with h | h | h
              · exact .inl h
              · exact .inr (.inl h)
              · exact .inr (.inr (HSC.out q h)))) (List.nodup_cons.2 ⟨fun h => by
                rcases List.mem_cons.1 h with h | h
                · exact HMB.out.2.2 h
                · exact (HRB.out _ (HSC.out _ h)).2.1 rfl, hPY.nd⟩) (fun q hq => by cases hq) (fun e => by
              subst e
              obtain ⟨l1, z1, s1, hr⟩ := HT.out.root
              have := hq.2.1
              rw [hr] at this
              cases this)
            refine ⟨⟨Ls.set j (.file b m (rz)), ?_, fun q hq2 => ?_⟩, hOY.mono (fun i _ hi => ?_)⟩
            · unfold truncT
              rw [hq.2.2.2.2, modify_set hq.2.1]
              rw [hbv, wrap_eq] at hfin
              exact hfin
            · rcases List.mem_cons.1 hq2 with rfl | hq2
              · exact .inl (by simp [feet])
              · obtain ⟨L, hL, hq3⟩ := List.mem_flatMap.1 hq2
                rcases List.mem_or_eq_of_mem_set hL with h | h
                · exact .inl (List.mem_cons_of_mem _ (List.mem_flatMap.2 ⟨L, h, hq3⟩))
                · subst h
                  refine .inl (mem_feet hq.1 ?_)
                  simp only [Lay.foot, List.mem_cons] at hq3 ⊢
                  rcases hq3 with h | h | h
                  · exact .inl h
                  · exact .inr (.inl h)
                  · exact .inr (.inr (HSC.out q h))
            · rcases hi with h | h
              · rw [h]; simp [feet]
              · exact mem_feet hq.1 h
      · rw [g3] at hlk
        simp only [Option.getD_some, Option.isSome_some] at hlk
        have HS0 : Hid (wr.drew.cell? ⟨b, 3, none⟩ = some (.map (some m)) ∧ wr.drew.cell? ⟨w.heap.size, 4, none⟩ = some (.int .i64 N) ∧ (Instr.lookup 98 (.map (some m)) (.int .i64 x) true).run Tryz.prog wr.drew = .ok (.tuple #[.slice (some ⟨q, 0, none⟩) 1024 1024, .bool true]) wr.drew) := Hid.mk ⟨y3, y4, hlk⟩
        have HG1 := Hid.mk g1
        have HG4 := Hid.mk g4
        clear hlk g1 g2 g3 g4 y3 y4
        go_wp2_with fail
        refine wp_region_held_drew (S := fun W => W.cell? ⟨b, 3, none⟩ = some (.map (some m)) ∧ W.cell? ⟨w.heap.size, 4, none⟩ = some (.int .i64 N) ∧ (Instr.lookup 98 (.map (some m)) (.int .i64 x) true).run Tryz.prog W = .ok (.tuple #[.slice (some ⟨q, 0, none⟩) 1024 1024, .bool true]) W) (by kernel_rfl) HS0.out (fun hH => ?_)
        change wpAnyH Tryz.prog Region.Mode.any _ _ _ 13 _ _ _
        refine takeH 0 51 (.pointer (some ⟨b, 0, none⟩)) rfl (by kernel_rfl) (by kernel_rfl) (by kernel_rfl) (by kernel_rfl) (fun _ _ _ h => h) (by kernel_rfl) (fun w hw => by (try dsimp only at hw); obtain ⟨hw1, hw2, hw3⟩ := hw; go_simp) hH ?_
        simp only [List.setIfInBounds_toArray, List.set_cons_zero, List.set_cons_succ]
        refine takeH 1 52 (.pointer (some ⟨b, 0, none⟩)) rfl (by kernel_rfl) (by kernel_rfl) (by kernel_rfl) (by kernel_rfl) (fun _ _ _ h => h) (by kernel_rfl) (fun w hw => by (try dsimp only at hw); obtain ⟨hw1, hw2, hw3⟩ := hw; go_simp) hH ?_
        simp only [List.setIfInBounds_toArray, List.set_cons_zero, List.set_cons_succ]
        refine takeH 2 53 (.pointer (some ⟨b, 3, none⟩)) rfl (by kernel_rfl) (by kernel_rfl) (by kernel_rfl) (by kernel_rfl) (fun _ _ _ h => h) (by kernel_rfl) (fun w hw => by (try dsimp only at hw); obtain ⟨hw1, hw2, hw3⟩ := hw; go_simp) hH ?_
        simp only [List.setIfInBounds_toArray, List.set_cons_zero, List.set_cons_succ]
        refine takeH 3 54 (.map (some m)) rfl (by kernel_rfl) (by kernel_rfl) (by kernel_rfl) (by kernel_rfl) (fun _ _ _ h => h) (by kernel_rfl) (fun w hw => by (try dsimp only at hw); obtain ⟨hw1, hw2, hw3⟩ := hw; go_simp) hH ?_
        simp only [List.setIfInBounds_toArray, List.set_cons_zero, List.set_cons_succ]
        refine takeH 4 55 (.pointer (some ⟨w.heap.size, 4, none⟩)) rfl (by kernel_rfl) (by kernel_rfl) (by kernel_rfl) (by kernel_rfl) (fun _ _ _ h => h) (by kernel_rfl) (fun w hw => by (try dsimp only at hw); obtain ⟨hw1, hw2, hw3⟩ := hw; go_simp) hH ?_
        simp only [List.setIfInBounds_toArray, List.set_cons_zero, List.set_cons_succ]
        refine takeH 5 56 (.int .i64 N) rfl (by kernel_rfl) (by kernel_rfl) (by kernel_rfl) (by kernel_rfl) (fun _ _ _ h => h) (by kernel_rfl) (fun w hw => by (try dsimp only at hw); obtain ⟨hw1, hw2, hw3⟩ := hw; go_simp) hH ?_
        simp only [List.setIfInBounds_toArray, List.set_cons_zero, List.set_cons_succ]
        refine takeH 6 57 (.int .i64 x) rfl (by kernel_rfl) (by kernel_rfl) (by kernel_rfl) (by kernel_rfl) (fun _ _ _ h => h) (by kernel_rfl) (fun w hw => by (try dsimp only at hw); obtain ⟨hw1, hw2, hw3⟩ := hw; go_simp) hH ?_
        simp only [List.setIfInBounds_toArray, List.set_cons_zero, List.set_cons_succ]
        refine takeH 7 58 (.tuple #[.slice (some ⟨q, 0, none⟩) 1024 1024, .bool true]) rfl (by kernel_rfl) (by kernel_rfl) (by kernel_rfl) (by kernel_rfl) (fun _ _ _ h => h) (by kernel_rfl) (fun w hw => by (try dsimp only at hw); obtain ⟨hw1, hw2, hw3⟩ := hw; go_simp) hH ?_
        simp only [List.setIfInBounds_toArray, List.set_cons_zero, List.set_cons_succ]
        refine takeH 8 50 (.tuple #[.slice (some ⟨q, 0, none⟩) 1024 1024, .bool true]) rfl (by kernel_rfl) (by kernel_rfl) (by kernel_rfl) (by kernel_rfl) (fun _ _ _ h => h) (by kernel_rfl) (fun w hw => by kernel_rfl) hH ?_
        simp only [List.setIfInBounds_toArray, List.set_cons_zero, List.set_cons_succ]
        refine takeH 9 59 (.slice (some ⟨q, 0, none⟩) 1024 1024) rfl (by kernel_rfl) (by kernel_rfl) (by kernel_rfl) (by kernel_rfl) (fun _ _ _ h => h) (by kernel_rfl) (fun w hw => by (try dsimp only at hw); obtain ⟨hw1, hw2, hw3⟩ := hw; go_simp) hH ?_
        simp only [List.setIfInBounds_toArray, List.set_cons_zero, List.set_cons_succ]
        refine takeH 10 60 (.bool true) rfl (by kernel_rfl) (by kernel_rfl) (by kernel_rfl) (by kernel_rfl) (fun _ _ _ h => h) (by kernel_rfl) (fun w hw => by (try dsimp only at hw); obtain ⟨hw1, hw2, hw3⟩ := hw; go_simp) hH ?_
        simp only [List.setIfInBounds_toArray, List.set_cons_zero, List.set_cons_succ]
        refine takeH 11 10 (.slice (some ⟨q, 0, none⟩) 1024 1024) rfl (by kernel_rfl) (by kernel_rfl) (by kernel_rfl) (by kernel_rfl) (fun _ _ _ h => h) (by kernel_rfl) (fun w hw => by kernel_rfl) hH ?_
        simp only [List.setIfInBounds_toArray, List.set_cons_zero, List.set_cons_succ]
        refine takeH 12 11 (.bool true) rfl (by kernel_rfl) (by kernel_rfl) (by kernel_rfl) (by kernel_rfl) (fun _ _ _ h => h) (by kernel_rfl) (fun w hw => by kernel_rfl) hH ?_
        simp only [List.setIfInBounds_toArray, List.set_cons_zero, List.set_cons_succ]
        refine wpAnyH_done (by kernel_rfl) ?_ _
        clear hH HS0
        obtain ⟨A, hA⟩ : ∃ A : Nat, A = (N % 1024).toNat := ⟨_, rfl⟩
        have hm1 : N.tmod 1024 = (A : Int) := by rw [Int.tmod_eq_emod_of_nonneg HNUM.out.1]; have := HNUM.out; omega
        have hm2 : IntKind.i64.wrap (A : Int) = (A : Int) := by rw [IntKind.wrap_i64]; omega
        have hA1 : A < 1024 := by omega
        have HA := Hid.mk hA
        have hqr := HZ.out.rows _ HG4.out
        have hd : d.length = 1024 := hqr.2
        have hrq : RAt wr.drew q d := hqr.1
        have HD := Hid.mk hd
        have HRQ := Hid.mk hrq
        have y4 := blk_cell HCB.out 4
        simp at y4
        clear hA hqr hd hrq
        obtain ⟨V, hcl, hrv, hov⟩ := clear_run wr.drew q A (1024 - A) d HRQ.out (by omega) (by have := HD.out; omega) 0
        have hqm : q ≠ m ∧ q ≠ b ∧ q ≠ w.heap.size := (fun h => ⟨h.1, h.2.1, h.2.2.1⟩) (HRB.out q (HSB.out q (List.of_mem_zip HG4.out).2))
        have HCB2 := Hid.mk ((hov.block w.heap.size (lt_of_block HCB.out) (fun e => hqm.2.2 e.symm)).trans HCB.out)
        have HNB2 := Hid.mk ((hov.block b (lt_of_block HNB.out) (fun e => hqm.2.1 e.symm)).trans HNB.out)
        have HPV : Hid (PtAt V m (putR x q pz rz) (putP x (splice d A (zeros (1024 - A))) pz)) := Hid.mk ((HZ.out.kept (W' := wr.drew) (fun _ _ => rfl)).turn HG4.out hrv (by rw [length_splice _ _ _ (by rw [zeros_length]; have := HD.out; omega)]; exact HD.out) hov)
        have HOV := Hid.mk hov
        have v4 := blk_cell HCB2.out 4
        have z2 := blk_cell HNB2.out 2
        have f2 := blk_free HNB2.out 2
        simp at v4 z2
        have HNC := HNB2
        have hcut : cutP N p = putP x (splice d A (zeros (1024 - A))) pz := by unfold cutP; rw [← HPZ.out, ← HX.out, HG1.out, ← HA.out]
        have HPC : Hid (PtAt V m (putR x q pz rz) (cutP N p)) := Hid.mk (by rw [hcut]; exact HPV.out)
        have HOC : Hid (Only (fun k => k = m ∨ k ∈ r) W2 V) := Hid.mk (((HO.out.mono (fun i _ hi => .inl hi)).drew).trans hov (fun i hi => .inl (.inr (by rw [hi]; exact HSB.out q (List.of_mem_zip HG4.out).2))))
        have HSC : Hid (∀ y ∈ putR x q pz rz, y ∈ r) := Hid.mk (fun y hy => HSB.out y (putR_in HG4.out hy))
        have HLC : Hid ((cutP N p).length ≤ 1048576) := Hid.mk (by rw [hcut, put_old _ _ HZ.out.ok.1 (List.mem_map.2 ⟨(x, d), (List.of_mem_zip HG4.out).1, rfl⟩), HPZ.out]; exact Nat.le_trans (List.length_filter_le _ _) HOK.out.2)
        clear hov hrv hcut
        have HUN : Hid (((World.setCell (V) ⟨b, 2, none⟩ (.int .i64 N))).heap[b]? = some (.cells #[.int .i64 1, .int .i64 l, .int .i64 N, .map (some m), .slice none 0 0, .map none] 102 (0, 0))) := Hid.mk (by rw [blk_set (w := V) (b := b) (i := 2) HNC.out]; rfl)
        have HUO : Hid (Only (fun k => k ∈ b :: m :: r) W2 (World.setCell (V) ⟨b, 2, none⟩ (.int .i64 N))) := Hid.mk ((HOC.out.mono (fun i _ hi => by rcases hi with h | h <;> simp [h])).setCell (p := ⟨b, 2, none⟩) (.inl (by simp)) _)
        have HUP : Hid (PtAt (World.setCell (V) ⟨b, 2, none⟩ (.int .i64 N)) m (putR x q pz rz) (cutP N p)) := Hid.mk (HPC.out.kept (fun q hq => Below.heap_setCell _ _ _ _ (by
          rcases List.mem_cons.1 hq with h | h
          · exact fun e => HMB.out.2.2 (by rw [← h, e])
          · exact fun e => (HRB.out q (HSC.out q h)).2.1 e)))
        go_wp2_with fail
        generalize World.setCell _ ⟨b, 2, none⟩ _ = U at *
        have HTU : Hid (TbAt U t σ.G σ.I σ.D (locL Ls 0) σ.inodes σ.blocks) := Hid.mk ((HUO.out.block t (by have := HTT.out.1; have := HB2.out.size; omega) HTT.out.2).trans ((HB2.out.block t HTT.out.1).trans HT.out.tree))
        have hnb1 : w.heap.size + 1 ∉ b :: m :: r := fun h => by
          rcases List.mem_cons.1 h with h | h
          · have := HMB.out; omega
          · rcases List.mem_cons.1 h with h | h
            · have := HMB.out; omega
            · have := (HRB.out _ h).2.2.2; omega
        have HBX : Hid (U.heap[w.heap.size + 1]? = some (.cells #[.int .i64 0, .slice none 0 0, .int .i64 0, .int .i64 0, .int .i64 0, .slice none 0 0, .int .i64 0] 37 (0, 0))) := Hid.mk ((HUO.out.block _ (lt_of_block HY3.out) hnb1).trans HY3.out)
        have HLU : Hid (LAt U ao p.length (p.map (·.1))) := Hid.mk (HL2.out.only HUO.out (fun a ha _ h => by
          have h3 := HNW.out a ha
          rcases List.mem_cons.1 h with h | h
          · have := HMB.out; omega
          · rcases List.mem_cons.1 h with h | h
            · have := HMB.out; omega
            · have := (HRB.out _ h).2.2.2; omega))
        have HT5 : Hid (∀ W, Below U.heap.size U W → W.cell? ⟨t, 5, none⟩ = some (.int .i64 σ.blocks) ∧ W.frozen? ⟨t, 5, none⟩ = false) := Hid.mk (fun W hB => by
          have e := (hB.block t (lt_of_block HTU.out)).trans HTU.out
          exact ⟨by rw [blk_cell e]; rfl, blk_free e 5⟩)
        have HN2 : Hid (∀ W, Below U.heap.size U W → _) := Hid.mk (fun W (hB : Below U.heap.size U W) => nos_file W b m (putR x q pz rz) l N (cutP N p) ((HUP.out.file HUN.out).kept' hB) HUP.out.ok HLC.out)
        have hrb1 := room_bound (p.map (·.1))
        have hrb2 := room_bound ((cutP N p).map (·.1))
        have hwr : IntKind.i64.wrap (roomL (p.map (·.1)) - roomL ((cutP N p).map (·.1))) = roomL (p.map (·.1)) - roomL ((cutP N p).map (·.1)) := by rw [IntKind.wrap_i64]; have h1 := HLC.out; have h2 := HOK.out.2; simp only [List.length_map] at hrb1 hrb2; omega
        have XB0 : Hid (Below U.heap.size U U.drew) := Hid.mk (Below.refl _ U).drew
        clear hrb1 hrb2 hnb1
        refine wp_region_but 13 (fun W => W.cell? ⟨t, 5, none⟩ = some (.int .i64 σ.blocks) ∧ W.frozen? ⟨t, 5, none⟩ = false) (by kernel_rfl) (HT5.out U.drew XB0.out) (fun hH => ?_)
        refine takeL 0 72 (.pointer (some ⟨t, 0, none⟩)) rfl (by kernel_rfl) (by kernel_rfl) (by kernel_rfl) (by kernel_rfl) (by kernel_rfl) (fun _ _ _ h => h) (by kernel_rfl) (fun w hw => by kernel_rfl) hH ?_
        simp only [List.setIfInBounds_toArray, List.set_cons_zero, List.set_cons_succ]
        refine takeL 1 73 (.pointer (some ⟨t, 0, none⟩)) rfl (by kernel_rfl) (by kernel_rfl) (by kernel_rfl) (by kernel_rfl) (by kernel_rfl) (fun _ _ _ h => h) (by kernel_rfl) (fun w hw => by go_simp) hH ?_
        simp only [List.setIfInBounds_toArray, List.set_cons_zero, List.set_cons_succ]
        refine takeL 2 74 (.pointer (some ⟨t, 5, none⟩)) rfl (by kernel_rfl) (by kernel_rfl) (by kernel_rfl) (by kernel_rfl) (by kernel_rfl) (fun _ _ _ h => h) (by kernel_rfl) (fun w hw => by go_simp) hH ?_
        simp only [List.setIfInBounds_toArray, List.set_cons_zero, List.set_cons_succ]
        refine takeL 3 75 (.int .i64 σ.blocks) rfl (by kernel_rfl) (by kernel_rfl) (by kernel_rfl) (by kernel_rfl) (by kernel_rfl) (fun _ _ _ h => h) (by kernel_rfl) (fun w hw => by (try dsimp only at hw); obtain ⟨hw1, hw2⟩ := hw; go_simp) hH ?_
        simp only [List.setIfInBounds_toArray, List.set_cons_zero, List.set_cons_succ]
        refine takeL 4 76 (.slice ao p.length c') rfl (by kernel_rfl) (by kernel_rfl) (by kernel_rfl) (by kernel_rfl) (by kernel_rfl) (fun _ _ _ h => h) (by kernel_rfl) (fun w hw => by kernel_rfl) hH ?_
        simp only [List.setIfInBounds_toArray, List.set_cons_zero, List.set_cons_succ]
        refine takeL 6 78 (.pointer (some ⟨b, 0, none⟩)) rfl (by kernel_rfl) (by kernel_rfl) (by kernel_rfl) (by kernel_rfl) (by kernel_rfl) (fun _ _ _ h => h) (by kernel_rfl) (fun w hw => by kernel_rfl) hH ?_
        simp only [List.setIfInBounds_toArray, List.set_cons_zero, List.set_cons_succ]
        refine stepL_call 5 77 rfl (by kernel_rfl) (by kernel_rfl) (by kernel_rfl) 91 #[.tmp 76] #[56] (by kernel_rfl) (enters_of Tryz.func91 (by kernel_rfl) rfl) #[.slice ao p.length c'] (by kernel_rfl) (room_any _ _ _ _ (p.map (·.1)) (HLU.out.blw XB0.out) (by have := HOK.out.2; omega)) ?_
        rintro e' Wr ⟨rfl, hbr⟩
        have XR : Hid (Below U.heap.size U Wr) := Hid.mk (XB0.out.trans (hbr.mono XB0.out.size))
        clear hbr
        refine ⟨.int .i64 (roomL (p.map (·.1))), rfl, HT5.out _ XR.out, ?_⟩
        simp only [List.setIfInBounds_toArray, List.set_cons_zero, List.set_cons_succ]
        refine stepL_call 7 79 rfl (by kernel_rfl) (by kernel_rfl) (by kernel_rfl) 68 #[.tmp 78] #[68] (by kernel_rfl) (enters_of Tryz.func68 (by kernel_rfl) rfl) #[.pointer (some ⟨b, 0, none⟩)] (by kernel_rfl) (HN2.out _ XR.out) ?_
        rintro e' Wn ⟨ao', c5, rfl, hown, hbn⟩
        obtain ⟨ao5, c6, ev, hla⟩ := owns_lat hown
        cases ev
        have XN : Hid (Below U.heap.size U Wn) := Hid.mk (XR.out.trans (hbn.mono XR.out.size))
        have LN := Hid.mk hla
        clear hown hbn hla
        refine ⟨_, rfl, HT5.out _ XN.out, ?_⟩
        simp only [List.setIfInBounds_toArray, List.set_cons_zero, List.set_cons_succ]
        refine stepL_call 8 80 rfl (by kernel_rfl) (by kernel_rfl) (by kernel_rfl) 91 #[.tmp 79] #[56] (by kernel_rfl) (enters_of Tryz.func91 (by kernel_rfl) rfl) #[.slice ao' (cutP N p).length c5] (by kernel_rfl) (room_any _ _ _ _ ((cutP N p).map (·.1)) LN.out (by have := HLC.out; omega)) ?_
        rintro e' Wz ⟨rfl, hbr⟩
        have XZ : Hid (Below U.heap.size U Wz) := Hid.mk (XN.out.trans (hbr.mono XN.out.size))
        clear hbr
        refine ⟨.int .i64 (roomL ((cutP N p).map (·.1))), rfl, HT5.out _ XZ.out, ?_⟩
        simp only [List.setIfInBounds_toArray, List.set_cons_zero, List.set_cons_succ]
        refine stepL_run 9 81 (.int .i64 (IntKind.i64.wrap (roomL (p.map (·.1)) - roomL ((cutP N p).map (·.1))))) Wz rfl (by kernel_rfl) (by kernel_rfl) (by kernel_rfl) (by go_simp) (HT5.out _ XZ.out) ?_
        simp only [List.setIfInBounds_toArray, List.set_cons_zero, List.set_cons_succ]
        rw [hwr]
        refine stepL_run 10 82 (.int .i64 (IntKind.i64.wrap (σ.blocks - (roomL (p.map (·.1)) - roomL ((cutP N p).map (·.1)))))) Wz rfl (by kernel_rfl) (by kernel_rfl) (by kernel_rfl) (by go_simp) (HT5.out _ XZ.out) ?_
        simp only [List.setIfInBounds_toArray, List.set_cons_zero, List.set_cons_succ]
        refine stepL_run 11 83 (.pointer (some ⟨t, 0, none⟩)) Wz rfl (by kernel_rfl) (by kernel_rfl) (by kernel_rfl) (by go_simp) (HT5.out _ XZ.out) ?_
        simp only [List.setIfInBounds_toArray, List.set_cons_zero, List.set_cons_succ]
        refine stepL_run 12 84 (.pointer (some ⟨t, 5, none⟩)) Wz rfl (by kernel_rfl) (by kernel_rfl) (by kernel_rfl) (by go_simp) (HT5.out _ XZ.out) ?_
        simp only [List.setIfInBounds_toArray, List.set_cons_zero, List.set_cons_succ]
        refine lastL (Wz.setCell ⟨t, 5, none⟩ (.int .i64 (IntKind.i64.wrap (σ.blocks - (roomL (p.map (·.1)) - roomL ((cutP N p).map (·.1))))))) rfl (by kernel_rfl) (by kernel_rfl) (by kernel_rfl) (exec_storeI (p := .tmp 84) (x := .tmp 82) (by kernel_rfl) (by kernel_rfl) (by kernel_rfl) (HT5.out _ XZ.out).1 (HT5.out _ XZ.out).2) (by kernel_rfl) ?_
        all_goals
          have hz := XZ.out
          have htz : TbAt Wz t σ.G σ.I σ.D (locL Ls 0) σ.inodes σ.blocks := (hz.block t (lt_of_block HTU.out)).trans HTU.out
          obtain ⟨bv, hbv⟩ : ∃ bv, bv = IntKind.i64.wrap (σ.blocks - (roomL (p.map (·.1)) - roomL ((cutP N p).map (·.1)))) := ⟨_, rfl⟩
          rw [← hbv]
          have HTZ : Hid (TbAt (World.setCell Wz ⟨t, 5, none⟩ (.int .i64 bv)) t σ.G σ.I σ.D (locL Ls 0) σ.inodes bv) := Hid.mk (by unfold TbAt; rw [blk_set htz]; rfl)
          have HOZ : Hid (Only (fun k => k = t ∨ k ∈ b :: m :: r) w (World.setCell Wz ⟨t, 5, none⟩ (.int .i64 bv))) := Hid.mk ((((Only.of_new (fun k => k = t ∨ k ∈ b :: m :: r) HB2.out).trans HUO.out (fun i hi => .inl (.inr hi))).trans (Only.of_new (fun _ => False) hz) (fun _ h => h.elim)).setCell (p := ⟨t, 5, none⟩) (.inl (.inl rfl)) _)
          have hbx : (World.setCell Wz ⟨t, 5, none⟩ (.int .i64 bv)).heap[w.heap.size + 1]? = some (.cells #[.int .i64 0, .slice none 0 0, .int .i64 0, .int .i64 0, .int .i64 0, .slice none 0 0, .int .i64 0] 37 (0, 0)) := (Below.heap_setCell _ _ _ _ (by have := HTT.out.1; show w.heap.size + 1 ≠ t; omega)).trans ((hz.block _ (lt_of_block HBX.out)).trans HBX.out)
          have HPE : Hid (PtAt (World.setCell Wz ⟨t, 5, none⟩ (.int .i64 bv)) m (putR x q pz rz) (cutP N p)) := Hid.mk (HUP.out.kept (fun q hq => (Below.heap_setCell _ _ _ _ (by
            show q ≠ t
            rcases List.mem_cons.1 hq with h | h
            · exact fun e => HTT.out.2 (by rw [← e, h]; simp)
            · exact fun e => HTT.out.2 (by rw [← e]; simp [HSC.out q h]))).trans (hz.block q (by
            rcases List.mem_cons.1 hq with h | h
            · rw [h]; exact HUP.out.blocks.lt
            · have h1 := (HRB.out q (HSC.out q h)).2.2.2
              have h2 := HUO.out.size
              have h3 := HB2.out.size
              omega))))
          have HNE : Hid ((World.setCell Wz ⟨t, 5, none⟩ (.int .i64 bv)).heap[b]? = some (.cells #[.int .i64 1, .int .i64 l, .int .i64 N, .map (some m), .slice none 0 0, .map none] 102 (0, 0))) := Hid.mk ((Below.heap_setCell _ _ _ _ (by show b ≠ t; exact fun e => HTT.out.2 (by rw [← e]; simp))).trans ((hz.block b (lt_of_block HUN.out)).trans HUN.out))
          generalize World.setCell Wz ⟨t, 5, none⟩ _ = E at *
          have BX := Hid.mk hbx
          have z0 := blk_cell hbx 0
          have y0 := blk_free hbx 0
          have z1 := blk_cell hbx 1
          have y1 := blk_free hbx 1
          have z2 := blk_cell hbx 2
          have y2 := blk_free hbx 2
          have z3 := blk_cell hbx 3
          have y3 := blk_free hbx 3
          have z4 := blk_cell hbx 4
          have y4 := blk_free hbx 4
          have z5 := blk_cell hbx 5
          have y5 := blk_free hbx 5
          have z6 := blk_cell hbx 6
          have y6 := blk_free hbx 6
          simp at z0 z1 z2 z3 z4 z5 z6
          clear hz htz hbx hwr
          go_wp2_with fail
          have hb7 := (box7 BX.out (.int .i64 0) (.slice none 0 0) (.int .i64 0) (.int .i64 0) (.int .i64 0) (.slice none 0 0) (.int .i64 0)).1
          have ho7 := (box7 BX.out (.int .i64 0) (.slice none 0 0) (.int .i64 0) (.int .i64 0) (.int .i64 0) (.slice none 0 0) (.int .i64 0)).2
          obtain ⟨Y, hY⟩ : ∃ Y, Y = (((((((E.setCell ⟨w.heap.size + 1, 0, none⟩ (.int .i64 0)).setCell ⟨w.heap.size + 1, 1, none⟩ (.slice none 0 0)).setCell ⟨w.heap.size + 1, 2, none⟩ (.int .i64 0)).setCell ⟨w.heap.size + 1, 3, none⟩ (.int .i64 0)).setCell ⟨w.heap.size + 1, 4, none⟩ (.int .i64 0)).setCell ⟨w.heap.size + 1, 5, none⟩ (.slice none 0 0)).setCell ⟨w.heap.size + 1, 6, none⟩ (.int .i64 0)) := ⟨_, rfl⟩
          rw [← hY] at hb7 ho7 ⊢
          have k0 := blk_cell hb7 0
          have k1 := blk_cell hb7 1
          have k2 := blk_cell hb7 2
          have k3 := blk_cell hb7 3
          have k4 := blk_cell hb7 4
          have k5 := blk_cell hb7 5
          have k6 := blk_cell hb7 6
          simp at k0 k1 k2 k3 k4 k5 k6
          refine bodyPost_ret (v := errV 0) ?_ rfl ⟨rfl, ?_⟩
          · simp [results, Tryz.results51, go_sem, errV, k0, k1, k2, k3, k4, k5, k6]
          · have hq := HQ.out
            have hlow : ∀ i, i < w.heap.size → i ≠ w.heap.size + 1 := fun i h => by omega
            have hrl : ∀ i ∈ b :: m :: (putR x q pz rz), i < w.heap.size := fun i hi => by
              rcases List.mem_cons.1 hi with h | h
              · have := HMB.out; omega
              · rcases List.mem_cons.1 h with h | h
                · have := HMB.out; omega
                · exact (HRB.out i (HSC.out i h)).2.2.2
            have hk7 : ∀ i, i < w.heap.size → i < E.heap.size → Y.heap[i]? = E.heap[i]? := fun i h hE => ho7.block i hE (hlow i h)
            have hsz := HOZ.out.size
            have hOY : Only (fun k => k = t ∨ k ∈ (Lay.file b m r).foot) w Y := HOZ.out.trans ho7 (fun i hi => .inr (by omega))
            have hPY : PtAt Y m (putR x q pz rz) (cutP N p) := HPE.out.kept (fun q hq => hk7 q (hrl q (List.mem_cons_of_mem _ hq)) (by have := hrl q (List.mem_cons_of_mem _ hq); omega))
            have hNY := (hk7 b HMB.out.2.1 (by have := HMB.out.2.1; omega)).trans HNE.out
            have hfin := HT.out.turn (L' := .file b m (putR x q pz rz)) (n' := .file l N (cutP N p)) hq.1 rfl hOY (i' := σ.inodes) (b' := bv) ((hk7 t HTT.out.1 (by have := HTT.out.1; omega)).trans HTZ.out) (hPY.file hNY) (fun q hq => .inl (by
              simp only [Lay.foot, List.mem_cons] at hq ⊢
              rcases hq with h | h | h
              · exact .inl h
              · exact .inr (.inl h)
              · exact .inr (.inr (HSC.out q h)))) (List.nodup_cons.2 ⟨fun h => by
                rcases List.mem_cons.1 h with h | h
                · exact HMB.out.2.2 h
                · exact (HRB.out _ (HSC.out _ h)).2.1 rfl, hPY.nd⟩) (fun q hq => by cases hq) (fun e => by
              subst e
              obtain ⟨l1, z1, s1, hr⟩ := HT.out.root
              have := hq.2.1
              rw [hr] at this
              cases this)
            refine ⟨⟨Ls.set j (.file b m (putR x q pz rz)), ?_, fun q hq2 => ?_⟩, hOY.mono (fun i _ hi => ?_)⟩
            · unfold truncT
              rw [hq.2.2.2.2, modify_set hq.2.1]
              rw [hbv, wrap_eq] at hfin
              exact hfin
            · rcases List.mem_cons.1 hq2 with rfl | hq2
              · exact .inl (by simp [feet])
              · obtain ⟨L, hL, hq3⟩ := List.mem_flatMap.1 hq2
                rcases List.mem_or_eq_of_mem_set hL with h | h
                · exact .inl (List.mem_cons_of_mem _ (List.mem_flatMap.2 ⟨L, h, hq3⟩))
                · subst h
                  refine .inl (mem_feet hq.1 ?_)
                  simp only [Lay.foot, List.mem_cons] at hq3 ⊢
                  rcases hq3 with h | h | h
                  · exact .inl h
                  · exact .inr (.inl h)
                  · exact .inr (.inr (HSC.out q h))
            · rcases hi with h | h
              · rw [h]; simp [feet]
              · exact mem_feet hq.1 h
end Go.Proofs.YtehaoeclnmelhaaGreat
namespace Go.Proofs.YtehaoeclnmelhaaGreat
open Go Go.Proofs Go.RowKit Go.Shelf Go.Sort

theorem getP_some {p : List (Int × List Int)} {x : Int} {d : List Int} (h : getP p x = some d) : (x, d) ∈ p := by
  unfold getP at h
  cases hf : p.find? (fun q => decide (q.1 = x)) with
  | none => rw [hf] at h; cases h
  | some q =>
    rw [hf] at h
    have h1 := List.mem_of_find?_eq_some hf
    have h2 := List.find?_some hf
    simp at h h2
    rw [← h, ← h2]
    exact h1
theorem cut_keys {c : Int} {p : List (Int × List Int)} {y : Int} (h : y ∈ (cutP c p).map (·.1)) : y ∈ p.map (·.1) := by
  unfold cutP at h
  split at h
  · obtain ⟨q, hq, rfl⟩ := List.mem_map.1 h
    exact List.mem_map.2 ⟨q, (List.mem_filter.1 hq).1, rfl⟩
  · next d hd =>
    rw [keys_put] at h
    rcases h with rfl | h
    · exact List.mem_map.2 ⟨_, (List.mem_filter.1 (getP_some hd)).1, rfl⟩
    · obtain ⟨q, hq, rfl⟩ := List.mem_map.1 h
      exact List.mem_map.2 ⟨q, (List.mem_filter.1 hq).1, rfl⟩
theorem cut_ok {c : Int} {p : List (Int × List Int)} (h : partsOk p) : partsOk (cutP c p) := by
  have hf : partsOk (p.filter (fun q => decide (q.1 * 1024 < c))) := ⟨h.1.sublist (List.Sublist.map _ List.filter_sublist), fun x hx => h.2 x (List.mem_filter.1 hx).1⟩
  unfold cutP
  split
  · exact hf
  · next d hd =>
    have := hf.2 _ (getP_some hd)
    exact put_ok hf this.1 this.2
theorem cut_full {c : Int} {p : List (Int × List Int)} (h : fullP p) : fullP (cutP c p) := by
  have hf : fullP (p.filter (fun q => decide (q.1 * 1024 < c))) := fun x d hx => by
    rw [getP_filter] at hx
    split at hx
    · exact h x d hx
    · cases hx
  unfold cutP
  split
  · exact hf
  · next d hd =>
    intro x e hx
    rw [getP_put] at hx
    split at hx
    · cases hx
      have := hf _ _ hd
      rw [length_splice _ _ _ (by simp [zeros]; omega)]
      exact this
    · exact hf x e hx
/-- What is left of a file that is cut. -/
def cutW (want : List Int) (c : Nat) : List Int := want.take c ++ zeros (c - want.length)
theorem cutW_len (want : List Int) (c : Nat) : (cutW want c).length = c := by
  unfold cutW
  simp [zeros]
  omega
theorem cutW_get (want : List Int) (c i : Nat) : (cutW want c).getD i 0 = if i < c then want.getD i 0 else 0 := by
  unfold cutW
  simp only [List.getD_eq_getElem?_getD, List.getElem?_append, List.length_take]
  by_cases hi : i < min c want.length
  · rw [if_pos hi, if_pos (by omega), List.getElem?_take_of_lt (by omega)]
  · rw [if_neg hi]
    by_cases hc : i < c
    · rw [if_pos hc, List.getElem?_eq_none (l := want) (by omega)]
      simp only [zeros, List.getElem?_replicate]
      split <;> rfl
    · rw [if_neg hc]
      simp only [zeros, List.getElem?_replicate]
      split <;> rfl
theorem ws_trunc {K : Int} {want : List Int} {B z D : Int} {p : List (Int × List Int)} (h : WsOk K want B z p) (c : Nat) (hK : 0 ≤ K) (hK2 : K ≤ 264) :
    ∃ B' p', truncT (wsT D B z p) c 1 = wsT D B' c p' ∧ WsOk K (cutW want c) B' c p' := by
  refine ⟨1 + roomL ((cutP c p).map (·.1)), cutP c p, ?_, ⟨by rw [cutW_len], cut_ok h.ok, cut_full h.full, fun y hy => h.keys y (cut_keys hy), fun i => ?_, rfl⟩⟩
  · have h1 := h.room
    have h2 := h.low hK hK2
    have h3 := room_bound ((cutP c p).map (·.1))
    have h4 : ((cutP (c : Int) p).length : Int) ≤ K := by
      have := sorted_len ((cutP (c : Int) p).map (·.1)) 0 K (cut_ok h.ok).1 (fun y hy => h.keys y (cut_keys hy)) hK
      simp at this
      omega
    simp only [List.length_map] at h3
    unfold truncT wsT
    simp only [nodeAt, List.getD, List.getElem?_cons_succ, List.getElem?_cons_zero, Option.getD_some, Nd.parts, Nd.nos, List.modify_succ_cons, List.modify_zero_cons]
    congr 1
    unfold w64 wrap64
    omega
  · rw [cut_byte c h.full, cutW_get, h.bytes]
    by_cases hi : i < c
    · rw [if_pos (by omega), if_pos hi]
    · rw [if_neg (by omega), if_neg hi]
theorem doo_trunc (w : World) (t : Nat) (σ : Tr) (Ls : List Lay) (hT : TrAt w t σ Ls) (hOk : ∀ x ∈ σ.nodes, x.Ok) (s s2 : ByteArray) (off N : Int) (dp : Option Addr) (dl dc : Nat) (hs : s.size ≤ 16777216) (j : Nat) (he : fileE σ.nodes (ofS s) = (some j, 0)) (hj : j < σ.nodes.length) (hjk : (nodeAt σ.nodes j).isDir = false) (h0 : 0 ≤ N) (h1 : N ≤ 67379200) :
    Calls Tryz.prog 13 #[ptrV t, callV 9 s s2 off N (.slice dp dl dc)] w fun e w' => e = .returned (errV 0) ∧ Step (fun k => k ∈ feet t Ls) w t w' (truncT σ N j) := by
  refine (do_trunc w t (truncT σ N j) Ls s s2 off N dp dl dc 0 0 0 0 0 (fun x y _ => x = .slice none 0 0 ∧ y = .slice none 0 0) (fun k hk => hT.lt k hk) (fun _ _ _ _ h _ => h) (Hid.mk (fun W hB _ => (trunc_main W t σ Ls (hT.below rfl hB) hOk 9 s s2 off N dp dl dc hs j he hj hjk h0 h1).mono (fun e w' hh => ⟨none, 0, 0, none, 0, 0, hh.1, hh.2, rfl, rfl⟩)))).mono ?_
  rintro e w' ⟨a1, n1, c1, a5, n5, c5, rfl, hst, h1, h2⟩
  cases h1; cases h2
  exact ⟨rfl, hst⟩
variable {w W : World} {t : Nat} {v : Value} {xs : List Int} {B : Nat → Prop}
theorem ws_do6 {K : Int} {want : List Int} {Bk z D B' : Int} {p p' : List (Int × List Int)} (h : WsW w W t (wsT D Bk z p) v xs B) (hp : WsOk K want Bk z p) {c : Nat} (hw : truncT (wsT D Bk z p) c 1 = wsT D B' c p') (hK : 0 ≤ K) (hK2 : K ≤ 65800) (hc : c ≤ 67379200) :
    Calls Tryz.prog 13 #[ptrV t, callV 9 wsP ⟨#[]⟩ 0 c (.slice none 0 0)] W fun e w' => e = .returned (errV 0) ∧ WsW w w' t (wsT D B' c p') v xs B ∧ (∀ k, B k → w'.heap[k]? = W.heap[k]?) ∧ W.heap.size ≤ w'.heap.size :=
  wsw_do h (fun Ls hT hf => by
    have := doo_trunc W t _ Ls hT (hp.good hK hK2) wsP ⟨#[]⟩ 0 c none 0 0 (by decide) 1 ws_file (show 1 < 2 by decide) rfl (by omega) (by omega)
    rw [hw] at this
    exact this)
/-- A write of the row itself. -/
theorem ws_do7 {K : Int} {want : List Int} {Bk z D B' z' : Int} {p p' : List (Int × List Int)} {g c : Nat} (h : WsW w W t (wsT D Bk z p) (.slice (some ⟨g, 0, none⟩) xs.length c) xs B) (hp : WsOk K want Bk z p) {off : Nat} (hw : writeT (wsT D Bk z p) off xs 1 = wsT D B' z' p') (h0 : 0 < xs.length) (h1 : xs.length ≤ 8192) (hk : (off : Int) + xs.length ≤ K * 1024) (hK : 0 ≤ K) (hK2 : K ≤ 264) (hD : blkI 1 1 D = D) (hI : inoI 1 1 D = 16) (hDK : K + 2 ≤ D) :
    Calls Tryz.prog 13 #[ptrV t, callV 8 wsP ⟨#[]⟩ off 0 (.slice (some ⟨g, 0, none⟩) xs.length c)] W fun e w' => e = .returned (.agg #[.int .i64 0, .slice none 0 0, .int .i64 0, .int .i64 0, .int .i64 0, .slice none 0 0, .int .i64 xs.length]) ∧ WsW w w' t (wsT D B' z' p') (.slice (some ⟨g, 0, none⟩) xs.length c) xs B ∧ (∀ k, B k → w'.heap[k]? = W.heap[k]?) ∧ W.heap.size ≤ w'.heap.size := by
  have hlen := hp.len hK
  obtain ⟨ao, c2, hv, hc1, hc2, -, hb⟩ := h.val
  cases hv
  refine (own_doQ (Q := fun e _ => e = .returned (.agg #[.int .i64 0, .slice none 0 0, .int .i64 0, .int .i64 0, .int .i64 0, .slice none 0 0, .int .i64 xs.length])) h.own (fun k hk => hk.elim (fun e => (h.row.lt k e).2) (fun e => (h.lt k e).1)) (σ' := wsT D B' z' p') (fun Ls hT hf => ?_)).mono ?_
  · have hnf : g ∉ feet t Ls := fun hh => (hf g hh).2 (.inl rfl)
    have := doo_write W t _ Ls hT (hp.good hK (by omega)) wsP ⟨#[]⟩ off 0 ⟨g, 0, none⟩ xs.length c xs (by decide) 1 ws_file (show 1 < 2 by decide) rfl (by omega) h0 h1 hc1 hc2 (by omega) hb hnf (by show p.length ≤ _; omega) (ws_fit hp h0 hk hK hK2 hD hI hDK)
    rw [hw] at this
    exact this
  · rintro e w' ⟨rfl, h1, h2, h3⟩
    exact ⟨rfl, ⟨owns_kept h.row (fun k hk => h2 k (.inl hk)), h1, fun k hk => ⟨Nat.lt_of_lt_of_le (h.lt k hk).1 h3, (h.lt k hk).2⟩⟩, fun k hk => h2 k (.inr hk), h3⟩
/-- b[i] = y. -/
theorem wsw_store {σ : Tr} {g c n : Nat} (hn : xs.length = n) (h : WsW w W t σ (.slice (some ⟨g, 0, none⟩) n c) xs B) (i : Nat) (y : Int) :
    WsW w (W.setCell ⟨g, i, none⟩ (.int .u8 y)) t σ (.slice (some ⟨g, 0, none⟩) n c) (xs.set i y) B := by
  subst hn
  obtain ⟨hO, Ls, hT, hf⟩ := h.own
  have ho : Only (fun k => k = g) W (W.setCell ⟨g, i, none⟩ (.int .u8 y)) := (Only.refl (fun k => k = g) W).setCell (p := ⟨g, i, none⟩) (.inl rfl) _
  have hb : ∀ k, k = g → Value.ownBlock (.slice (some ⟨g, 0, none⟩) xs.length c) = some k := fun k e => by rw [e]; rfl
  refine ⟨?_, ⟨?_, Ls, hT.kept (fun k hkf => ho.block k (hT.lt k hkf) (fun e => (hf k hkf).2 (.inl (hb k e)))), hf⟩, fun k e => ⟨Nat.lt_of_lt_of_le (h.lt k e).1 ho.size, (h.lt k e).2⟩⟩
  · have := (h.row.stored i (.int .u8 y)).1
    rw [List.length_set]
    rw [show (By xs).set i (.int .u8 y) = By (xs.set i y) by simp [By, List.map_set]] at this
    exact this
  · exact hO.trans (ho.below hO.size (fun k e => (h.row.lt k (hb k e)).1))
/-- b := make([]byte, n). -/
theorem wsw_make {σ : Tr} (h : OwnT w W t σ (fun _ => False)) (n : Nat) (hn : n ≤ 16777216) : WsW w (W.alloc (.cells (By (zeros n)).toArray 5)) t σ (.slice (some ⟨W.heap.size, 0, none⟩) n n) (zeros n) (fun _ => False) := by
  have hb := h.box (.cells (By (zeros n)).toArray 5)
  refine ⟨?_, hb.less (fun k hk => ?_), fun k hk => hk.elim⟩
  · rw [show (zeros n).length = n from zeros_length n]
    have hl : (By (zeros n)).length = n := by rw [By_length, zeros_length]
    exact ⟨by rw [hl, Nat.mul_one], .inr ⟨W.heap.size, n, _, rfl, h.below.size, blk_new W _, Nat.le_refl _, by unfold maxLen; omega, by simpa using hl, by rw [List.take_of_length_le (by simp [hl])]⟩⟩
  · rcases hk with hk | hk
    · right; simpa [Value.ownBlock] using hk.symm
    · exact hk.elim
end Go.Proofs.YtehaoeclnmelhaaGreat
namespace Go.Proofs.YtehaoeclnmelhaaGreat
open Go Go.Proofs Go.RowKit Go.Shelf Go.Sort

def trB (S k : Nat) : List Int := (List.range k).map (fun i : Nat => ((i % 250 + 1 : Nat) : Int)) ++ zeros (S - k)
theorem trB_len {S k : Nat} (h : k ≤ S) : (trB S k).length = S := by
  unfold trB
  simp [zeros]
  omega
theorem trB_set {S k : Nat} (h : k < S) : (trB S k).set k ((k % 250 : Nat) + 1 : Int) = trB S (k + 1) := by
  unfold trB
  obtain ⟨m, hm⟩ : ∃ m, S - k = m + 1 := ⟨S - k - 1, by omega⟩
  rw [hm, show S - (k + 1) = m from by omega, List.set_append_right _ _ (by simp)]
  simp [zeros, List.replicate_succ, List.range_succ]
variable {w W : World} {t : Nat} {xs : List Int} {B : Nat → Prop}
theorem WsW.cell {σ : Tr} {g c n : Nat} (h : WsW w W t σ (.slice (some ⟨g, 0, none⟩) n c) xs B) (hn : xs.length = n) (i : Nat) (hi : i < n) : W.cell? ⟨g, i, none⟩ = some (.int .u8 (xs.getD i 0)) ∧ W.frozen? ⟨g, i, none⟩ = false := by
  subst hn
  rcases h.row.2 with ⟨hn, _⟩ | ⟨g', cap, cur, hv, h1, h2, h3⟩
  · cases hn
  · cases hv
    exact ⟨by rw [h.row.cellAt i (by omega), By_get _ i hi], blk_free h2 i⟩
def go_min (A : Nat) : Int := if (A : Int) < 8192 then (A : Int) else 8192
theorem lmin_any (w : World) (x y z : Int) (h : z = if x < y then x else y) : Calls Tryz.prog 27 #[.int .i64 x, .int .i64 y] w fun e w' => e = .returned (.int .i64 z) ∧ w' = w := by
  by_cases hxy : x < y
  · rw [h, if_pos hxy]; exact lmin_lt w x y hxy
  · rw [h, if_neg hxy]; exact lmin_ge w x y hxy
theorem want_nil (row : List Int) : wantW [] 0 row = row := by
  refine getD_eq (by rw [wantW_len]; simp) (fun i hi => ?_)
  rw [wantW_len] at hi
  simp at hi
  rw [wantW_get, if_pos (by omega)]
  rfl
theorem tc_write (row : List Int) (hl : row.length ≤ 8192) : ∃ B1 z1 p1, WsOk 8 row B1 z1 p1 ∧ ∀ (w W : World) (t g c : Nat) (B : Nat → Prop), WsW w W t (wsT 100 1 0 []) (.slice (some ⟨g, 0, none⟩) row.length c) row B → Calls Tryz.prog 13 #[ptrV t, callV 8 wsP ⟨#[]⟩ 0 0 (.slice (some ⟨g, 0, none⟩) row.length c)] W fun e w' => e = .returned (.agg #[.int .i64 0, .slice none 0 0, .int .i64 0, .int .i64 0, .int .i64 0, .slice none 0 0, .int .i64 row.length]) ∧ WsW w w' t (wsT 100 B1 z1 p1) (.slice (some ⟨g, 0, none⟩) row.length c) row B ∧ (∀ k, B k → w'.heap[k]? = W.heap[k]?) ∧ W.heap.size ≤ w'.heap.size := by
  by_cases h0 : row.length = 0
  · obtain rfl : row = [] := List.eq_nil_of_length_eq_zero h0
    exact ⟨1, 0, [], ws_none 8, fun w W t g c B h => ws_do5 (off := 0) h (by omega) (some ⟨g, 0, none⟩) 0 c rfl⟩
  · obtain ⟨B', z', p', e1, e2, -⟩ := ws_write (D := 100) (ws_none 8) (off := 0) (xs := row) (by omega) (by omega) (by decide) (by decide)
    rw [want_nil] at e2
    exact ⟨B', z', p', e2, fun w W t g c B h => ws_do7 (off := 0) h (ws_none 8) e1 (by omega) hl (by have := hl; simp; omega) (by decide) (by decide) ws_good100.1 ws_good100.2 (by decide)⟩
theorem tc_read {want : List Int} {Bk z D : Int} {p : List (Int × List Int)} {v : Value} (h : WsW w W t (wsT D Bk z p) v xs B) (hp : WsOk 8 want Bk z p) (hz : want.length ≤ 67379200) (L : Nat) (hL : L = min 8192 want.length) :
    Calls Tryz.prog 13 #[ptrV t, callV 7 wsP ⟨#[]⟩ 0 8192 (.slice none 0 0)] W fun e w' => ∃ g, e = .returned (readV g L) ∧ RAt w' g (want.take L) ∧ WsW w w' t (wsT D Bk z p) v xs (fun k => B k ∨ k = g) ∧ (∀ k, B k → w'.heap[k]? = W.heap[k]?) ∧ W.heap.size ≤ w'.heap.size :=
  ws_do3 (off := 0) (n := 8192) h hp (by decide) (by decide) (by decide) (by decide) hz L (by omega)
/-- What is read behind both cuts. -/
theorem tc_val (row : List Int) (C A L j : Nat) (hL : L = min 8192 A) (hj : j < L) : ((cutW (cutW row C) A).take L).getD j 0 = if j < row.length ∧ j < C then row.getD j 0 else 0 := by
  have h1 : ((cutW (cutW row C) A).take L).getD j 0 = (cutW (cutW row C) A).getD j 0 := by
    simp only [List.getD_eq_getElem?_getD, List.getElem?_take, if_pos hj]
  rw [h1, cutW_get, cutW_get, if_pos (by omega)]
  by_cases hc : j < C
  · rw [if_pos hc]
    by_cases hr : j < row.length
    · rw [if_pos ⟨hr, hc⟩]
    · rw [if_neg (fun h => hr h.1)]
      simp only [List.getD_eq_getElem?_getD, List.getElem?_eq_none (Nat.le_of_not_lt hr), Option.getD_none]
  · rw [if_neg hc, if_neg (fun h => hc h.2)]
set_option maxRecDepth 100000 in
set_option maxHeartbeats 4000000 in
theorem truncs_law (w : World) (sz ct ag : Int) : Calls Tryz.prog 8 #[.int .i64 sz, .int .i64 ct, .int .i64 ag] w fun e w' => e = .returned (.bool true) ∧ Below w.heap.size w w' := by
  have HA := Hid.mk (alive_any w)
  by_cases c1 : sz < 0
  · go_enter Tryz.func8, Tryz.ntmps8
    go_wp2_with (go_at_call 9; refine HA.out.mono ?_; rintro e W0 ⟨rfl, hw⟩; have HB := Hid.mk hw; clear hw)
    go_ret
    exact ⟨rfl, HB.out⟩
  by_cases c2 : (8192 : Int) < sz
  · go_enter Tryz.func8, Tryz.ntmps8
    go_wp2_with (go_at_call 9; refine HA.out.mono ?_; rintro e W0 ⟨rfl, hw⟩; have HB := Hid.mk hw; clear hw)
    go_ret
    exact ⟨rfl, HB.out⟩
  by_cases c3 : ct < 0
  · go_enter Tryz.func8, Tryz.ntmps8
    go_wp2_with (go_at_call 9; refine HA.out.mono ?_; rintro e W0 ⟨rfl, hw⟩; have HB := Hid.mk hw; clear hw)
    go_ret
    exact ⟨rfl, HB.out⟩
  by_cases c4 : (20000 : Int) < ct
  · go_enter Tryz.func8, Tryz.ntmps8
    go_wp2_with (go_at_call 9; refine HA.out.mono ?_; rintro e W0 ⟨rfl, hw⟩; have HB := Hid.mk hw; clear hw)
    go_ret
    exact ⟨rfl, HB.out⟩
  by_cases c5 : ag < 0
  · go_enter Tryz.func8, Tryz.ntmps8
    go_wp2_with (go_at_call 9; refine HA.out.mono ?_; rintro e W0 ⟨rfl, hw⟩; have HB := Hid.mk hw; clear hw)
    go_ret
    exact ⟨rfl, HB.out⟩
  by_cases c6 : (20000 : Int) < ag
  · go_enter Tryz.func8, Tryz.ntmps8
    go_wp2_with (go_at_call 9; refine HA.out.mono ?_; rintro e W0 ⟨rfl, hw⟩; have HB := Hid.mk hw; clear hw)
    go_ret
    exact ⟨rfl, HB.out⟩
  obtain ⟨S, rfl⟩ : ∃ k : Nat, sz = k := ⟨sz.toNat, by omega⟩
  obtain ⟨C, rfl⟩ : ∃ k : Nat, ct = k := ⟨ct.toNat, by omega⟩
  obtain ⟨A, rfl⟩ : ∃ k : Nat, ag = k := ⟨ag.toNat, by omega⟩
  have HD : Hid (S ≤ 8192 ∧ C ≤ 20000 ∧ A ≤ 20000) := Hid.mk (by omega)
  go_enter Tryz.func8, Tryz.ntmps8
  go_upto_region 6 with (first
    | (go_at_call 9; refine HA.out.mono ?_; rintro e W0 ⟨rfl, hw⟩; have HB := Hid.mk hw; clear hw)
    | (go_at_call 24; refine (lG_any _ _).mono ?_; rintro e W1 ⟨rfl, hB1⟩; have B1 := Hid.mk (HB.out.trans (hB1.mono HB.out.size)); clear hB1)
    | (go_at_call 11; refine (new_any _ 1 1 100).mono ?_; rintro e W2 ⟨rfl, hT2, hB2⟩; have O0 : Hid (OwnT w W2 (W1.heap.size + 4) (newT 1 1 100) (fun _ => False)) := Hid.mk ⟨B1.out.trans (hB2.mono B1.out.size), _, hT2, fun k hk => ⟨by simp [feet, Lay.foot] at hk; have := B1.out.size; omega, fun h => h⟩⟩; unfold ptrV; clear hT2 hB2)
    | (go_at_call 25; refine (lC_any _ _ _).mono ?_; rintro e W3 ⟨rfl, hB3⟩; have O1 := Hid.mk (O0.out.then hB3); unfold callV; clear hB3)
    | (go_at_call 13; refine (ws_do1 100 ws_first100 O1.out (fun k h => h.elim)).mono ?_; rintro e W4 ⟨rfl, hO, -, -⟩; have O2 := Hid.mk hO; unfold errV; clear hO))
  generalize W1.heap.size + 4 = t at *
  clear HB B1 O0 O1
  have hmk := Hid.mk (make_run W4 S (by have := HD.out; omega))
  have HM := Hid.mk (wsw_make O2.out S (by have := HD.out; omega))
  clear O2
  go_upto_region 7 with (refine wpList_knownR (by kernel_rfl) (.slice (some ⟨W4.heap.size, 0, none⟩) S S) _ (exec_mk (l := .tmp 51) (c := .tmp 51) rfl (by kernel_rfl) (by kernel_rfl) hmk.out) ?_; simp only [Act.put, List.setIfInBounds_toArray, List.set_cons_zero, List.set_cons_succ])
  clear hmk
  generalize W4.heap.size = g at *
  go_wp2_with fail
  go_loopw [10] (fun i wr => ∃ k : Nat, k ≤ S ∧ i = .int .i64 k ∧ WsW w wr t (wsT 100 1 0 []) (.slice (some ⟨g, 0, none⟩) S S) (trB S k) (fun _ => False)) (fun i _ => S - (intOf i).toNat)
  case atStart => exact ⟨0, by omega, rfl, by rw [show trB S 0 = zeros S from by simp [trB]]; exact HM.out⟩
  case round =>
    obtain ⟨k, hk, rfl, hW⟩ := hrel
    have WK := Hid.mk hW
    clear hW HM c1 c2 c3 c4 c5 c6
    by_cases hlt : k < S
    · have hi : (k : Int) < (S : Int) := by omega
      have hw1 : IntKind.i64.wrap ((k : Int) + 1) = (k : Int) + 1 := by rw [IntKind.wrap_i64]; have := HD.out; omega
      obtain ⟨r, hr⟩ : ∃ r : Nat, r = k % 250 := ⟨_, rfl⟩
      have hr2 : r < 250 := by omega
      have ht : Int.tmod (k : Int) 250 = (r : Int) := by rw [Int.tmod_eq_emod_of_nonneg (by omega)]; omega
      have hw2 : IntKind.i64.wrap (r : Int) = (r : Int) := by rw [IntKind.wrap_i64]; omega
      have hw3 : IntKind.i64.wrap ((r : Int) + 1) = (r : Int) + 1 := by rw [IntKind.wrap_i64]; omega
      have hw4 : IntKind.u8.wrap ((r : Int) + 1) = (r : Int) + 1 := by rw [show IntKind.u8.wrap ((r : Int) + 1) = ((r : Int) + 1) % 256 from rfl]; omega
      obtain ⟨hc, hf⟩ := WK.out.cell (trB_len hk) k hlt
      have HS := wsw_store (trB_len hk) WK.out k ((r : Int) + 1)
      rw [hr, trB_set hlt, ← hr] at HS
      have HS := Hid.mk HS
      have HLT := Hid.mk hlt
      clear hr hlt hk hr2
      go_wp2_with fail
      go_roundw
      case rel => exact ⟨k + 1, by have := HLT.out; omega, by go_num, HS.out⟩
      case measure => have := HLT.out; simp [intOf]; omega
    · obtain rfl : k = S := by omega
      have hi2 : ¬ (k : Int) < (k : Int) := by omega
      obtain ⟨row, hrow⟩ : ∃ row, row = trB k k := ⟨_, rfl⟩
      have hrl : row.length = k := by rw [hrow]; exact trB_len (Nat.le_refl k)
      rw [← hrow] at WK
      clear hrow hlt hk
      subst hrl
      obtain ⟨B1, z1, p1, w1, hwr⟩ := tc_write row HD.out.1
      obtain ⟨B2, p2, t1, w2⟩ := ws_trunc (D := 100) w1 C (by decide) (by decide)
      obtain ⟨B3, p3, t2, w3⟩ := ws_trunc (D := 100) w2 A (by decide) (by decide)
      have HWR := Hid.mk hwr
      have H1 := Hid.mk w1
      have H2 := Hid.mk w2
      have H3 := Hid.mk w3
      have T1 := Hid.mk t1
      have T2 := Hid.mk t2
      clear hwr w1 w2 w3 t1 t2
      go_upto_region 12 with (first
        | (go_at_call 26; refine (lW_any2 _ _ _ _ _ _).mono ?_; rintro e W5 ⟨rfl, hB5⟩; have O3 := Hid.mk (WK.out.then hB5); unfold callV; clear hB5 WK)
        | (go_at_call 13; refine (HWR.out _ _ _ _ _ _ O3.out).mono ?_; rintro e W6 ⟨rfl, hO, -, -⟩; have O4 := Hid.mk hO; clear hO O3))
      clear HWR
      go_upto_region 13 with (go_at_call 13; refine (ws_do6 O4.out H1.out T1.out (by decide) (by decide) (by have := HD.out; omega)).mono ?_; rintro e W7 ⟨rfl, hO, -, -⟩; have O5 := Hid.mk (hO.box (.cells #[.int .i64 0, .slice none 0 0, .int .i64 0, .int .i64 0, .int .i64 0, .slice none 0 0, .int .i64 0] 37)); have q5 := Hid.mk (blk_new W7 (.cells #[.int .i64 0, .slice none 0 0, .int .i64 0, .int .i64 0, .int .i64 0, .slice none 0 0, .int .i64 0] 37)); unfold errV; clear hO O4)
      go_upto_region 14 with (go_at_call 13; refine (ws_do6 O5.out H2.out T2.out (by decide) (by decide) (by have := HD.out; omega)).mono ?_; rintro e W8 ⟨rfl, hO, hkp, -⟩; have O6 := Hid.mk (hO.box (.cells #[.int .i64 0, .slice none 0 0, .int .i64 0, .int .i64 0, .int .i64 0, .slice none 0 0, .int .i64 0] 37)); have e5 := (hkp _ (.inr rfl)).trans q5.out; have q6 := Hid.mk ((Below.heap_alloc W8 (.cells #[.int .i64 0, .slice none 0 0, .int .i64 0, .int .i64 0, .int .i64 0, .slice none 0 0, .int .i64 0] 37) _ (lt_of_block e5)).trans e5); have r6 := Hid.mk (blk_new W8 (.cells #[.int .i64 0, .slice none 0 0, .int .i64 0, .int .i64 0, .int .i64 0, .slice none 0 0, .int .i64 0] 37)); unfold errV; clear hO O5 hkp e5 q5)
      generalize W7.heap.size = b11 at *
      go_upto_region 15 with (first
        | (go_at_call 25; refine (lC_any _ _ _).mono ?_; rintro e W9 ⟨rfl, hB9⟩; have O7 := Hid.mk (O6.out.then hB9); have q7 := Hid.mk ((hB9.block _ (lt_of_block q6.out)).trans q6.out); have r7 := Hid.mk ((hB9.block _ (lt_of_block r6.out)).trans r6.out); unfold callV; clear hB9 O6 q6 r6)
        | (go_at_call 13; refine (ws_do4 O7.out).mono ?_; rintro e WA ⟨rfl, hO, hkp, -⟩; have O8 := Hid.mk (hO.box (.cells #[.int .i64 0, .slice none 0 0, .int .i64 1, .int .i64 (A : Int), .int .i64 1, .slice none 0 0, .int .i64 0] 37)); have e7 := (hkp _ (.inl (.inr rfl))).trans q7.out; have e8 := (hkp _ (.inr rfl)).trans r7.out; have q8 := Hid.mk ((Below.heap_alloc WA (.cells #[.int .i64 0, .slice none 0 0, .int .i64 1, .int .i64 (A : Int), .int .i64 1, .slice none 0 0, .int .i64 0] 37) _ (lt_of_block e7)).trans e7); have r8 := Hid.mk ((Below.heap_alloc WA (.cells #[.int .i64 0, .slice none 0 0, .int .i64 1, .int .i64 (A : Int), .int .i64 1, .slice none 0 0, .int .i64 0] 37) _ (lt_of_block e8)).trans e8); have s8 := Hid.mk (blk_new WA (.cells #[.int .i64 0, .slice none 0 0, .int .i64 1, .int .i64 (A : Int), .int .i64 1, .slice none 0 0, .int .i64 0] 37)); clear hO O7 hkp e7 e8 q7 r7))
      generalize W8.heap.size = b12 at *
      obtain ⟨Y8, hY8⟩ : ∃ Y8, Y8 = WA.alloc (.cells #[.int .i64 0, .slice none 0 0, .int .i64 1, .int .i64 (A : Int), .int .i64 1, .slice none 0 0, .int .i64 0] 37) := ⟨_, rfl⟩
      rw [← hY8] at O8 q8 r8 s8 ⊢
      generalize WA.heap.size = b13 at *
      have x0 := blk_cell q8.out 0
      have y0 := blk_cell r8.out 0
      have z0 := blk_cell s8.out 3
      simp at x0 y0 z0
      have O9 := Hid.mk (O8.out.less (B' := fun _ => False) (fun _ h => h.elim))
      clear hY8 q8 r8 s8 O8
      go_upto_region 17 with (go_at_call 23; refine (lnum_any _ _).mono ?_; rintro e W9 ⟨rfl, hw⟩; subst hw)
      clear x0 y0 z0
      obtain ⟨L, hL⟩ : ∃ L, L = min 8192 A := ⟨_, rfl⟩
      have HL := Hid.mk hL
      clear hL
      go_upto_region 18 with (first
        | (go_at_call 28; refine (lR_any _ _ _ _).mono ?_; rintro e WB ⟨rfl, hB9⟩; have OA := Hid.mk (O9.out.then hB9); unfold callV; clear hB9 O9)
        | (go_at_call 13; refine (tc_read OA.out H3.out (by rw [cutW_len]; have := HD.out; omega) L (by rw [cutW_len]; exact HL.out)).mono ?_; rintro e WC ⟨g2, rfl, hg, hO, -, -⟩; have OB := Hid.mk (hO.box (.cells #[.int .i64 0, .slice (some ⟨g2, 0, none⟩) L L, .int .i64 0, .int .i64 0, .int .i64 0, .slice none 0 0, .int .i64 0] 37)); have qB := Hid.mk (blk_new WC (.cells #[.int .i64 0, .slice (some ⟨g2, 0, none⟩) L L, .int .i64 0, .int .i64 0, .int .i64 0, .slice none 0 0, .int .i64 0] 37)); have GB : Hid ((WC.alloc (.cells #[.int .i64 0, .slice (some ⟨g2, 0, none⟩) L L, .int .i64 0, .int .i64 0, .int .i64 0, .slice none 0 0, .int .i64 0] 37)).heap[g2]? = _) := Hid.mk ((Below.heap_alloc _ _ _ (lt_of_block hg)).trans hg); unfold readV; clear hO hg OA))
      obtain ⟨Y9, hY9⟩ : ∃ Y9, Y9 = WC.alloc (.cells #[.int .i64 0, .slice (some ⟨g2, 0, none⟩) L L, .int .i64 0, .int .i64 0, .int .i64 0, .slice none 0 0, .int .i64 0] 37) := ⟨_, rfl⟩
      rw [← hY9] at OB qB GB ⊢
      generalize WC.heap.size = b14 at *
      have rc := blk_cell qB.out 1
      simp at rc
      have HLN : Hid ((cutW (cutW row C) A).length = A) := Hid.mk (cutW_len _ _)
      have HDA : Hid (∀ j, j < L → Y9.cell? ⟨g2, j, none⟩ = some (.int .u8 (if j < row.length ∧ j < C then row.getD j 0 else 0))) := Hid.mk (fun j hj => by
        rw [blk_cell GB.out j]
        simp only [List.getElem?_toArray]
        rw [By_get _ j (by rw [List.length_take, HLN.out]; have := HL.out; omega), tc_val row C A L j HL.out hj])
      have HRO : Hid (∀ j, j < row.length → Y9.cell? ⟨g, j, none⟩ = some (.int .u8 (row.getD j 0))) := Hid.mk (fun j hj => (OB.out.cell rfl j hj).1)
      have PB := Hid.mk OB.out.below
      clear hY9 OB qB GB H1 H2 H3 T1 T2
      have hmin : (go_min A = (L : Int)) := by unfold go_min; have := HL.out; split <;> omega
      go_upto_region 19 with (go_at_call 27; refine (lmin_any _ _ _ (go_min A) rfl).mono ?_; rintro e WD ⟨rfl, hw⟩; subst hw; rw [hmin])
      clear hmin
      go_wp2_with fail
      go_loopw [16] (fun i wr => wr = WD ∧ ∃ j : Nat, j ≤ L ∧ i = .int .i64 j) (fun i _ => L - (intOf i).toNat)
      case atStart => exact ⟨rfl, 0, by omega, rfl⟩
      case round =>
        obtain ⟨rfl, j, hj, rfl⟩ := hrel
        by_cases hlt : j < L
        · have hi : (j : Int) < (L : Int) := by omega
          have hw1 : IntKind.i64.wrap ((j : Int) + 1) = (j : Int) + 1 := by rw [IntKind.wrap_i64]; have := HL.out; omega
          have hda := HDA.out j hlt
          have HLT := Hid.mk hlt
          by_cases h1 : j < row.length
          · have h1i : (j : Int) < (row.length : Int) := by omega
            have hro := HRO.out j h1
            by_cases h2 : j < C
            · have h2i : (j : Int) < (C : Int) := by omega
              rw [if_pos ⟨h1, h2⟩] at hda
              generalize row.getD j 0 = x at *
              clear h1 h2 hlt hj
              go_wp2_with fail
              go_roundw
              case rel => exact ⟨trivial, j + 1, by have := HLT.out; omega, by go_num⟩
              case measure => have := HLT.out; simp [intOf]; omega
            · have h2i : ¬ (j : Int) < (C : Int) := by omega
              rw [if_neg (fun h => h2 h.2)] at hda
              clear h1 h2 hlt hj hro
              go_wp2_with fail
              go_roundw
              case rel => exact ⟨trivial, j + 1, by have := HLT.out; omega, by go_num⟩
              case measure => have := HLT.out; simp [intOf]; omega
          · have h1i : ¬ (j : Int) < (row.length : Int) := by omega
            rw [if_neg (fun h => h1 h.1)] at hda
            clear h1 hlt hj
            go_wp2_with fail
            go_roundw
            case rel => exact ⟨trivial, j + 1, by have := HLT.out; omega, by go_num⟩
            case measure => have := HLT.out; simp [intOf]; omega
        · obtain rfl : j = L := by omega
          have hi3 : ¬ (j : Int) < (j : Int) := by omega
          go_wp2_with fail
          go_ret
          exact ⟨rfl, PB.out⟩
end Go.Proofs.YtehaoeclnmelhaaGreat
