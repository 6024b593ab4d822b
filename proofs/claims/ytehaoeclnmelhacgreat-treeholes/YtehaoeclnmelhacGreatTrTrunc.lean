/-
  trunc: where nothing is wrong.
-/
import Derived.Test.YtehaoeclnmelhacGreatTrWrite
import Derived.Test.YtehaoeclnmelhacGreatTrCut
import Derived.Test.YtehaoeclnmelhacGreatPaHeld
namespace Go.Proofs.YtehaoeclnmelhacGreat
open Go Go.Proofs Go.RowKit Go.Shelf

theorem wp_region_but {P : Program} {ops : Array Oper} {Q : Exit → Act → World → Prop} {id : Nat} {a : Act} {w : World} (L : Nat) (S : World → Prop) (hm : P.follows .mixedOrders = true) (hS : S w.drew)
    (h : S w.drew → Butt P .any ops Q S L ops.size (Array.replicate ops.size false) a w.drew) : (Code.region id ops true).wp P Q a w := wp_region_any hm (any_of_butt _ _ _ _ (h hS))
theorem exec_storeI {ev : Operand → Value} {oi : Oper} {p x : Operand} {a : Addr} {n : Int} {v : Value} {W : World} (ho : oi.op = .store 3 p x) (hp : ev p = .pointer (some a)) (hx : ev x = .int .i64 n) (hc : W.cell? a = some v) (hf : W.frozen? a = false) : (execOp ev oi).run Tryz.prog W = .ok .skip (W.setCell a (.int .i64 n)) := by
  refine exec_store ho hp hx ?_
  simp [go_sem, hc, hf]
theorem owns_latB {w : World} {base : Nat} {v : Value} {n : Nat} {xs : List Int} (h : w.ownsRow base 3 1 v n (Iy xs)) : ∃ ao c, v = .slice ao n c ∧ LAt w ao n xs ∧ ∀ a, ao = some a → base ≤ a.block := by
  rcases Nat.eq_zero_or_pos n with rfl | hn
  · obtain ⟨h1, h2⟩ := h
    rw [Iy_length, Nat.zero_mul] at h1
    rcases h2 with ⟨rfl, _⟩ | ⟨g, cap, cur, rfl, hg, _⟩
    · exact ⟨none, 0, rfl, ⟨h1, fun h => absurd h (Nat.lt_irrefl 0)⟩, fun a e => by cases e⟩
    · exact ⟨_, cap, rfl, ⟨h1, fun h => absurd h (Nat.lt_irrefl 0)⟩, fun a e => by cases e; exact hg⟩
  · obtain ⟨g, c, e, hl, hg⟩ := owns_LAt h hn
    exact ⟨_, c, e, hl, fun a e => by cases e; exact hg⟩
/-- A tree of which a file is cut. -/
def truncT (σ : Tr) (c : Int) (j : Nat) : Tr :=
  { σ with blocks := w64 (σ.blocks - (roomL (nodeAt σ.nodes j).nos - roomL ((cutP c (nodeAt σ.nodes j).parts).map (·.1)))), nodes := σ.nodes.modify j (fun x => match x with | .file l _ p => .file l c (cutP c p) | .dir l z s => .dir l z s) }
set_option maxRecDepth 100000 in
set_option maxHeartbeats 4000000 in
theorem trunc_main (w : World) (t : Nat) (σ : Tr) (Ls : List Lay) (hT : TrAt w t σ Ls) (hOk : ∀ x ∈ σ.nodes, x.Ok) (kk : Int) (s s2 : ByteArray) (off N : Int) (dp : Option Addr) (dl dc : Nat) (hs : s.size ≤ 16777216) (j : Nat) (he : fileE σ.nodes (ofS s) = (some j, 0)) (hj : j < σ.nodes.length) (hjk : (nodeAt σ.nodes j).isDir = false) (h0 : 0 ≤ N) (h1 : N ≤ 67379200) :
    Calls Tryz.prog 28 #[ptrV t, callV kk s s2 off N (.slice dp dl dc)] w fun e w' => e = .returned (errV 0) ∧ Step (fun k => k ∈ feet t Ls) w t w' (truncT σ N j) := by
  obtain ⟨b, m, r, l, z, p, q1, q2, q3, q4, q5⟩ := hT.fileAt hj hjk
  have hok : (Nd.file l z p).Ok := hOk _ (List.mem_of_getElem? q2)
  have HFI : Hid (∀ W, Below w.heap.size w W → _) := Hid.mk (fun W (hB : Below w.heap.size w W) => file_any W t σ Ls (hT.below rfl hB) s hs)
  rw [he] at HFI
  simp only [optV, ptrV, q4] at HFI
  have HNO : Hid (∀ W, Below w.heap.size w W → _) := Hid.mk (fun W (hB : Below w.heap.size w W) => nos_file W b m r l z p (q3.kept (fun q hq => hB.block q (NdAt.lt (loc := fun _ => 0) (L := .file b m r) (d := .file l z p) q3 q hq))) hok.1 hok.2)
  have c1 : ¬ N < 0 := by omega
  have c3 : ¬ (67379200 : Int) < N := by omega
  have HT := Hid.mk hT
  have HOK := Hid.mk hok
  have HQ := Hid.mk (And.intro q1 (And.intro q2 (And.intro q3 (And.intro q4 q5))))
  have HNUM : Hid (0 ≤ N ∧ N ≤ 67379200) := Hid.mk ⟨h0, h1⟩
  clear hT hOk he hj hjk hok q1 q2 q3 q5 hs h0 h1
  unfold callV ptrV at *
  go_enter Tryz.func28, Tryz.ntmps28
  go_wp2_with fail
  obtain ⟨X, hX⟩ : ∃ X, X = (w.alloc (.cells #[.int .i64 kk, .string s, .string s2, .int .i64 off, .int .i64 N, .slice dp dl dc] 34)).alloc (.cells #[.int .i64 0, .slice none 0 0, .int .i64 0, .int .i64 0, .int .i64 0, .slice none 0 0, .int .i64 0] 31) := ⟨_, rfl⟩
  have hXB : Below w.heap.size w X := by rw [hX]; exact ((Below.refl _ w).alloc (Nat.le_refl _) _).alloc (by simp) _
  have hXs : X.heap.size = w.heap.size + 2 := by rw [hX]; simp
  have hX0 : X.heap[w.heap.size]? = some (.cells #[.int .i64 kk, .string s, .string s2, .int .i64 off, .int .i64 N, .slice dp dl dc] 34 (0, 0)) := by rw [hX, Below.heap_alloc _ _ _ (by simp)]; exact blk_new w _
  have hX1 : X.heap[w.heap.size + 1]? = some (.cells #[.int .i64 0, .slice none 0 0, .int .i64 0, .int .i64 0, .int .i64 0, .slice none 0 0, .int .i64 0] 31 (0, 0)) := by
    rw [hX]
    have := blk_new (w.alloc (.cells #[.int .i64 kk, .string s, .string s2, .int .i64 off, .int .i64 N, .slice dp dl dc] 34)) (.cells #[.int .i64 0, .slice none 0 0, .int .i64 0, .int .i64 0, .int .i64 0, .slice none 0 0, .int .i64 0] 31)
    rwa [World.size_alloc] at this
  rw [← hX]
  clear hX
  have f1 := blk_cell hX0 1
  have f4 := blk_cell hX0 4
  simp at f1 f4
  have HXB := Hid.mk hXB
  have HXS := Hid.mk hXs
  have HX0 := Hid.mk hX0
  have HX1 := Hid.mk hX1
  clear hXB hXs hX0 hX1
  go_wp2_with (first
    | (go_at_call 48; refine (HFI.out X HXB.out).mono ?_; rintro e' W1 ⟨rfl, hB1⟩
       have hx := (hB1.block _ (lt_of_block HX0.out)).trans HX0.out
       have HY0 := Hid.mk hx
       have HY1 := Hid.mk ((hB1.block _ (lt_of_block HX1.out)).trans HX1.out)
       have g4 := blk_cell hx 4
       simp at g4
       have HB1 : Hid (Below w.heap.size w W1) := Hid.mk (HXB.out.trans (hB1.mono HXB.out.size))
       have HB1s : Hid (w.heap.size ≤ W1.heap.size) := Hid.mk HB1.out.size
       clear hB1 hx f1 f4 HFI)
    | (go_at_call 51; refine (HNO.out _ HB1.out).mono ?_; rintro e' W2 ⟨ao, c', rfl, hrow, hB2⟩
       have HB2 := Hid.mk (HB1.out.trans (hB2.mono HB1.out.size))
       have HY2 := Hid.mk ((hB2.block _ (lt_of_block HY0.out)).trans HY0.out)
       have HY3 := Hid.mk ((hB2.block _ (lt_of_block HY1.out)).trans HY1.out)
       have HROW := Hid.mk hrow
       clear hB2 hrow g4 HB1 HY0 HY1))
  obtain ⟨ao2, c2, ev, hla, hnew⟩ := owns_latB HROW.out
  cases ev
  have hq := HQ.out
  have hmt : m < w.heap.size := NdAt.lt (loc := fun _ => 0) (L := .file b m r) (d := .file l z p) hq.2.2.1 m (by simp [Lay.foot])
  have hbt : b < w.heap.size := NdAt.lt (loc := fun _ => 0) (L := .file b m r) (d := .file l z p) hq.2.2.1 b (by simp [Lay.foot])
  have hnd : (b :: m :: r).Nodup := foot_nodup (List.nodup_cons.1 HT.out.apart).2 hq.1
  have hbm : b ≠ m := fun e => (List.nodup_cons.1 hnd).1 (by rw [e]; simp)
  have hpt2 : PtAt W2 m r p := (hq.2.2.1.parts HOK.out.1 (List.nodup_cons.1 hnd).2).kept (fun q hq' => HB2.out.block q (NdAt.lt (loc := fun _ => 0) (L := .file b m r) (d := .file l z p) hq.2.2.1 q (by simp [Lay.foot] at hq' ⊢; exact .inr hq')))
  have hnd2 : W2.heap[b]? = some (.cells #[.int .i64 1, .int .i64 l, .int .i64 z, .map (some m), .slice none 0 0, .map none] 62 (0, 0)) := (HB2.out.block b hbt).trans hq.2.2.1.node
  have HL2 := Hid.mk hla
  have HNW : Hid (∀ a, ao = some a → w.heap.size ≤ a.block) := Hid.mk (fun a ha => by have := hnew a ha; have := HB1s.out; omega)
  have HPT := Hid.mk hpt2
  have HND := Hid.mk hnd2
  have HMB : Hid (m < w.heap.size ∧ b < w.heap.size ∧ b ≠ m) := Hid.mk ⟨hmt, hbt, hbm⟩
  clear hla hnew hq hmt hbt hnd hbm hpt2 hnd2 HROW HNO
  go_loopw [35] (fun i wr => ∃ k : Nat, k ≤ p.length ∧ i = .int .i64 k ∧ PtAt wr m (dlR N (p.map (·.1)) p r k) (dlP N (p.map (·.1)) p k) ∧ Only (fun q => q = m) W2 wr) (fun i _ => p.length - (intOf i).toNat)
  case atStart => exact ⟨0, by omega, rfl, HPT.out, Only.refl _ _⟩
  case round =>
    obtain ⟨k, hk, rfl, hpk, hok⟩ := hrel
    have HPK := Hid.mk hpk
    have HO := Hid.mk hok
    clear hpk hok HPT
    by_cases hlt : k < p.length
    · have hi : (k : Int) < p.length := by omega
      have HLT := Hid.mk hlt
      obtain ⟨ax, rfl, hax, hcx⟩ := HL2.out.2 (by omega)
      have hw1 : IntKind.i64.wrap ((k : Int) + 1) = (k : Int) + 1 := by rw [IntKind.wrap_i64]; have := HOK.out.2; omega
      have hmb := HMB.out
      have hne : ¬ (ax.add k).block = m := fun e => by have := HNW.out ax rfl; rw [add_block] at e; omega
      have hcl : wr.cell? (ax.add k) = some (.int .i64 ((p.map (·.1)).getD k 0)) := by have e := HO.out.block (ax.add k).block (by rw [add_block]; exact hax) hne; rw [← hcx k hlt]; simp only [World.cell?, e]
      have hcb := (HO.out.block w.heap.size (lt_of_block HY2.out) (by omega)).trans HY2.out
      have y4 := blk_cell hcb 4
      have hnb := (HO.out.block b (lt_of_block HND.out) hmb.2.2).trans HND.out
      have y3 := blk_cell hnb 3
      simp at y4 y3
      obtain ⟨x, hx⟩ : ∃ x, x = (p.map (·.1)).getD k 0 := ⟨_, rfl⟩
      have hxk : x ∈ p.map (·.1) := by rw [hx]; exact List.mem_of_getElem? (i := k) (by simp [List.getD, hlt])
      obtain ⟨hx0, hx1⟩ : 0 ≤ x ∧ x < 65800 := by obtain ⟨e, he, rfl⟩ := List.mem_map.1 hxk; exact HOK.out.1.2 e he
      rw [← hx] at hcl
      have hw2 : IntKind.i64.wrap (x * 1024) = x * 1024 := by rw [IntKind.wrap_i64]; omega
      have hw3 : IntKind.i64.wrap (1024 * x) = 1024 * x := by rw [IntKind.wrap_i64]; omega
      obtain ⟨o, hdel, hmd⟩ := HPK.out.blocks.del keyed3 Tryz.underlying60 (Maps.keyOf_int_mk Tryz.underlying3 (okI_of (a := x) (by omega) (by omega))) 0
      have HMD := Hid.mk hmd
      have HX := Hid.mk hx
      clear hlt hk hcx hax hne hcb hnb hxk hmd hx hmb
      by_cases hc : N ≤ x * 1024
      · go_wp2_with fail
        go_roundw
        case rel =>
          have hx := HX.out
          have hset : Only (fun q => q = m) wr (ChangeMaps.setBlock wr m o) := (Only.refl (fun q => q = m) wr).setBlock (.inl rfl) o
          refine ⟨k + 1, by have := HLT.out; omega, by go_num, ?_, HO.out.trans hset (fun i hi => .inl hi)⟩
          rw [dlP, dlR, ← hx, if_pos hc, if_pos hc]
          exact HPK.out.del HMD.out hset
        case measure => have := HLT.out; simp [intOf]; omega
      · go_wp2_with fail
        go_roundw
        case rel =>
          have hx := HX.out
          refine ⟨k + 1, by have := HLT.out; omega, by go_num, ?_, HO.out⟩
          rw [dlP, dlR, ← hx, if_neg hc, if_neg hc]
          exact HPK.out
        case measure => have := HLT.out; simp [intOf]; omega
    · obtain rfl : k = p.length := by omega
      have hi2 : ¬ (p.length : Int) < (p.length : Int) := by omega
      have hpk := HPK.out
      rw [dl_end] at hpk
      have hsub : ∀ q ∈ dlR N (p.map (·.1)) p r p.length, q ∈ r := dlR_mem _ _ _ _ _
      have HRB : Hid (∀ q ∈ r, q ≠ m ∧ q ≠ b ∧ q ≠ w.heap.size ∧ q < w.heap.size) := Hid.mk (fun q hqr => by
        have hq0 := HQ.out
        have hnd : (b :: m :: r).Nodup := foot_nodup (List.nodup_cons.1 HT.out.apart).2 hq0.1
        have h2 := (List.nodup_cons.1 hnd)
        have hlt : q < w.heap.size := NdAt.lt (loc := fun _ => 0) (L := .file b m r) (d := .file l z p) hq0.2.2.1 q (by simp [Lay.foot, hqr])
        exact ⟨fun e => (List.nodup_cons.1 h2.2).1 (e ▸ hqr), fun e => h2.1 (by rw [← e]; simp [hqr]), by omega, hlt⟩)
      have HTT : Hid (t < w.heap.size ∧ t ∉ b :: m :: r) := Hid.mk ⟨lt_of_block HT.out.tree, fun h => (List.nodup_cons.1 HT.out.apart).1 (List.mem_flatMap.2 ⟨_, List.mem_of_getElem? HQ.out.1, h⟩)⟩
      have HSB := Hid.mk hsub
      clear hsub
      obtain ⟨rz, hrz⟩ : ∃ rz, rz = dlR N (p.map (·.1)) p r p.length := ⟨_, rfl⟩
      obtain ⟨pz, hpz⟩ : ∃ pz, pz = p.filter (fun q => decide (q.1 * 1024 < N)) := ⟨_, rfl⟩
      rw [← hrz, ← hpz] at hpk
      rw [← hrz] at HSB
      have HZ := Hid.mk hpk
      have HPZ := Hid.mk hpz
      have HRZ := Hid.mk hrz
      have hmb := HMB.out
      have hcb := (HO.out.block w.heap.size (lt_of_block HY2.out) (by omega)).trans HY2.out
      have y4 := blk_cell hcb 4
      have hnb := (HO.out.block b (lt_of_block HND.out) hmb.2.2).trans HND.out
      have y3 := blk_cell hnb 3
      simp at y4 y3
      have HCB : Hid (wr.drew.heap[w.heap.size]? = some (.cells #[.int .i64 kk, .string s, .string s2, .int .i64 off, .int .i64 N, .slice dp dl dc] 34 (0, 0))) := Hid.mk hcb
      have HNB : Hid (wr.drew.heap[b]? = some (.cells #[.int .i64 1, .int .i64 l, .int .i64 z, .map (some m), .slice none 0 0, .map none] 62 (0, 0))) := Hid.mk hnb
      clear hlt hk hpk hpz hrz HPK hcb hnb hmb
      have hq1 : N.tdiv 1024 = N / 1024 := Int.tdiv_eq_ediv_of_nonneg HNUM.out.1
      obtain ⟨x, hx⟩ : ∃ x, x = N / 1024 := ⟨_, rfl⟩
      rw [← hx] at hq1
      have hq2 : IntKind.i64.wrap x = x := by rw [IntKind.wrap_i64]; have := HNUM.out; omega
      have HX := Hid.mk hx
      have hlk := (HZ.out.kept (W' := wr.drew) (fun _ _ => rfl)).blocks.look2 keyed3 Tryz.underlying60 (zero_bytes wr.drew) (Maps.keyOf_int_mk Tryz.underlying3 (okI_of (a := x) (by have := HNUM.out; omega) (by have := HNUM.out; omega)))
      clear hx
      rcases HZ.out.get x with ⟨g1, g2, g3⟩ | ⟨d, q, g1, g2, g3, g4⟩
      · rw [g3] at hlk
        simp only [Option.getD_none, Option.isSome_none] at hlk
        have HS0 : Hid (wr.drew.cell? ⟨b, 3, none⟩ = some (.map (some m)) ∧ wr.drew.cell? ⟨w.heap.size, 4, none⟩ = some (.int .i64 N) ∧ (Instr.lookup 60 (.map (some m)) (.int .i64 x) true).run Tryz.prog wr.drew = .ok (.tuple #[.slice none 0 0, .bool false]) wr.drew) := Hid.mk ⟨y3, y4, hlk⟩
        have HG1 := Hid.mk g1
        clear hlk g1 g2 g3 y3 y4
        go_wp2_with fail
        refine wp_region_held_drew (S := fun W => W.cell? ⟨b, 3, none⟩ = some (.map (some m)) ∧ W.cell? ⟨w.heap.size, 4, none⟩ = some (.int .i64 N) ∧ (Instr.lookup 60 (.map (some m)) (.int .i64 x) true).run Tryz.prog W = .ok (.tuple #[.slice none 0 0, .bool false]) W) (by kernel_rfl) HS0.out (fun hH => ?_)
        change wpAnyH Tryz.prog Region.Mode.any _ _ _ 13 _ _ _
        refine takeH 0 51 (.pointer (some ⟨b, 0, none⟩)) rfl (by kernel_rfl) (by kernel_rfl) (by kernel_rfl) (by kernel_rfl) (fun _ _ _ h => h) (by kernel_rfl) (fun w hw => by (try dsimp only at hw); obtain ⟨hw1, hw2, hw3⟩ := hw; go_simp) hH ?_
        simp only [List.setIfInBounds_toArray, List.set_cons_zero, List.set_cons_succ]
        refine takeH 1 52 (.pointer (some ⟨b, 0, none⟩)) rfl (by kernel_rfl) (by kernel_rfl) (by kernel_rfl) (by kernel_rfl) (fun _ _ _ h => h) (by kernel_rfl) (fun w hw => by (try dsimp only at hw); obtain ⟨hw1, hw2, hw3⟩ := hw; go_simp) hH ?_
        simp only [List.setIfInBounds_toArray, List.set_cons_zero, List.set_cons_succ]
        refine takeH 2 53 (.pointer (some ⟨b, 3, none⟩)) rfl (by kernel_rfl) (by kernel_rfl) (by kernel_rfl) (by kernel_rfl) (fun _ _ _ h => h) (by kernel_rfl) (fun w hw => by (try dsimp only at hw); obtain ⟨hw1, hw2, hw3⟩ := hw; go_simp) hH ?_
        simp only [List.setIfInBounds_toArray, List.set_cons_zero, List.set_cons_succ]
        refine takeH 3 54 (.map (some m)) rfl (by kernel_rfl) (by kernel_rfl) (by kernel_rfl) (by kernel_rfl) (fun _ _ _ h => h) (by kernel_rfl) (fun w hw => by (try dsimp only at hw); obtain ⟨hw1, hw2, hw3⟩ := hw; go_simp) hH ?_
        simp only [List.setIfInBounds_toArray, List.set_cons_zero, List.set_cons_succ]
        refine takeH 4 55 (.pointer (some ⟨w.heap.size, 4, none⟩)) rfl (by kernel_rfl) (by kernel_rfl) (by kernel_rfl) (by kernel_rfl) (fun _ _ _ h => h) (by kernel_rfl) (fun w hw => by (try dsimp only at hw); obtain ⟨hw1, hw2, hw3⟩ := hw; go_simp) hH ?_
        simp only [List.setIfInBounds_toArray, List.set_cons_zero, List.set_cons_succ]
        refine takeH 5 56 (.int .i64 N) rfl (by kernel_rfl) (by kernel_rfl) (by kernel_rfl) (by kernel_rfl) (fun _ _ _ h => h) (by kernel_rfl) (fun w hw => by (try dsimp only at hw); obtain ⟨hw1, hw2, hw3⟩ := hw; go_simp) hH ?_
        simp only [List.setIfInBounds_toArray, List.set_cons_zero, List.set_cons_succ]
        refine takeH 6 57 (.int .i64 x) rfl (by kernel_rfl) (by kernel_rfl) (by kernel_rfl) (by kernel_rfl) (fun _ _ _ h => h) (by kernel_rfl) (fun w hw => by (try dsimp only at hw); obtain ⟨hw1, hw2, hw3⟩ := hw; go_simp) hH ?_
        simp only [List.setIfInBounds_toArray, List.set_cons_zero, List.set_cons_succ]
        refine takeH 7 58 (.tuple #[.slice none 0 0, .bool false]) rfl (by kernel_rfl) (by kernel_rfl) (by kernel_rfl) (by kernel_rfl) (fun _ _ _ h => h) (by kernel_rfl) (fun w hw => by (try dsimp only at hw); obtain ⟨hw1, hw2, hw3⟩ := hw; go_simp) hH ?_
        simp only [List.setIfInBounds_toArray, List.set_cons_zero, List.set_cons_succ]
        refine takeH 8 50 (.tuple #[.slice none 0 0, .bool false]) rfl (by kernel_rfl) (by kernel_rfl) (by kernel_rfl) (by kernel_rfl) (fun _ _ _ h => h) (by kernel_rfl) (fun w hw => by kernel_rfl) hH ?_
        simp only [List.setIfInBounds_toArray, List.set_cons_zero, List.set_cons_succ]
        refine takeH 9 59 (.slice none 0 0) rfl (by kernel_rfl) (by kernel_rfl) (by kernel_rfl) (by kernel_rfl) (fun _ _ _ h => h) (by kernel_rfl) (fun w hw => by (try dsimp only at hw); obtain ⟨hw1, hw2, hw3⟩ := hw; go_simp) hH ?_
        simp only [List.setIfInBounds_toArray, List.set_cons_zero, List.set_cons_succ]
        refine takeH 10 60 (.bool false) rfl (by kernel_rfl) (by kernel_rfl) (by kernel_rfl) (by kernel_rfl) (fun _ _ _ h => h) (by kernel_rfl) (fun w hw => by (try dsimp only at hw); obtain ⟨hw1, hw2, hw3⟩ := hw; go_simp) hH ?_
        simp only [List.setIfInBounds_toArray, List.set_cons_zero, List.set_cons_succ]
        refine takeH 11 10 (.slice none 0 0) rfl (by kernel_rfl) (by kernel_rfl) (by kernel_rfl) (by kernel_rfl) (fun _ _ _ h => h) (by kernel_rfl) (fun w hw => by kernel_rfl) hH ?_
        simp only [List.setIfInBounds_toArray, List.set_cons_zero, List.set_cons_succ]
        refine takeH 12 11 (.bool false) rfl (by kernel_rfl) (by kernel_rfl) (by kernel_rfl) (by kernel_rfl) (fun _ _ _ h => h) (by kernel_rfl) (fun w hw => by kernel_rfl) hH ?_
        simp only [List.setIfInBounds_toArray, List.set_cons_zero, List.set_cons_succ]
        refine wpAnyH_done (by kernel_rfl) ?_ _
        clear hH HS0
        have HCB2 : Hid (wr.drew.heap[w.heap.size]? = _) := HCB
        have HNC : Hid (wr.drew.heap[b]? = _) := HNB
        have hcut : cutP N p = pz := by unfold cutP; rw [← HPZ.out, ← HX.out, HG1.out]
        have HPC : Hid (PtAt wr.drew m rz (cutP N p)) := Hid.mk (by rw [hcut]; exact HZ.out.kept (W' := wr.drew) (fun _ _ => rfl))
        have HOC : Hid (Only (fun k => k = m ∨ k ∈ r) W2 wr.drew) := Hid.mk ((HO.out.mono (fun i _ hi => .inl hi)).drew)
        have HSC := HSB
        have HLC : Hid ((cutP N p).length ≤ 1048576) := Hid.mk (by rw [hcut, HPZ.out]; exact Nat.le_trans (List.length_filter_le _ _) HOK.out.2)
        clear hcut
        generalize wr.drew = V at *
        have y4 := blk_cell HCB2.out 4
        have z2 := blk_cell HNC.out 2
        have f2 := blk_free HNC.out 2
        simp at y4 z2
        have HUN : Hid (((World.setCell (V) ⟨b, 2, none⟩ (.int .i64 N))).heap[b]? = some (.cells #[.int .i64 1, .int .i64 l, .int .i64 N, .map (some m), .slice none 0 0, .map none] 62 (0, 0))) := Hid.mk (by rw [blk_set (w := V) (b := b) (i := 2) HNC.out]; rfl)
        have HUO : Hid (Only (fun k => k ∈ b :: m :: r) W2 (World.setCell (V) ⟨b, 2, none⟩ (.int .i64 N))) := Hid.mk ((HOC.out.mono (fun i _ hi => by rcases hi with h | h <;> simp [h])).setCell (p := ⟨b, 2, none⟩) (.inl (by simp)) _)
        have HUP : Hid (PtAt (World.setCell (V) ⟨b, 2, none⟩ (.int .i64 N)) m (rz) (cutP N p)) := Hid.mk (HPC.out.kept (fun q hq => Below.heap_setCell _ _ _ _ (by
          rcases List.mem_cons.1 hq with h | h
          · exact fun e => HMB.out.2.2 (by rw [← h, e])
          · exact fun e => (HRB.out q (HSC.out q h)).2.1 e)))
        go_wp2_with fail
        generalize World.setCell _ ⟨b, 2, none⟩ _ = U at *
        have HTU : Hid (TbAt U t σ.G σ.I σ.D (locL Ls 0) σ.inodes σ.blocks) := Hid.mk ((HUO.out.block t (by have := HTT.out.1; have := HB2.out.size; omega) HTT.out.2).trans ((HB2.out.block t HTT.out.1).trans HT.out.tree))
        have hnb1 : w.heap.size + 1 ∉ b :: m :: r := fun h => by
          rcases List.mem_cons.1 h with h | h
          · have := HMB.out; omega
          · rcases List.mem_cons.1 h with h | h
            · have := HMB.out; omega
            · have := (HRB.out _ h).2.2.2; omega
        have HBX : Hid (U.heap[w.heap.size + 1]? = some (.cells #[.int .i64 0, .slice none 0 0, .int .i64 0, .int .i64 0, .int .i64 0, .slice none 0 0, .int .i64 0] 31 (0, 0))) := Hid.mk ((HUO.out.block _ (lt_of_block HY3.out) hnb1).trans HY3.out)
        have HLU : Hid (LAt U ao p.length (p.map (·.1))) := Hid.mk (HL2.out.only HUO.out (fun a ha _ h => by
          have h3 := HNW.out a ha
          rcases List.mem_cons.1 h with h | h
          · have := HMB.out; omega
          · rcases List.mem_cons.1 h with h | h
            · have := HMB.out; omega
            · have := (HRB.out _ h).2.2.2; omega))
        have HT5 : Hid (∀ W, Below U.heap.size U W → W.cell? ⟨t, 5, none⟩ = some (.int .i64 σ.blocks) ∧ W.frozen? ⟨t, 5, none⟩ = false) := Hid.mk (fun W hB => by
          have e := (hB.block t (lt_of_block HTU.out)).trans HTU.out
          exact ⟨by rw [blk_cell e]; rfl, blk_free e 5⟩)
        have HN2 : Hid (∀ W, Below U.heap.size U W → _) := Hid.mk (fun W (hB : Below U.heap.size U W) => nos_file W b m (rz) l N (cutP N p) ((HUP.out.file HUN.out).kept' hB) HUP.out.ok HLC.out)
        have hrb1 := room_bound (p.map (·.1))
        have hrb2 := room_bound ((cutP N p).map (·.1))
        have hwr : IntKind.i64.wrap (roomL (p.map (·.1)) - roomL ((cutP N p).map (·.1))) = roomL (p.map (·.1)) - roomL ((cutP N p).map (·.1)) := by rw [IntKind.wrap_i64]; have h1 := HLC.out; have h2 := HOK.out.2; simp only [List.length_map] at hrb1 hrb2; omega
        have XB0 : Hid (Below U.heap.size U U.drew) := Hid.mk (Below.refl _ U).drew
        clear hrb1 hrb2 hnb1
        refine wp_region_but 13 (fun W => W.cell? ⟨t, 5, none⟩ = some (.int .i64 σ.blocks) ∧ W.frozen? ⟨t, 5, none⟩ = false) (by kernel_rfl) (HT5.out U.drew XB0.out) (fun hH => ?_)
        refine takeL 0 72 (.pointer (some ⟨t, 0, none⟩)) rfl (by kernel_rfl) (by kernel_rfl) (by kernel_rfl) (by kernel_rfl) (by kernel_rfl) (fun _ _ _ h => h) (by kernel_rfl) (fun w hw => by kernel_rfl) hH ?_
        simp only [List.setIfInBounds_toArray, List.set_cons_zero, List.set_cons_succ]
        refine takeL 1 73 (.pointer (some ⟨t, 0, none⟩)) rfl (by kernel_rfl) (by kernel_rfl) (by kernel_rfl) (by kernel_rfl) (by kernel_rfl) (fun _ _ _ h => h) (by kernel_rfl) (fun w hw => by go_simp) hH ?_
        simp only [List.setIfInBounds_toArray, List.set_cons_zero, List.set_cons_succ]
        refine takeL 2 74 (.pointer (some ⟨t, 5, none⟩)) rfl (by kernel_rfl) (by kernel_rfl) (by kernel_rfl) (by kernel_rfl) (by kernel_rfl) (fun _ _ _ h => h) (by kernel_rfl) (fun w hw => by go_simp) hH ?_
        simp only [List.setIfInBounds_toArray, List.set_cons_zero, List.set_cons_succ]
        refine takeL 3 75 (.int .i64 σ.blocks) rfl (by kernel_rfl) (by kernel_rfl) (by kernel_rfl) (by kernel_rfl) (by kernel_rfl) (fun _ _ _ h => h) (by kernel_rfl) (fun w hw => by (try dsimp only at hw); obtain ⟨hw1, hw2⟩ := hw; go_simp) hH ?_
        simp only [List.setIfInBounds_toArray, List.set_cons_zero, List.set_cons_succ]
        refine takeL 4 76 (.slice ao p.length c') rfl (by kernel_rfl) (by kernel_rfl) (by kernel_rfl) (by kernel_rfl) (by kernel_rfl) (fun _ _ _ h => h) (by kernel_rfl) (fun w hw => by kernel_rfl) hH ?_
        simp only [List.setIfInBounds_toArray, List.set_cons_zero, List.set_cons_succ]
        refine takeL 6 78 (.pointer (some ⟨b, 0, none⟩)) rfl (by kernel_rfl) (by kernel_rfl) (by kernel_rfl) (by kernel_rfl) (by kernel_rfl) (fun _ _ _ h => h) (by kernel_rfl) (fun w hw => by kernel_rfl) hH ?_
        simp only [List.setIfInBounds_toArray, List.set_cons_zero, List.set_cons_succ]
        refine stepL_call 5 77 rfl (by kernel_rfl) (by kernel_rfl) (by kernel_rfl) 52 #[.tmp 76] #[40] (by kernel_rfl) (enters_of Tryz.func52 (by kernel_rfl) rfl) #[.slice ao p.length c'] (by kernel_rfl) (room_any _ _ _ _ (p.map (·.1)) (HLU.out.blw XB0.out) (by have := HOK.out.2; omega)) ?_
        rintro e' Wr ⟨rfl, hbr⟩
        have XR : Hid (Below U.heap.size U Wr) := Hid.mk (XB0.out.trans (hbr.mono XB0.out.size))
        clear hbr
        refine ⟨.int .i64 (roomL (p.map (·.1))), rfl, HT5.out _ XR.out, ?_⟩
        simp only [List.setIfInBounds_toArray, List.set_cons_zero, List.set_cons_succ]
        refine stepL_call 7 79 rfl (by kernel_rfl) (by kernel_rfl) (by kernel_rfl) 51 #[.tmp 78] #[49] (by kernel_rfl) (enters_of Tryz.func51 (by kernel_rfl) rfl) #[.pointer (some ⟨b, 0, none⟩)] (by kernel_rfl) (HN2.out _ XR.out) ?_
        rintro e' Wn ⟨ao', c5, rfl, hown, hbn⟩
        obtain ⟨ao5, c6, ev, hla⟩ := owns_lat hown
        cases ev
        have XN : Hid (Below U.heap.size U Wn) := Hid.mk (XR.out.trans (hbn.mono XR.out.size))
        have LN := Hid.mk hla
        clear hown hbn hla
        refine ⟨_, rfl, HT5.out _ XN.out, ?_⟩
        simp only [List.setIfInBounds_toArray, List.set_cons_zero, List.set_cons_succ]
        refine stepL_call 8 80 rfl (by kernel_rfl) (by kernel_rfl) (by kernel_rfl) 52 #[.tmp 79] #[40] (by kernel_rfl) (enters_of Tryz.func52 (by kernel_rfl) rfl) #[.slice ao' (cutP N p).length c5] (by kernel_rfl) (room_any _ _ _ _ ((cutP N p).map (·.1)) LN.out (by have := HLC.out; omega)) ?_
        rintro e' Wz ⟨rfl, hbr⟩
        have XZ : Hid (Below U.heap.size U Wz) := Hid.mk (XN.out.trans (hbr.mono XN.out.size))
        clear hbr
        refine ⟨.int .i64 (roomL ((cutP N p).map (·.1))), rfl, HT5.out _ XZ.out, ?_⟩
        simp only [List.setIfInBounds_toArray, List.set_cons_zero, List.set_cons_succ]
        refine stepL_run 9 81 (.int .i64 (IntKind.i64.wrap (roomL (p.map (·.1)) - roomL ((cutP N p).map (·.1))))) Wz rfl (by kernel_rfl) (by kernel_rfl) (by kernel_rfl) (by go_simp) (HT5.out _ XZ.out) ?_
        simp only [List.setIfInBounds_toArray, List.set_cons_zero, List.set_cons_succ]
        rw [hwr]
        refine stepL_run 10 82 (.int .i64 (IntKind.i64.wrap (σ.blocks - (roomL (p.map (·.1)) - roomL ((cutP N p).map (·.1)))))) Wz rfl (by kernel_rfl) (by kernel_rfl) (by kernel_rfl) (by go_simp) (HT5.out _ XZ.out) ?_
        simp only [List.setIfInBounds_toArray, List.set_cons_zero, List.set_cons_succ]
        refine stepL_run 11 83 (.pointer (some ⟨t, 0, none⟩)) Wz rfl (by kernel_rfl) (by kernel_rfl) (by kernel_rfl) (by go_simp) (HT5.out _ XZ.out) ?_
        simp only [List.setIfInBounds_toArray, List.set_cons_zero, List.set_cons_succ]
        refine stepL_run 12 84 (.pointer (some ⟨t, 5, none⟩)) Wz rfl (by kernel_rfl) (by kernel_rfl) (by kernel_rfl) (by go_simp) (HT5.out _ XZ.out) ?_
        simp only [List.setIfInBounds_toArray, List.set_cons_zero, List.set_cons_succ]
        refine lastL (Wz.setCell ⟨t, 5, none⟩ (.int .i64 (IntKind.i64.wrap (σ.blocks - (roomL (p.map (·.1)) - roomL ((cutP N p).map (·.1))))))) rfl (by kernel_rfl) (by kernel_rfl) (by kernel_rfl) (exec_storeI (p := .tmp 84) (x := .tmp 82) (by kernel_rfl) (by kernel_rfl) (by kernel_rfl) (HT5.out _ XZ.out).1 (HT5.out _ XZ.out).2) (by kernel_rfl) ?_
        all_goals
          have hz := XZ.out
          have htz : TbAt Wz t σ.G σ.I σ.D (locL Ls 0) σ.inodes σ.blocks := (hz.block t (lt_of_block HTU.out)).trans HTU.out
          obtain ⟨bv, hbv⟩ : ∃ bv, bv = IntKind.i64.wrap (σ.blocks - (roomL (p.map (·.1)) - roomL ((cutP N p).map (·.1)))) := ⟨_, rfl⟩
          rw [← hbv]
          have HTZ : Hid (TbAt (World.setCell Wz ⟨t, 5, none⟩ (.int .i64 bv)) t σ.G σ.I σ.D (locL Ls 0) σ.inodes bv) := Hid.mk (by unfold TbAt; rw [blk_set htz]; rfl)
          have HOZ : Hid (Only (fun k => k = t ∨ k ∈ b :: m :: r) w (World.setCell Wz ⟨t, 5, none⟩ (.int .i64 bv))) := Hid.mk ((((Only.of_new (fun k => k = t ∨ k ∈ b :: m :: r) HB2.out).trans HUO.out (fun i hi => .inl (.inr hi))).trans (Only.of_new (fun _ => False) hz) (fun _ h => h.elim)).setCell (p := ⟨t, 5, none⟩) (.inl (.inl rfl)) _)
          have hbx : (World.setCell Wz ⟨t, 5, none⟩ (.int .i64 bv)).heap[w.heap.size + 1]? = some (.cells #[.int .i64 0, .slice none 0 0, .int .i64 0, .int .i64 0, .int .i64 0, .slice none 0 0, .int .i64 0] 31 (0, 0)) := (Below.heap_setCell _ _ _ _ (by have := HTT.out.1; show w.heap.size + 1 ≠ t; omega)).trans ((hz.block _ (lt_of_block HBX.out)).trans HBX.out)
          have HPE : Hid (PtAt (World.setCell Wz ⟨t, 5, none⟩ (.int .i64 bv)) m (rz) (cutP N p)) := Hid.mk (HUP.out.kept (fun q hq => (Below.heap_setCell _ _ _ _ (by
            show q ≠ t
            rcases List.mem_cons.1 hq with h | h
            · exact fun e => HTT.out.2 (by rw [← e, h]; simp)
            · exact fun e => HTT.out.2 (by rw [← e]; simp [HSC.out q h]))).trans (hz.block q (by
            rcases List.mem_cons.1 hq with h | h
            · rw [h]; exact HUP.out.blocks.lt
            · have h1 := (HRB.out q (HSC.out q h)).2.2.2
              have h2 := HUO.out.size
              have h3 := HB2.out.size
              omega))))
          have HNE : Hid ((World.setCell Wz ⟨t, 5, none⟩ (.int .i64 bv)).heap[b]? = some (.cells #[.int .i64 1, .int .i64 l, .int .i64 N, .map (some m), .slice none 0 0, .map none] 62 (0, 0))) := Hid.mk ((Below.heap_setCell _ _ _ _ (by show b ≠ t; exact fun e => HTT.out.2 (by rw [← e]; simp))).trans ((hz.block b (lt_of_block HUN.out)).trans HUN.out))
          generalize World.setCell Wz ⟨t, 5, none⟩ _ = E at *
          have BX := Hid.mk hbx
          have z0 := blk_cell hbx 0
          have y0 := blk_free hbx 0
          have z1 := blk_cell hbx 1
          have y1 := blk_free hbx 1
          have z2 := blk_cell hbx 2
          have y2 := blk_free hbx 2
          have z3 := blk_cell hbx 3
          have y3 := blk_free hbx 3
          have z4 := blk_cell hbx 4
          have y4 := blk_free hbx 4
          have z5 := blk_cell hbx 5
          have y5 := blk_free hbx 5
          have z6 := blk_cell hbx 6
          have y6 := blk_free hbx 6
          simp at z0 z1 z2 z3 z4 z5 z6
          clear hz htz hbx hwr
          go_wp2_with fail
          have hb7 := (box7 BX.out (.int .i64 0) (.slice none 0 0) (.int .i64 0) (.int .i64 0) (.int .i64 0) (.slice none 0 0) (.int .i64 0)).1
          have ho7 := (box7 BX.out (.int .i64 0) (.slice none 0 0) (.int .i64 0) (.int .i64 0) (.int .i64 0) (.slice none 0 0) (.int .i64 0)).2
          obtain ⟨Y, hY⟩ : ∃ Y, Y = (((((((E.setCell ⟨w.heap.size + 1, 0, none⟩ (.int .i64 0)).setCell ⟨w.heap.size + 1, 1, none⟩ (.slice none 0 0)).setCell ⟨w.heap.size + 1, 2, none⟩ (.int .i64 0)).setCell ⟨w.heap.size + 1, 3, none⟩ (.int .i64 0)).setCell ⟨w.heap.size + 1, 4, none⟩ (.int .i64 0)).setCell ⟨w.heap.size + 1, 5, none⟩ (.slice none 0 0)).setCell ⟨w.heap.size + 1, 6, none⟩ (.int .i64 0)) := ⟨_, rfl⟩
          rw [← hY] at hb7 ho7 ⊢
          have k0 := blk_cell hb7 0
          have k1 := blk_cell hb7 1
          have k2 := blk_cell hb7 2
          have k3 := blk_cell hb7 3
          have k4 := blk_cell hb7 4
          have k5 := blk_cell hb7 5
          have k6 := blk_cell hb7 6
          simp at k0 k1 k2 k3 k4 k5 k6
          refine bodyPost_ret (v := errV 0) ?_ rfl ⟨rfl, ?_⟩
          · simp [results, Tryz.results28, go_sem, errV, k0, k1, k2, k3, k4, k5, k6]
          · have hq := HQ.out
            have hlow : ∀ i, i < w.heap.size → i ≠ w.heap.size + 1 := fun i h => by omega
            have hrl : ∀ i ∈ b :: m :: (rz), i < w.heap.size := fun i hi => by
              rcases List.mem_cons.1 hi with h | h
              · have := HMB.out; omega
              · rcases List.mem_cons.1 h with h | h
                · have := HMB.out; omega
                · exact (HRB.out i (HSC.out i h)).2.2.2
            have hk7 : ∀ i, i < w.heap.size → i < E.heap.size → Y.heap[i]? = E.heap[i]? := fun i h hE => ho7.block i hE (hlow i h)
            have hsz := HOZ.out.size
            have hOY : Only (fun k => k = t ∨ k ∈ (Lay.file b m r).foot) w Y := HOZ.out.trans ho7 (fun i hi => .inr (by omega))
            have hPY : PtAt Y m (rz) (cutP N p) := HPE.out.kept (fun q hq => hk7 q (hrl q (List.mem_cons_of_mem _ hq)) (by have := hrl q (List.mem_cons_of_mem _ hq); omega))
            have hNY := (hk7 b HMB.out.2.1 (by have := HMB.out.2.1; omega)).trans HNE.out
            have hfin := HT.out.turn (L' := .file b m (rz)) (n' := .file l N (cutP N p)) hq.1 rfl hOY (i' := σ.inodes) (b' := bv) ((hk7 t HTT.out.1 (by have := HTT.out.1; omega)).trans HTZ.out) (hPY.file hNY) (fun q hq => .inl (by
              simp only [Lay.foot, List.mem_cons] at hq ⊢
              rcases hq with h | h | h
              · exact .inl h
              · exact .inr (.inl h)
              · exact .inr (.inr (HSC.out q h)))) (List.nodup_cons.2 ⟨fun h => by
                rcases List.mem_cons.1 h with h | h
                · exact HMB.out.2.2 h
                · exact (HRB.out _ (HSC.out _ h)).2.1 rfl, hPY.nd⟩) (fun q hq => by cases hq) (fun e => by
              subst e
              obtain ⟨l1, z1, s1, hr⟩ := HT.out.root
              have := hq.2.1
              rw [hr] at this
              cases this)
            refine ⟨⟨Ls.set j (.file b m (rz)), ?_, fun q hq2 => ?_⟩, hOY.mono (fun i _ hi => ?_)⟩
            · unfold truncT
              rw [hq.2.2.2.2, modify_set hq.2.1]
              rw [hbv, wrap_eq] at hfin
              exact hfin
            · rcases List.mem_cons.1 hq2 with rfl | hq2
              · exact .inl (by simp [feet])
              · obtain ⟨L, hL, hq3⟩ := List.mem_flatMap.1 hq2
                rcases List.mem_or_eq_of_mem_set hL with h | h
                · exact .inl (List.mem_cons_of_mem _ (List.mem_flatMap.2 ⟨L, h, hq3⟩))
                · subst h
                  refine .inl (mem_feet hq.1 ?_)
                  simp only [Lay.foot, List.mem_cons] at hq3 ⊢
                  rcases hq3 with h | h | h
                  · exact .inl h
                  · exact .inr (.inl h)
                  · exact .inr (.inr (HSC.out q h))
            · rcases hi with h | h
              · rw [h]; simp [feet]
              · exact mem_feet hq.1 h
      · rw [g3] at hlk
        simp only [Option.getD_some, Option.isSome_some] at hlk
        have HS0 : Hid (wr.drew.cell? ⟨b, 3, none⟩ = some (.map (some m)) ∧ wr.drew.cell? ⟨w.heap.size, 4, none⟩ = some (.int .i64 N) ∧ (Instr.lookup 60 (.map (some m)) (.int .i64 x) true).run Tryz.prog wr.drew = .ok (.tuple #[.slice (some ⟨q, 0, none⟩) 1024 1024, .bool true]) wr.drew) := Hid.mk ⟨y3, y4, hlk⟩
        have HG1 := Hid.mk g1
        have HG4 := Hid.mk g4
        clear hlk g1 g2 g3 g4 y3 y4
        go_wp2_with fail
        refine wp_region_held_drew (S := fun W => W.cell? ⟨b, 3, none⟩ = some (.map (some m)) ∧ W.cell? ⟨w.heap.size, 4, none⟩ = some (.int .i64 N) ∧ (Instr.lookup 60 (.map (some m)) (.int .i64 x) true).run Tryz.prog W = .ok (.tuple #[.slice (some ⟨q, 0, none⟩) 1024 1024, .bool true]) W) (by kernel_rfl) HS0.out (fun hH => ?_)
        change wpAnyH Tryz.prog Region.Mode.any _ _ _ 13 _ _ _
        refine takeH 0 51 (.pointer (some ⟨b, 0, none⟩)) rfl (by kernel_rfl) (by kernel_rfl) (by kernel_rfl) (by kernel_rfl) (fun _ _ _ h => h) (by kernel_rfl) (fun w hw => by (try dsimp only at hw); obtain ⟨hw1, hw2, hw3⟩ := hw; go_simp) hH ?_
        simp only [List.setIfInBounds_toArray, List.set_cons_zero, List.set_cons_succ]
        refine takeH 1 52 (.pointer (some ⟨b, 0, none⟩)) rfl (by kernel_rfl) (by kernel_rfl) (by kernel_rfl) (by kernel_rfl) (fun _ _ _ h => h) (by kernel_rfl) (fun w hw => by (try dsimp only at hw); obtain ⟨hw1, hw2, hw3⟩ := hw; go_simp) hH ?_
        simp only [List.setIfInBounds_toArray, List.set_cons_zero, List.set_cons_succ]
        refine takeH 2 53 (.pointer (some ⟨b, 3, none⟩)) rfl (by kernel_rfl) (by kernel_rfl) (by kernel_rfl) (by kernel_rfl) (fun _ _ _ h => h) (by kernel_rfl) (fun w hw => by (try dsimp only at hw); obtain ⟨hw1, hw2, hw3⟩ := hw; go_simp) hH ?_
        simp only [List.setIfInBounds_toArray, List.set_cons_zero, List.set_cons_succ]
        refine takeH 3 54 (.map (some m)) rfl (by kernel_rfl) (by kernel_rfl) (by kernel_rfl) (by kernel_rfl) (fun _ _ _ h => h) (by kernel_rfl) (fun w hw => by (try dsimp only at hw); obtain ⟨hw1, hw2, hw3⟩ := hw; go_simp) hH ?_
        simp only [List.setIfInBounds_toArray, List.set_cons_zero, List.set_cons_succ]
        refine takeH 4 55 (.pointer (some ⟨w.heap.size, 4, none⟩)) rfl (by kernel_rfl) (by kernel_rfl) (by kernel_rfl) (by kernel_rfl) (fun _ _ _ h => h) (by kernel_rfl) (fun w hw => by (try dsimp only at hw); obtain ⟨hw1, hw2, hw3⟩ := hw; go_simp) hH ?_
        simp only [List.setIfInBounds_toArray, List.set_cons_zero, List.set_cons_succ]
        refine takeH 5 56 (.int .i64 N) rfl (by kernel_rfl) (by kernel_rfl) (by kernel_rfl) (by kernel_rfl) (fun _ _ _ h => h) (by kernel_rfl) (fun w hw => by (try dsimp only at hw); obtain ⟨hw1, hw2, hw3⟩ := hw; go_simp) hH ?_
        simp only [List.setIfInBounds_toArray, List.set_cons_zero, List.set_cons_succ]
        refine takeH 6 57 (.int .i64 x) rfl (by kernel_rfl) (by kernel_rfl) (by kernel_rfl) (by kernel_rfl) (fun _ _ _ h => h) (by kernel_rfl) (fun w hw => by (try dsimp only at hw); obtain ⟨hw1, hw2, hw3⟩ := hw; go_simp) hH ?_
        simp only [List.setIfInBounds_toArray, List.set_cons_zero, List.set_cons_succ]
        refine takeH 7 58 (.tuple #[.slice (some ⟨q, 0, none⟩) 1024 1024, .bool true]) rfl (by kernel_rfl) (by kernel_rfl) (by kernel_rfl) (by kernel_rfl) (fun _ _ _ h => h) (by kernel_rfl) (fun w hw => by (try dsimp only at hw); obtain ⟨hw1, hw2, hw3⟩ := hw; go_simp) hH ?_
        simp only [List.setIfInBounds_toArray, List.set_cons_zero, List.set_cons_succ]
        refine takeH 8 50 (.tuple #[.slice (some ⟨q, 0, none⟩) 1024 1024, .bool true]) rfl (by kernel_rfl) (by kernel_rfl) (by kernel_rfl) (by kernel_rfl) (fun _ _ _ h => h) (by kernel_rfl) (fun w hw => by kernel_rfl) hH ?_
        simp only [List.setIfInBounds_toArray, List.set_cons_zero, List.set_cons_succ]
        refine takeH 9 59 (.slice (some ⟨q, 0, none⟩) 1024 1024) rfl (by kernel_rfl) (by kernel_rfl) (by kernel_rfl) (by kernel_rfl) (fun _ _ _ h => h) (by kernel_rfl) (fun w hw => by (try dsimp only at hw); obtain ⟨hw1, hw2, hw3⟩ := hw; go_simp) hH ?_
        simp only [List.setIfInBounds_toArray, List.set_cons_zero, List.set_cons_succ]
        refine takeH 10 60 (.bool true) rfl (by kernel_rfl) (by kernel_rfl) (by kernel_rfl) (by kernel_rfl) (fun _ _ _ h => h) (by kernel_rfl) (fun w hw => by (try dsimp only at hw); obtain ⟨hw1, hw2, hw3⟩ := hw; go_simp) hH ?_
        simp only [List.setIfInBounds_toArray, List.set_cons_zero, List.set_cons_succ]
        refine takeH 11 10 (.slice (some ⟨q, 0, none⟩) 1024 1024) rfl (by kernel_rfl) (by kernel_rfl) (by kernel_rfl) (by kernel_rfl) (fun _ _ _ h => h) (by kernel_rfl) (fun w hw => by kernel_rfl) hH ?_
        simp only [List.setIfInBounds_toArray, List.set_cons_zero, List.set_cons_succ]
        refine takeH 12 11 (.bool true) rfl (by kernel_rfl) (by kernel_rfl) (by kernel_rfl) (by kernel_rfl) (fun _ _ _ h => h) (by kernel_rfl) (fun w hw => by kernel_rfl) hH ?_
        simp only [List.setIfInBounds_toArray, List.set_cons_zero, List.set_cons_succ]
        refine wpAnyH_done (by kernel_rfl) ?_ _
        clear hH HS0
        obtain ⟨A, hA⟩ : ∃ A : Nat, A = (N % 1024).toNat := ⟨_, rfl⟩
        have hm1 : N.tmod 1024 = (A : Int) := by rw [Int.tmod_eq_emod_of_nonneg HNUM.out.1]; have := HNUM.out; omega
        have hm2 : IntKind.i64.wrap (A : Int) = (A : Int) := by rw [IntKind.wrap_i64]; omega
        have hA1 : A < 1024 := by omega
        have HA := Hid.mk hA
        have hqr := HZ.out.rows _ HG4.out
        have hd : d.length = 1024 := hqr.2
        have hrq : RAt wr.drew q d := hqr.1
        have HD := Hid.mk hd
        have HRQ := Hid.mk hrq
        have y4 := blk_cell HCB.out 4
        simp at y4
        clear hA hqr hd hrq
        obtain ⟨V, hcl, hrv, hov⟩ := clear_run wr.drew q A (1024 - A) d HRQ.out (by omega) (by have := HD.out; omega) 0
        have hqm : q ≠ m ∧ q ≠ b ∧ q ≠ w.heap.size := (fun h => ⟨h.1, h.2.1, h.2.2.1⟩) (HRB.out q (HSB.out q (List.of_mem_zip HG4.out).2))
        have HCB2 := Hid.mk ((hov.block w.heap.size (lt_of_block HCB.out) (fun e => hqm.2.2 e.symm)).trans HCB.out)
        have HNB2 := Hid.mk ((hov.block b (lt_of_block HNB.out) (fun e => hqm.2.1 e.symm)).trans HNB.out)
        have HPV : Hid (PtAt V m (putR x q pz rz) (putP x (splice d A (zeros (1024 - A))) pz)) := Hid.mk ((HZ.out.kept (W' := wr.drew) (fun _ _ => rfl)).turn HG4.out hrv (by rw [length_splice _ _ _ (by rw [zeros_length]; have := HD.out; omega)]; exact HD.out) hov)
        have HOV := Hid.mk hov
        have v4 := blk_cell HCB2.out 4
        have z2 := blk_cell HNB2.out 2
        have f2 := blk_free HNB2.out 2
        simp at v4 z2
        have HNC := HNB2
        have hcut : cutP N p = putP x (splice d A (zeros (1024 - A))) pz := by unfold cutP; rw [← HPZ.out, ← HX.out, HG1.out, ← HA.out]
        have HPC : Hid (PtAt V m (putR x q pz rz) (cutP N p)) := Hid.mk (by rw [hcut]; exact HPV.out)
        have HOC : Hid (Only (fun k => k = m ∨ k ∈ r) W2 V) := Hid.mk (((HO.out.mono (fun i _ hi => .inl hi)).drew).trans hov (fun i hi => .inl (.inr (by rw [hi]; exact HSB.out q (List.of_mem_zip HG4.out).2))))
        have HSC : Hid (∀ y ∈ putR x q pz rz, y ∈ r) := Hid.mk (fun y hy => HSB.out y (putR_in HG4.out hy))
        have HLC : Hid ((cutP N p).length ≤ 1048576) := Hid.mk (by rw [hcut, put_old _ _ HZ.out.ok.1 (List.mem_map.2 ⟨(x, d), (List.of_mem_zip HG4.out).1, rfl⟩), HPZ.out]; exact Nat.le_trans (List.length_filter_le _ _) HOK.out.2)
        clear hov hrv hcut
        have HUN : Hid (((World.setCell (V) ⟨b, 2, none⟩ (.int .i64 N))).heap[b]? = some (.cells #[.int .i64 1, .int .i64 l, .int .i64 N, .map (some m), .slice none 0 0, .map none] 62 (0, 0))) := Hid.mk (by rw [blk_set (w := V) (b := b) (i := 2) HNC.out]; rfl)
        have HUO : Hid (Only (fun k => k ∈ b :: m :: r) W2 (World.setCell (V) ⟨b, 2, none⟩ (.int .i64 N))) := Hid.mk ((HOC.out.mono (fun i _ hi => by rcases hi with h | h <;> simp [h])).setCell (p := ⟨b, 2, none⟩) (.inl (by simp)) _)
        have HUP : Hid (PtAt (World.setCell (V) ⟨b, 2, none⟩ (.int .i64 N)) m (putR x q pz rz) (cutP N p)) := Hid.mk (HPC.out.kept (fun q hq => Below.heap_setCell _ _ _ _ (by
          rcases List.mem_cons.1 hq with h | h
          · exact fun e => HMB.out.2.2 (by rw [← h, e])
          · exact fun e => (HRB.out q (HSC.out q h)).2.1 e)))
        go_wp2_with fail
        generalize World.setCell _ ⟨b, 2, none⟩ _ = U at *
        have HTU : Hid (TbAt U t σ.G σ.I σ.D (locL Ls 0) σ.inodes σ.blocks) := Hid.mk ((HUO.out.block t (by have := HTT.out.1; have := HB2.out.size; omega) HTT.out.2).trans ((HB2.out.block t HTT.out.1).trans HT.out.tree))
        have hnb1 : w.heap.size + 1 ∉ b :: m :: r := fun h => by
          rcases List.mem_cons.1 h with h | h
          · have := HMB.out; omega
          · rcases List.mem_cons.1 h with h | h
            · have := HMB.out; omega
            · have := (HRB.out _ h).2.2.2; omega
        have HBX : Hid (U.heap[w.heap.size + 1]? = some (.cells #[.int .i64 0, .slice none 0 0, .int .i64 0, .int .i64 0, .int .i64 0, .slice none 0 0, .int .i64 0] 31 (0, 0))) := Hid.mk ((HUO.out.block _ (lt_of_block HY3.out) hnb1).trans HY3.out)
        have HLU : Hid (LAt U ao p.length (p.map (·.1))) := Hid.mk (HL2.out.only HUO.out (fun a ha _ h => by
          have h3 := HNW.out a ha
          rcases List.mem_cons.1 h with h | h
          · have := HMB.out; omega
          · rcases List.mem_cons.1 h with h | h
            · have := HMB.out; omega
            · have := (HRB.out _ h).2.2.2; omega))
        have HT5 : Hid (∀ W, Below U.heap.size U W → W.cell? ⟨t, 5, none⟩ = some (.int .i64 σ.blocks) ∧ W.frozen? ⟨t, 5, none⟩ = false) := Hid.mk (fun W hB => by
          have e := (hB.block t (lt_of_block HTU.out)).trans HTU.out
          exact ⟨by rw [blk_cell e]; rfl, blk_free e 5⟩)
        have HN2 : Hid (∀ W, Below U.heap.size U W → _) := Hid.mk (fun W (hB : Below U.heap.size U W) => nos_file W b m (putR x q pz rz) l N (cutP N p) ((HUP.out.file HUN.out).kept' hB) HUP.out.ok HLC.out)
        have hrb1 := room_bound (p.map (·.1))
        have hrb2 := room_bound ((cutP N p).map (·.1))
        have hwr : IntKind.i64.wrap (roomL (p.map (·.1)) - roomL ((cutP N p).map (·.1))) = roomL (p.map (·.1)) - roomL ((cutP N p).map (·.1)) := by rw [IntKind.wrap_i64]; have h1 := HLC.out; have h2 := HOK.out.2; simp only [List.length_map] at hrb1 hrb2; omega
        have XB0 : Hid (Below U.heap.size U U.drew) := Hid.mk (Below.refl _ U).drew
        clear hrb1 hrb2 hnb1
        refine wp_region_but 13 (fun W => W.cell? ⟨t, 5, none⟩ = some (.int .i64 σ.blocks) ∧ W.frozen? ⟨t, 5, none⟩ = false) (by kernel_rfl) (HT5.out U.drew XB0.out) (fun hH => ?_)
        refine takeL 0 72 (.pointer (some ⟨t, 0, none⟩)) rfl (by kernel_rfl) (by kernel_rfl) (by kernel_rfl) (by kernel_rfl) (by kernel_rfl) (fun _ _ _ h => h) (by kernel_rfl) (fun w hw => by kernel_rfl) hH ?_
        simp only [List.setIfInBounds_toArray, List.set_cons_zero, List.set_cons_succ]
        refine takeL 1 73 (.pointer (some ⟨t, 0, none⟩)) rfl (by kernel_rfl) (by kernel_rfl) (by kernel_rfl) (by kernel_rfl) (by kernel_rfl) (fun _ _ _ h => h) (by kernel_rfl) (fun w hw => by go_simp) hH ?_
        simp only [List.setIfInBounds_toArray, List.set_cons_zero, List.set_cons_succ]
        refine takeL 2 74 (.pointer (some ⟨t, 5, none⟩)) rfl (by kernel_rfl) (by kernel_rfl) (by kernel_rfl) (by kernel_rfl) (by kernel_rfl) (fun _ _ _ h => h) (by kernel_rfl) (fun w hw => by go_simp) hH ?_
        simp only [List.setIfInBounds_toArray, List.set_cons_zero, List.set_cons_succ]
        refine takeL 3 75 (.int .i64 σ.blocks) rfl (by kernel_rfl) (by kernel_rfl) (by kernel_rfl) (by kernel_rfl) (by kernel_rfl) (fun _ _ _ h => h) (by kernel_rfl) (fun w hw => by (try dsimp only at hw); obtain ⟨hw1, hw2⟩ := hw; go_simp) hH ?_
        simp only [List.setIfInBounds_toArray, List.set_cons_zero, List.set_cons_succ]
        refine takeL 4 76 (.slice ao p.length c') rfl (by kernel_rfl) (by kernel_rfl) (by kernel_rfl) (by kernel_rfl) (by kernel_rfl) (fun _ _ _ h => h) (by kernel_rfl) (fun w hw => by kernel_rfl) hH ?_
        simp only [List.setIfInBounds_toArray, List.set_cons_zero, List.set_cons_succ]
        refine takeL 6 78 (.pointer (some ⟨b, 0, none⟩)) rfl (by kernel_rfl) (by kernel_rfl) (by kernel_rfl) (by kernel_rfl) (by kernel_rfl) (fun _ _ _ h => h) (by kernel_rfl) (fun w hw => by kernel_rfl) hH ?_
        simp only [List.setIfInBounds_toArray, List.set_cons_zero, List.set_cons_succ]
        refine stepL_call 5 77 rfl (by kernel_rfl) (by kernel_rfl) (by kernel_rfl) 52 #[.tmp 76] #[40] (by kernel_rfl) (enters_of Tryz.func52 (by kernel_rfl) rfl) #[.slice ao p.length c'] (by kernel_rfl) (room_any _ _ _ _ (p.map (·.1)) (HLU.out.blw XB0.out) (by have := HOK.out.2; omega)) ?_
        rintro e' Wr ⟨rfl, hbr⟩
        have XR : Hid (Below U.heap.size U Wr) := Hid.mk (XB0.out.trans (hbr.mono XB0.out.size))
        clear hbr
        refine ⟨.int .i64 (roomL (p.map (·.1))), rfl, HT5.out _ XR.out, ?_⟩
        simp only [List.setIfInBounds_toArray, List.set_cons_zero, List.set_cons_succ]
        refine stepL_call 7 79 rfl (by kernel_rfl) (by kernel_rfl) (by kernel_rfl) 51 #[.tmp 78] #[49] (by kernel_rfl) (enters_of Tryz.func51 (by kernel_rfl) rfl) #[.pointer (some ⟨b, 0, none⟩)] (by kernel_rfl) (HN2.out _ XR.out) ?_
        rintro e' Wn ⟨ao', c5, rfl, hown, hbn⟩
        obtain ⟨ao5, c6, ev, hla⟩ := owns_lat hown
        cases ev
        have XN : Hid (Below U.heap.size U Wn) := Hid.mk (XR.out.trans (hbn.mono XR.out.size))
        have LN := Hid.mk hla
        clear hown hbn hla
        refine ⟨_, rfl, HT5.out _ XN.out, ?_⟩
        simp only [List.setIfInBounds_toArray, List.set_cons_zero, List.set_cons_succ]
        refine stepL_call 8 80 rfl (by kernel_rfl) (by kernel_rfl) (by kernel_rfl) 52 #[.tmp 79] #[40] (by kernel_rfl) (enters_of Tryz.func52 (by kernel_rfl) rfl) #[.slice ao' (cutP N p).length c5] (by kernel_rfl) (room_any _ _ _ _ ((cutP N p).map (·.1)) LN.out (by have := HLC.out; omega)) ?_
        rintro e' Wz ⟨rfl, hbr⟩
        have XZ : Hid (Below U.heap.size U Wz) := Hid.mk (XN.out.trans (hbr.mono XN.out.size))
        clear hbr
        refine ⟨.int .i64 (roomL ((cutP N p).map (·.1))), rfl, HT5.out _ XZ.out, ?_⟩
        simp only [List.setIfInBounds_toArray, List.set_cons_zero, List.set_cons_succ]
        refine stepL_run 9 81 (.int .i64 (IntKind.i64.wrap (roomL (p.map (·.1)) - roomL ((cutP N p).map (·.1))))) Wz rfl (by kernel_rfl) (by kernel_rfl) (by kernel_rfl) (by go_simp) (HT5.out _ XZ.out) ?_
        simp only [List.setIfInBounds_toArray, List.set_cons_zero, List.set_cons_succ]
        rw [hwr]
        refine stepL_run 10 82 (.int .i64 (IntKind.i64.wrap (σ.blocks - (roomL (p.map (·.1)) - roomL ((cutP N p).map (·.1)))))) Wz rfl (by kernel_rfl) (by kernel_rfl) (by kernel_rfl) (by go_simp) (HT5.out _ XZ.out) ?_
        simp only [List.setIfInBounds_toArray, List.set_cons_zero, List.set_cons_succ]
        refine stepL_run 11 83 (.pointer (some ⟨t, 0, none⟩)) Wz rfl (by kernel_rfl) (by kernel_rfl) (by kernel_rfl) (by go_simp) (HT5.out _ XZ.out) ?_
        simp only [List.setIfInBounds_toArray, List.set_cons_zero, List.set_cons_succ]
        refine stepL_run 12 84 (.pointer (some ⟨t, 5, none⟩)) Wz rfl (by kernel_rfl) (by kernel_rfl) (by kernel_rfl) (by go_simp) (HT5.out _ XZ.out) ?_
        simp only [List.setIfInBounds_toArray, List.set_cons_zero, List.set_cons_succ]
        refine lastL (Wz.setCell ⟨t, 5, none⟩ (.int .i64 (IntKind.i64.wrap (σ.blocks - (roomL (p.map (·.1)) - roomL ((cutP N p).map (·.1))))))) rfl (by kernel_rfl) (by kernel_rfl) (by kernel_rfl) (exec_storeI (p := .tmp 84) (x := .tmp 82) (by kernel_rfl) (by kernel_rfl) (by kernel_rfl) (HT5.out _ XZ.out).1 (HT5.out _ XZ.out).2) (by kernel_rfl) ?_
        all_goals
          have hz := XZ.out
          have htz : TbAt Wz t σ.G σ.I σ.D (locL Ls 0) σ.inodes σ.blocks := (hz.block t (lt_of_block HTU.out)).trans HTU.out
          obtain ⟨bv, hbv⟩ : ∃ bv, bv = IntKind.i64.wrap (σ.blocks - (roomL (p.map (·.1)) - roomL ((cutP N p).map (·.1)))) := ⟨_, rfl⟩
          rw [← hbv]
          have HTZ : Hid (TbAt (World.setCell Wz ⟨t, 5, none⟩ (.int .i64 bv)) t σ.G σ.I σ.D (locL Ls 0) σ.inodes bv) := Hid.mk (by unfold TbAt; rw [blk_set htz]; rfl)
          have HOZ : Hid (Only (fun k => k = t ∨ k ∈ b :: m :: r) w (World.setCell Wz ⟨t, 5, none⟩ (.int .i64 bv))) := Hid.mk ((((Only.of_new (fun k => k = t ∨ k ∈ b :: m :: r) HB2.out).trans HUO.out (fun i hi => .inl (.inr hi))).trans (Only.of_new (fun _ => False) hz) (fun _ h => h.elim)).setCell (p := ⟨t, 5, none⟩) (.inl (.inl rfl)) _)
          have hbx : (World.setCell Wz ⟨t, 5, none⟩ (.int .i64 bv)).heap[w.heap.size + 1]? = some (.cells #[.int .i64 0, .slice none 0 0, .int .i64 0, .int .i64 0, .int .i64 0, .slice none 0 0, .int .i64 0] 31 (0, 0)) := (Below.heap_setCell _ _ _ _ (by have := HTT.out.1; show w.heap.size + 1 ≠ t; omega)).trans ((hz.block _ (lt_of_block HBX.out)).trans HBX.out)
          have HPE : Hid (PtAt (World.setCell Wz ⟨t, 5, none⟩ (.int .i64 bv)) m (putR x q pz rz) (cutP N p)) := Hid.mk (HUP.out.kept (fun q hq => (Below.heap_setCell _ _ _ _ (by
            show q ≠ t
            rcases List.mem_cons.1 hq with h | h
            · exact fun e => HTT.out.2 (by rw [← e, h]; simp)
            · exact fun e => HTT.out.2 (by rw [← e]; simp [HSC.out q h]))).trans (hz.block q (by
            rcases List.mem_cons.1 hq with h | h
            · rw [h]; exact HUP.out.blocks.lt
            · have h1 := (HRB.out q (HSC.out q h)).2.2.2
              have h2 := HUO.out.size
              have h3 := HB2.out.size
              omega))))
          have HNE : Hid ((World.setCell Wz ⟨t, 5, none⟩ (.int .i64 bv)).heap[b]? = some (.cells #[.int .i64 1, .int .i64 l, .int .i64 N, .map (some m), .slice none 0 0, .map none] 62 (0, 0))) := Hid.mk ((Below.heap_setCell _ _ _ _ (by show b ≠ t; exact fun e => HTT.out.2 (by rw [← e]; simp))).trans ((hz.block b (lt_of_block HUN.out)).trans HUN.out))
          generalize World.setCell Wz ⟨t, 5, none⟩ _ = E at *
          have BX := Hid.mk hbx
          have z0 := blk_cell hbx 0
          have y0 := blk_free hbx 0
          have z1 := blk_cell hbx 1
          have y1 := blk_free hbx 1
          have z2 := blk_cell hbx 2
          have y2 := blk_free hbx 2
          have z3 := blk_cell hbx 3
          have y3 := blk_free hbx 3
          have z4 := blk_cell hbx 4
          have y4 := blk_free hbx 4
          have z5 := blk_cell hbx 5
          have y5 := blk_free hbx 5
          have z6 := blk_cell hbx 6
          have y6 := blk_free hbx 6
          simp at z0 z1 z2 z3 z4 z5 z6
          clear hz htz hbx hwr
          go_wp2_with fail
          have hb7 := (box7 BX.out (.int .i64 0) (.slice none 0 0) (.int .i64 0) (.int .i64 0) (.int .i64 0) (.slice none 0 0) (.int .i64 0)).1
          have ho7 := (box7 BX.out (.int .i64 0) (.slice none 0 0) (.int .i64 0) (.int .i64 0) (.int .i64 0) (.slice none 0 0) (.int .i64 0)).2
          obtain ⟨Y, hY⟩ : ∃ Y, Y = (((((((E.setCell ⟨w.heap.size + 1, 0, none⟩ (.int .i64 0)).setCell ⟨w.heap.size + 1, 1, none⟩ (.slice none 0 0)).setCell ⟨w.heap.size + 1, 2, none⟩ (.int .i64 0)).setCell ⟨w.heap.size + 1, 3, none⟩ (.int .i64 0)).setCell ⟨w.heap.size + 1, 4, none⟩ (.int .i64 0)).setCell ⟨w.heap.size + 1, 5, none⟩ (.slice none 0 0)).setCell ⟨w.heap.size + 1, 6, none⟩ (.int .i64 0)) := ⟨_, rfl⟩
          rw [← hY] at hb7 ho7 ⊢
          have k0 := blk_cell hb7 0
          have k1 := blk_cell hb7 1
          have k2 := blk_cell hb7 2
          have k3 := blk_cell hb7 3
          have k4 := blk_cell hb7 4
          have k5 := blk_cell hb7 5
          have k6 := blk_cell hb7 6
          simp at k0 k1 k2 k3 k4 k5 k6
          refine bodyPost_ret (v := errV 0) ?_ rfl ⟨rfl, ?_⟩
          · simp [results, Tryz.results28, go_sem, errV, k0, k1, k2, k3, k4, k5, k6]
          · have hq := HQ.out
            have hlow : ∀ i, i < w.heap.size → i ≠ w.heap.size + 1 := fun i h => by omega
            have hrl : ∀ i ∈ b :: m :: (putR x q pz rz), i < w.heap.size := fun i hi => by
              rcases List.mem_cons.1 hi with h | h
              · have := HMB.out; omega
              · rcases List.mem_cons.1 h with h | h
                · have := HMB.out; omega
                · exact (HRB.out i (HSC.out i h)).2.2.2
            have hk7 : ∀ i, i < w.heap.size → i < E.heap.size → Y.heap[i]? = E.heap[i]? := fun i h hE => ho7.block i hE (hlow i h)
            have hsz := HOZ.out.size
            have hOY : Only (fun k => k = t ∨ k ∈ (Lay.file b m r).foot) w Y := HOZ.out.trans ho7 (fun i hi => .inr (by omega))
            have hPY : PtAt Y m (putR x q pz rz) (cutP N p) := HPE.out.kept (fun q hq => hk7 q (hrl q (List.mem_cons_of_mem _ hq)) (by have := hrl q (List.mem_cons_of_mem _ hq); omega))
            have hNY := (hk7 b HMB.out.2.1 (by have := HMB.out.2.1; omega)).trans HNE.out
            have hfin := HT.out.turn (L' := .file b m (putR x q pz rz)) (n' := .file l N (cutP N p)) hq.1 rfl hOY (i' := σ.inodes) (b' := bv) ((hk7 t HTT.out.1 (by have := HTT.out.1; omega)).trans HTZ.out) (hPY.file hNY) (fun q hq => .inl (by
              simp only [Lay.foot, List.mem_cons] at hq ⊢
              rcases hq with h | h | h
              · exact .inl h
              · exact .inr (.inl h)
              · exact .inr (.inr (HSC.out q h)))) (List.nodup_cons.2 ⟨fun h => by
                rcases List.mem_cons.1 h with h | h
                · exact HMB.out.2.2 h
                · exact (HRB.out _ (HSC.out _ h)).2.1 rfl, hPY.nd⟩) (fun q hq => by cases hq) (fun e => by
              subst e
              obtain ⟨l1, z1, s1, hr⟩ := HT.out.root
              have := hq.2.1
              rw [hr] at this
              cases this)
            refine ⟨⟨Ls.set j (.file b m (putR x q pz rz)), ?_, fun q hq2 => ?_⟩, hOY.mono (fun i _ hi => ?_)⟩
            · unfold truncT
              rw [hq.2.2.2.2, modify_set hq.2.1]
              rw [hbv, wrap_eq] at hfin
              exact hfin
            · rcases List.mem_cons.1 hq2 with rfl | hq2
              · exact .inl (by simp [feet])
              · obtain ⟨L, hL, hq3⟩ := List.mem_flatMap.1 hq2
                rcases List.mem_or_eq_of_mem_set hL with h | h
                · exact .inl (List.mem_cons_of_mem _ (List.mem_flatMap.2 ⟨L, h, hq3⟩))
                · subst h
                  refine .inl (mem_feet hq.1 ?_)
                  simp only [Lay.foot, List.mem_cons] at hq3 ⊢
                  rcases hq3 with h | h | h
                  · exact .inl h
                  · exact .inr (.inl h)
                  · exact .inr (.inr (HSC.out q h))
            · rcases hi with h | h
              · rw [h]; simp [feet]
              · exact mem_feet hq.1 h
end Go.Proofs.YtehaoeclnmelhacGreat
