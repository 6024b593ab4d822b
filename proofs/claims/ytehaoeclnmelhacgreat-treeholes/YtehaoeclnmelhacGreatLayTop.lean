/-
  lose: the link that a file's name was.
-/
import Derived.Test.YtehaoeclnmelhacGreatLayRm
import Derived.Test.YtehaoeclnmelhacGreatTrDo
import Derived.Test.YtehaoeclnmelhacGreatTrLaw
import Derived.Deep.Cut
import Derived.Deep.CutRange
namespace Go.Proofs.YtehaoeclnmelhacGreat
open Go Go.Proofs Go.RowKit Go.Shelf Go.Sort

theorem FlAt.links {W : World} {b m : Nat} {r : List Nat} {l z : Int} {p : List (Int × List Int)} (h : FlAt W b m r l z p) (hnd : (b :: m :: r).Nodup) (l' : Int) : FlAt (W.setCell ⟨b, 1, none⟩ (.int .i64 l')) b m r l' z p := by
  have hb := List.nodup_cons.1 hnd
  refine ⟨by rw [blk_set h.node]; rfl, h.blocks.kept (Below.heap_setCell _ _ _ _ (fun e : m = b => hb.1 (by rw [← e]; simp))), h.len, fun i x q hx hq => ?_⟩
  rw [Below.heap_setCell _ _ _ _ (fun e : q = b => hb.1 (by rw [← e]; simp [List.mem_of_getElem? hq]))]
  exact h.rows i x q hx hq
/-- A file's links turn. -/
theorem TrAt.flinks {W : World} {t : Nat} {σ : Tr} {Ls : List Lay} (h : TrAt W t σ Ls) {d b m : Nat} {r : List Nat} {l z l' : Int} {s : List (Int × List Int)} (q1 : Ls[d]? = some (.file b m r)) (q2 : σ.nodes[d]? = some (.file l z s)) : TrAt (W.setCell ⟨b, 1, none⟩ (.int .i64 l')) t { σ with nodes := σ.nodes.set d (.file l' z s) } Ls := by
  have hd : FlAt W b m r l z s := h.node d _ _ q1 q2
  have hnd : (b :: m :: r).Nodup := foot_nodup (List.nodup_cons.1 h.apart).2 q1
  have htb : t ≠ b := fun e => (List.nodup_cons.1 h.apart).1 (List.mem_flatMap.2 ⟨_, List.mem_of_getElem? q1, by rw [e]; simp [Lay.foot]⟩)
  have := h.turn (L' := .file b m r) (n' := .file l' z s) (i' := σ.inodes) (b' := σ.blocks) q1 rfl ((Only.refl (fun k => k = t ∨ k ∈ (Lay.file b m r).foot) W).setCell (p := ⟨b, 1, none⟩) (.inl (.inr (by simp [Lay.foot]))) (.int .i64 l'))
    (by unfold TbAt; rw [Below.heap_setCell _ _ _ _ htb]; exact h.tree) (hd.links hnd l') (fun k hk => .inl hk) hnd (fun q hq => by cases hq) (fun e => by
      obtain ⟨l0, z0, s0, h0⟩ := h.root
      rw [e, h0] at q2
      cases q2)
  have e : Ls.set d (.file b m r) = Ls := by
    apply List.ext_getElem?
    intro i
    by_cases hi : i = d
    · subst hi; rw [List.getElem?_set_self (List.getElem?_eq_some_iff.1 q1).1, q1]
    · rw [List.getElem?_set_ne (fun h => hi h.symm)]
  rwa [e] at this
theorem TrAt.fileAt {W : World} {t : Nat} {σ : Tr} {Ls : List Lay} (h : TrAt W t σ Ls) {d : Nat} (hd : d < σ.nodes.length) (hk : (nodeAt σ.nodes d).isDir = false) : ∃ b m r l z p, Ls[d]? = some (.file b m r) ∧ σ.nodes[d]? = some (.file l z p) ∧ FlAt W b m r l z p ∧ locL Ls d = b ∧ nodeAt σ.nodes d = .file l z p := by
  obtain ⟨L, n, h1, h2, h3, h4⟩ := h.get hd
  have e : nodeAt σ.nodes d = n := by unfold nodeAt; rw [List.getD, h2]; rfl
  rw [e] at hk
  cases n with
  | dir l z s => cases hk
  | file l z p =>
    obtain ⟨b, m, r, rfl, hf⟩ := h3.kind_file
    exact ⟨b, m, r, l, z, p, h1, h2, hf, h4, e⟩
/-- A file has a link less. -/
def loseM (σ : Tr) (j : Nat) : Tr := { σ with nodes := σ.nodes.modify j (fun x => x.more (-1)) }
/-- A file had its last link. -/
def loseL (σ : Tr) (j : Nat) : Tr := { σ with inodes := w64 (σ.inodes - 1), blocks := w64 (σ.blocks - roomL (nodeAt σ.nodes j).nos), nodes := σ.nodes.modify j (fun x => x.more (-1)) }
set_option maxRecDepth 100000 in
set_option maxHeartbeats 4000000 in
theorem lose_more (w : World) (t : Nat) (σ : Tr) (Ls : List Lay) (hT : TrAt w t σ Ls) (hOk : ∀ x ∈ σ.nodes, x.Ok) (d j : Nat) (p : ByteArray) (hj : j < σ.nodes.length) (hjk : (nodeAt σ.nodes j).isDir = false) (hl :  0 < wrap64 ((nodeAt σ.nodes j).links - 1)) :
    Calls Tryz.prog 43 #[ptrV t, .agg #[ptrV (locL Ls d), .string p, ptrV (locL Ls j)]] w fun e w' => e = .returned (.tuple #[]) ∧ Step (fun k => k ∈ feet t Ls) w t w' (loseM σ j) := by
  have HT := Hid.mk hT
  have HOK := Hid.mk hOk
  clear hT hOk
  unfold ptrV
  go_enter Tryz.func43, Tryz.ntmps43
  go_upto_region 1 with fail
  obtain ⟨X, hX⟩ : ∃ X, X = w.alloc (.cells #[.pointer (some ⟨locL Ls d, 0, none⟩), .string p, .pointer (some ⟨locL Ls j, 0, none⟩)] 69) := ⟨_, rfl⟩
  have hXB : Below w.heap.size w X := by rw [hX]; exact (Below.refl _ w).alloc (Nat.le_refl _) _
  have hX0 : X.heap[w.heap.size]? = some (.cells #[.pointer (some ⟨locL Ls d, 0, none⟩), .string p, .pointer (some ⟨locL Ls j, 0, none⟩)] 69 (0, 0)) := by rw [hX]; exact blk_new w _
  rw [← hX]
  clear hX
  have x2 := blk_cell hX0 2
  simp at x2
  have hT1 := HT.out.below rfl hXB
  obtain ⟨b, m, r, l, z, s, q1, q2, q3, q4, q5⟩ := hT1.fileAt hj hjk
  rw [q5] at hl
  simp only [Nd.links] at hl
  have g0 := blk_cell q3.node 0
  have e1 := blk_cell q3.node 1
  have f1 := blk_free q3.node 1
  simp at g0 e1
  have htb : t ≠ b := fun e => (List.nodup_cons.1 hT1.apart).1 (List.mem_flatMap.2 ⟨_, List.mem_of_getElem? q1, by rw [e]; simp [Lay.foot]⟩)
  have hbt : ¬ b = t := fun e => htb e.symm
  rw [q4] at x2 ⊢
  have HT2 := Hid.mk (hT1.flinks (l' := wrap64 (l - 1)) q1 q2)
  have HX := Hid.mk hXB
  have HQ2 := Hid.mk q2
  have HBF : Hid (b ∈ feet t Ls) := Hid.mk (mem_feet q1 (by simp [Lay.foot]))
  have e1' : (X.setCell ⟨b, 1, none⟩ (.int .i64 (wrap64 (l - 1)))).cell? ⟨b, 1, none⟩ = some (.int .i64 (wrap64 (l - 1))) := by rw [blk_cell (blk_set q3.node)]; rfl
  clear hT1 q1 q2 q3 q4 q5 hX0 hXB
  go_wp2
  refine bodyPost_ret (results_none rfl _ _ _) rfl ?_
  refine ⟨rfl, ⟨⟨Ls, ?_, fun k hk => .inl hk⟩, (Only.of_new (fun k => k ∈ feet t Ls) HX.out).setCell (p := ⟨b, 1, none⟩) (.inl HBF.out) _⟩⟩
  unfold loseM
  rw [modify_set HQ2.out, show (Nd.file l z s).more (-1) = .file (wrap64 (l - 1)) z s from by simp only [Nd.more, w64, Int.sub_eq_add_neg]]
  exact HT2.out
set_option maxRecDepth 100000 in
set_option maxHeartbeats 4000000 in
theorem lose_last (w : World) (t : Nat) (σ : Tr) (Ls : List Lay) (hT : TrAt w t σ Ls) (hOk : ∀ x ∈ σ.nodes, x.Ok) (d j : Nat) (p : ByteArray) (hj : j < σ.nodes.length) (hjk : (nodeAt σ.nodes j).isDir = false) (hl : ¬ 0 < wrap64 ((nodeAt σ.nodes j).links - 1)) :
    Calls Tryz.prog 43 #[ptrV t, .agg #[ptrV (locL Ls d), .string p, ptrV (locL Ls j)]] w fun e w' => e = .returned (.tuple #[]) ∧ Step (fun k => k ∈ feet t Ls) w t w' (loseL σ j) := by
  have HT := Hid.mk hT
  have HOK := Hid.mk hOk
  clear hT hOk
  unfold ptrV
  go_enter Tryz.func43, Tryz.ntmps43
  go_upto_region 1 with fail
  obtain ⟨X, hX⟩ : ∃ X, X = w.alloc (.cells #[.pointer (some ⟨locL Ls d, 0, none⟩), .string p, .pointer (some ⟨locL Ls j, 0, none⟩)] 69) := ⟨_, rfl⟩
  have hXB : Below w.heap.size w X := by rw [hX]; exact (Below.refl _ w).alloc (Nat.le_refl _) _
  have hX0 : X.heap[w.heap.size]? = some (.cells #[.pointer (some ⟨locL Ls d, 0, none⟩), .string p, .pointer (some ⟨locL Ls j, 0, none⟩)] 69 (0, 0)) := by rw [hX]; exact blk_new w _
  rw [← hX]
  clear hX
  have x2 := blk_cell hX0 2
  simp at x2
  have hT1 := HT.out.below rfl hXB
  obtain ⟨b, m, r, l, z, s, q1, q2, q3, q4, q5⟩ := hT1.fileAt hj hjk
  rw [q5] at hl
  simp only [Nd.links] at hl
  have g0 := blk_cell q3.node 0
  have e1 := blk_cell q3.node 1
  have f1 := blk_free q3.node 1
  simp at g0 e1
  have htb : t ≠ b := fun e => (List.nodup_cons.1 hT1.apart).1 (List.mem_flatMap.2 ⟨_, List.mem_of_getElem? q1, by rw [e]; simp [Lay.foot]⟩)
  have hbt : ¬ b = t := fun e => htb e.symm
  rw [q4] at x2 ⊢
  have HT2 := Hid.mk (hT1.flinks (l' := wrap64 (l - 1)) q1 q2)
  have HX := Hid.mk hXB
  have HQ2 := Hid.mk q2
  have HBF : Hid (b ∈ feet t Ls) := Hid.mk (mem_feet q1 (by simp [Lay.foot]))
  have e1' : (X.setCell ⟨b, 1, none⟩ (.int .i64 (wrap64 (l - 1)))).cell? ⟨b, 1, none⟩ = some (.int .i64 (wrap64 (l - 1))) := by rw [blk_cell (blk_set q3.node)]; rfl
  have h4 := HT2.out.count (i' := wrap64 (σ.inodes - 1)) (b' := σ.blocks) ((Only.refl (fun k => k = t) _).setCell (p := ⟨t, 4, none⟩) (.inl rfl) (.int .i64 (wrap64 (σ.inodes - 1)))) (by unfold TbAt; rw [blk_set HT2.out.tree]; rfl)
  have HT4 := Hid.mk h4
  have e4' : (X.setCell ⟨b, 1, none⟩ (.int .i64 (wrap64 (l - 1)))).cell? ⟨t, 4, none⟩ = some (.int .i64 σ.inodes) := by rw [blk_cell HT2.out.tree]; rfl
  have f4' : (X.setCell ⟨b, 1, none⟩ (.int .i64 (wrap64 (l - 1)))).frozen? ⟨t, 4, none⟩ = false := blk_free HT2.out.tree 4
  clear hT1 q1 q2 q3 q5 hX0 hXB h4
  go_upto_region 7 with fail
  generalize hV : World.setCell (World.setCell X _ _) _ _ = V at *
  have HV := Hid.mk hV
  have hjl : j < (σ.nodes.set j (.file (wrap64 (l - 1)) z s)).length := by simpa using hj
  obtain ⟨A, n4, a1, a2, a3, a4⟩ := HT4.out.get hjl
  have hn4 : n4.nos = (nodeAt σ.nodes j).nos ∧ n4.Ok := by
    have hq := HQ2.out
    have a2' : (σ.nodes.set j (.file (wrap64 (l - 1)) z s))[j]? = some n4 := a2
    rw [List.getElem?_set_self (by simpa using hj)] at a2'
    cases a2'
    have e2 : nodeAt σ.nodes j = .file l z s := by unfold nodeAt; rw [List.getD, hq]; rfl
    rw [e2]
    have hok := HOK.out _ (List.mem_of_getElem? hq)
    exact ⟨rfl, hok⟩
  have HNO : Hid (∀ W, Below V.heap.size V W → _) := Hid.mk (fun W (hB : Below V.heap.size V W) => nos_any W (locL Ls) A n4 (a3.kept (fun k hk => hB.block k (a3.lt k hk))) hn4.2)
  rw [← a4, q4] at HNO
  have HLN := Hid.mk (nos_len n4 hn4.2)
  have HNE := Hid.mk hn4.1
  have HT5 : Hid (∀ W, Below V.heap.size V W → W.cell? ⟨t, 5, none⟩ = some (.int .i64 σ.blocks) ∧ W.frozen? ⟨t, 5, none⟩ = false) := Hid.mk (fun W hB => by
    have e := (hB.block t (lt_of_block HT4.out.tree)).trans HT4.out.tree
    exact ⟨by rw [blk_cell e]; rfl, blk_free e 5⟩)
  obtain ⟨u5, v5⟩ := HT5.out V.drew (Below.refl _ V).drew
  have XB0 : Hid (Below V.heap.size V V.drew) := Hid.mk (Below.refl _ V).drew
  clear hV a1 a2 a3 a4 hn4 hjl e1 f1 e4' f4' g0 x2 e1' q4
  go_region_with (first
    | (go_at_call 51; refine (HNO.out _ XB0.out).mono ?_; rintro e' Wn ⟨ao', c', rfl, hown, hbn⟩; obtain ⟨ao2, c2, ev, hla⟩ := owns_lat hown; cases ev; have XN : Hid (Below V.heap.size V Wn) := Hid.mk (XB0.out.trans (hbn.mono XB0.out.size)); have LN := Hid.mk hla; obtain ⟨u6, v6⟩ := HT5.out _ XN.out; clear hown hbn hla)
    | (go_at_call 52; refine (room_any _ _ _ _ n4.nos LN.out (by have := HLN.out; omega)).mono ?_; rintro e' Wr ⟨rfl, hbr⟩; have XR : Hid (Below V.heap.size V Wr) := Hid.mk (XN.out.trans (hbr.mono XN.out.size)); obtain ⟨u7, v7⟩ := HT5.out _ XR.out; clear hbr))
  all_goals
    have hr := XR.out
    have hTr := HT4.out.below rfl hr
    go_wp2
    go_end0
    refine ⟨rfl, ?_⟩
    have hfin := hTr.count (i' := wrap64 (σ.inodes - 1)) (b' := wrap64 (σ.blocks - roomL n4.nos)) ((Only.refl (fun k => k = t) Wr).setCell (p := ⟨t, 5, none⟩) (.inl rfl) (.int .i64 (wrap64 (σ.blocks - roomL n4.nos)))) (by unfold TbAt; rw [blk_set hTr.tree]; rfl)
    have hon : Only (fun k => k ∈ feet t Ls) w V := by
      rw [← HV.out]
      exact ((Only.of_new (fun k => k ∈ feet t Ls) HX.out).setCell (p := ⟨b, 1, none⟩) (.inl HBF.out) _).setCell (p := ⟨t, 4, none⟩) (.inl (by simp [feet])) _
    refine ⟨⟨Ls, ?_, fun k hk => .inl hk⟩, (hon.trans (Only.of_new (fun _ => False) hr) (fun _ h => h.elim)).setCell (p := ⟨t, 5, none⟩) (.inl (by simp [feet])) _⟩
    unfold loseL
    rw [wrap_eq, modify_set HQ2.out, ← HNE.out, show (Nd.file l z s).more (-1) = .file (wrap64 (l - 1)) z s from by simp only [Nd.more, w64, Int.sub_eq_add_neg]]
    exact hfin
end Go.Proofs.YtehaoeclnmelhacGreat
namespace Go.Proofs.YtehaoeclnmelhacGreat
open Go Go.Proofs Go.RowKit Go.Shelf Go.Sort

set_option maxRecDepth 100000 in
set_option maxHeartbeats 4000000 in
theorem do_link (w : World) (t : Nat) (σ' : Tr) (Ls : List Lay) (s s2 : ByteArray) (off m : Int) (dp : Option Addr) (dl dc : Nat) (e0 e2 e3 e4 e6 : Int) (Q : Value → Value → World → Prop) (hlt : ∀ k ∈ feet t Ls, k < w.heap.size) (hQ : ∀ (x y : Value) (W1 W2 : World), Q x y W1 → Only (fun k => k = w.heap.size + 1) W1 W2 → Q x y W2)
    (HC : Hid (∀ W, Below w.heap.size w W → w.heap.size + 2 ≤ W.heap.size → Calls Tryz.prog 22 #[ptrV t, callV 3 s s2 off m (.slice dp dl dc)] W fun e w' => ∃ a1 n1 c1 a5 n5 c5, e = .returned (.agg #[.int .i64 e0, .slice a1 n1 c1, .int .i64 e2, .int .i64 e3, .int .i64 e4, .slice a5 n5 c5, .int .i64 e6]) ∧ Step (fun k => k ∈ feet t Ls) W t w' σ' ∧ Q (.slice a1 n1 c1) (.slice a5 n5 c5) w')) :
    Calls Tryz.prog 9 #[ptrV t, callV 3 s s2 off m (.slice dp dl dc)] w fun e w' => ∃ a1 n1 c1 a5 n5 c5, e = .returned (.agg #[.int .i64 e0, .slice a1 n1 c1, .int .i64 e2, .int .i64 e3, .int .i64 e4, .slice a5 n5 c5, .int .i64 e6]) ∧ Step (fun k => k ∈ feet t Ls) w t w' σ' ∧ Q (.slice a1 n1 c1) (.slice a5 n5 c5) w' := by
  have mixed : Tryz.prog.follows Departure.mixedOrders = true := by kernel_rfl
  have HK := Hid.mk (fun W => kinds_any W)
  have HLT := Hid.mk hlt
  have HQ := Hid.mk hQ
  clear hlt hQ
  unfold callV ptrV at *
  go_enter Tryz.func9, Tryz.ntmps9
  go_wp2_with fail
  obtain ⟨X, hX⟩ : ∃ X, X = (w.alloc (.cells #[.int .i64 3, .string s, .string s2, .int .i64 off, .int .i64 m, .slice dp dl dc] 34)).alloc (.cells #[.int .i64 0, .slice none 0 0, .int .i64 0, .int .i64 0, .int .i64 0, .slice none 0 0, .int .i64 0] 31) := ⟨_, rfl⟩
  have hXB : Below w.heap.size w X := by rw [hX]; exact ((Below.refl _ w).alloc (Nat.le_refl _) _).alloc (by simp) _
  have hXs : X.heap.size = w.heap.size + 2 := by rw [hX]; simp
  have hX0 : X.heap[w.heap.size]? = some (.cells #[.int .i64 3, .string s, .string s2, .int .i64 off, .int .i64 m, .slice dp dl dc] 34 (0, 0)) := by rw [hX, Below.heap_alloc _ _ _ (by simp)]; exact blk_new w _
  have hX1 : X.heap[w.heap.size + 1]? = some (.cells #[.int .i64 0, .slice none 0 0, .int .i64 0, .int .i64 0, .int .i64 0, .slice none 0 0, .int .i64 0] 31 (0, 0)) := by
    rw [hX]
    have := blk_new (w.alloc (.cells #[.int .i64 3, .string s, .string s2, .int .i64 off, .int .i64 m, .slice dp dl dc] 34)) (.cells #[.int .i64 0, .slice none 0 0, .int .i64 0, .int .i64 0, .int .i64 0, .slice none 0 0, .int .i64 0] 31)
    rwa [World.size_alloc] at this
  rw [← hX]
  clear hX
  have c0 := blk_cell hX0 0
  simp at c0
  have HXB := Hid.mk hXB
  have HXS := Hid.mk hXs
  have HX0 := Hid.mk hX0
  have HX1 := Hid.mk hX1
  have HBX : Hid (∀ W, Below X.drew.heap.size X.drew W → W.cell? ⟨w.heap.size, 0, none⟩ = some (.int .i64 3)) := Hid.mk (fun W hB => by
    rw [blk_cell ((hB.block w.heap.size (show w.heap.size < X.heap.size by omega)).trans hX0)]; rfl)
  clear hXB hXs hX0 hX1
  go_cut [5, 6] from 7 to 13 (fun s5 s6 wc => s5 = .func (.func 22) #[] #[] ∧ s6 = .bool true ∧ Below X.heap.size X wc)
  case first =>
    go_region_with (go_at_call 18; refine (HK.out _).mono ?_; rintro e' Wn ⟨rfl, ⟨n, hm⟩, hbn⟩; have hlk := hm.look2 keyed3 Tryz.underlying55 (zero_fn _) (key_int (k := 3) (by decide)); rw [kind_link] at hlk; simp only [Option.getD_some, Option.isSome_some] at hlk; have hlk2 : (Instr.lookup 55 (.map (some X.heap.size)) (.int .i64 3) true).run Tryz.prog Wn = .ok (.tuple #[.func (.func 22) #[] #[], .bool true]) Wn := hlk; clear hlk; have cn := HBX.out Wn hbn; have XB := Hid.mk hbn; clear hm hbn)
    all_goals (go_wp2; go_meet; exact ⟨rfl, rfl, (Below.refl _ X).drew.trans XB.out⟩)
  case rest =>
    obtain ⟨rfl, rfl, hB⟩ := hcut
    have q0 := (hB.block w.heap.size (by have := HXS.out; omega)).trans HX0.out
    have q1 := (hB.block (w.heap.size + 1) (by have := HXS.out; omega)).trans HX1.out
    have g0 := blk_cell q0 0
    have g1 := blk_cell q0 1
    have g2 := blk_cell q0 2
    have g3 := blk_cell q0 3
    have g4 := blk_cell q0 4
    have g5 := blk_cell q0 5
    simp at g0 g1 g2 g3 g4 g5
    have hwB : Below w.heap.size w wc := HXB.out.trans (hB.mono HXB.out.size)
    have HCC := Hid.mk (HC.out wc hwB (by have := HXS.out; have := hB.size; omega))
    have HWB := Hid.mk hwB
    have HQ1 := Hid.mk q1
    have HSZ : Hid (w.heap.size + 2 ≤ wc.heap.size) := Hid.mk (by have := HXS.out; have := hB.size; omega)
    clear hB q0 q1 hwB
    go_wp2_with fail
    refine HCC.out.mono ?_
    rintro e' W2 ⟨a1, n1, c1, a5, n5, c5, rfl, hst, hq⟩
    have hnot : ¬ (w.heap.size + 1 ∈ feet t Ls) := fun h => by have := HLT.out _ h; omega
    have hbx := (hst.only.block (w.heap.size + 1) (by have := HSZ.out; omega) hnot).trans HQ1.out
    have z0 := blk_cell hbx 0
    have z1 := blk_cell hbx 1
    have z2 := blk_cell hbx 2
    have z3 := blk_cell hbx 3
    have z4 := blk_cell hbx 4
    have z5 := blk_cell hbx 5
    have z6 := blk_cell hbx 6
    have y0 := blk_free hbx 0
    have y1 := blk_free hbx 1
    have y2 := blk_free hbx 2
    have y3 := blk_free hbx 3
    have y4 := blk_free hbx 4
    have y5 := blk_free hbx 5
    have y6 := blk_free hbx 6
    simp at z0 z1 z2 z3 z4 z5 z6
    obtain ⟨hb7, ho7⟩ := box7 hbx (.int .i64 e0) (.slice a1 n1 c1) (.int .i64 e2) (.int .i64 e3) (.int .i64 e4) (.slice a5 n5 c5) (.int .i64 e6)
    have STT : Hid (Step (fun k => k ∈ feet t Ls) w t (((((((W2.setCell ⟨w.heap.size + 1, 0, none⟩ (.int .i64 e0)).setCell ⟨w.heap.size + 1, 1, none⟩ (.slice a1 n1 c1)).setCell ⟨w.heap.size + 1, 2, none⟩ (.int .i64 e2)).setCell ⟨w.heap.size + 1, 3, none⟩ (.int .i64 e3)).setCell ⟨w.heap.size + 1, 4, none⟩ (.int .i64 e4)).setCell ⟨w.heap.size + 1, 5, none⟩ (.slice a5 n5 c5)).setCell ⟨w.heap.size + 1, 6, none⟩ (.int .i64 e6)) σ' ∧ Q (.slice a1 n1 c1) (.slice a5 n5 c5) (((((((W2.setCell ⟨w.heap.size + 1, 0, none⟩ (.int .i64 e0)).setCell ⟨w.heap.size + 1, 1, none⟩ (.slice a1 n1 c1)).setCell ⟨w.heap.size + 1, 2, none⟩ (.int .i64 e2)).setCell ⟨w.heap.size + 1, 3, none⟩ (.int .i64 e3)).setCell ⟨w.heap.size + 1, 4, none⟩ (.int .i64 e4)).setCell ⟨w.heap.size + 1, 5, none⟩ (.slice a5 n5 c5)).setCell ⟨w.heap.size + 1, 6, none⟩ (.int .i64 e6))) := Hid.mk ⟨hst.out HWB.out (fun k hk => .inl hk) (ho7.mono (fun i _ hi => by subst hi; exact ⟨by omega, by have := HSZ.out; omega, hnot⟩)), HQ.out _ _ _ _ hq ho7⟩
    have H7 := Hid.mk hb7
    clear hst hq hnot hbx hb7 ho7 g0 g1 g2 g3 g4 g5
    go_wp2_with fail
    obtain ⟨Y, hY⟩ : ∃ Y, Y = (((((((W2.setCell ⟨w.heap.size + 1, 0, none⟩ (.int .i64 e0)).setCell ⟨w.heap.size + 1, 1, none⟩ (.slice a1 n1 c1)).setCell ⟨w.heap.size + 1, 2, none⟩ (.int .i64 e2)).setCell ⟨w.heap.size + 1, 3, none⟩ (.int .i64 e3)).setCell ⟨w.heap.size + 1, 4, none⟩ (.int .i64 e4)).setCell ⟨w.heap.size + 1, 5, none⟩ (.slice a5 n5 c5)).setCell ⟨w.heap.size + 1, 6, none⟩ (.int .i64 e6)) := ⟨_, rfl⟩
    have hb7 := H7.out
    rw [← hY] at STT hb7 ⊢
    have k0 := blk_cell hb7 0
    have k1 := blk_cell hb7 1
    have k2 := blk_cell hb7 2
    have k3 := blk_cell hb7 3
    have k4 := blk_cell hb7 4
    have k5 := blk_cell hb7 5
    have k6 := blk_cell hb7 6
    simp at k0 k1 k2 k3 k4 k5 k6
    refine bodyPost_ret (v := .agg #[.int .i64 e0, .slice a1 n1 c1, .int .i64 e2, .int .i64 e3, .int .i64 e4, .slice a5 n5 c5, .int .i64 e6]) ?_ rfl ⟨_, _, _, _, _, _, rfl, STT.out.1, STT.out.2⟩
    simp [results, Tryz.results9, go_sem, k0, k1, k2, k3, k4, k5, k6]
set_option maxRecDepth 100000 in
set_option maxHeartbeats 4000000 in
theorem do_unlink (w : World) (t : Nat) (σ' : Tr) (Ls : List Lay) (s s2 : ByteArray) (off m : Int) (dp : Option Addr) (dl dc : Nat) (e0 e2 e3 e4 e6 : Int) (Q : Value → Value → World → Prop) (hlt : ∀ k ∈ feet t Ls, k < w.heap.size) (hQ : ∀ (x y : Value) (W1 W2 : World), Q x y W1 → Only (fun k => k = w.heap.size + 1) W1 W2 → Q x y W2)
    (HC : Hid (∀ W, Below w.heap.size w W → w.heap.size + 2 ≤ W.heap.size → Calls Tryz.prog 23 #[ptrV t, callV 4 s s2 off m (.slice dp dl dc)] W fun e w' => ∃ a1 n1 c1 a5 n5 c5, e = .returned (.agg #[.int .i64 e0, .slice a1 n1 c1, .int .i64 e2, .int .i64 e3, .int .i64 e4, .slice a5 n5 c5, .int .i64 e6]) ∧ Step (fun k => k ∈ feet t Ls) W t w' σ' ∧ Q (.slice a1 n1 c1) (.slice a5 n5 c5) w')) :
    Calls Tryz.prog 9 #[ptrV t, callV 4 s s2 off m (.slice dp dl dc)] w fun e w' => ∃ a1 n1 c1 a5 n5 c5, e = .returned (.agg #[.int .i64 e0, .slice a1 n1 c1, .int .i64 e2, .int .i64 e3, .int .i64 e4, .slice a5 n5 c5, .int .i64 e6]) ∧ Step (fun k => k ∈ feet t Ls) w t w' σ' ∧ Q (.slice a1 n1 c1) (.slice a5 n5 c5) w' := by
  have mixed : Tryz.prog.follows Departure.mixedOrders = true := by kernel_rfl
  have HK := Hid.mk (fun W => kinds_any W)
  have HLT := Hid.mk hlt
  have HQ := Hid.mk hQ
  clear hlt hQ
  unfold callV ptrV at *
  go_enter Tryz.func9, Tryz.ntmps9
  go_wp2_with fail
  obtain ⟨X, hX⟩ : ∃ X, X = (w.alloc (.cells #[.int .i64 4, .string s, .string s2, .int .i64 off, .int .i64 m, .slice dp dl dc] 34)).alloc (.cells #[.int .i64 0, .slice none 0 0, .int .i64 0, .int .i64 0, .int .i64 0, .slice none 0 0, .int .i64 0] 31) := ⟨_, rfl⟩
  have hXB : Below w.heap.size w X := by rw [hX]; exact ((Below.refl _ w).alloc (Nat.le_refl _) _).alloc (by simp) _
  have hXs : X.heap.size = w.heap.size + 2 := by rw [hX]; simp
  have hX0 : X.heap[w.heap.size]? = some (.cells #[.int .i64 4, .string s, .string s2, .int .i64 off, .int .i64 m, .slice dp dl dc] 34 (0, 0)) := by rw [hX, Below.heap_alloc _ _ _ (by simp)]; exact blk_new w _
  have hX1 : X.heap[w.heap.size + 1]? = some (.cells #[.int .i64 0, .slice none 0 0, .int .i64 0, .int .i64 0, .int .i64 0, .slice none 0 0, .int .i64 0] 31 (0, 0)) := by
    rw [hX]
    have := blk_new (w.alloc (.cells #[.int .i64 4, .string s, .string s2, .int .i64 off, .int .i64 m, .slice dp dl dc] 34)) (.cells #[.int .i64 0, .slice none 0 0, .int .i64 0, .int .i64 0, .int .i64 0, .slice none 0 0, .int .i64 0] 31)
    rwa [World.size_alloc] at this
  rw [← hX]
  clear hX
  have c0 := blk_cell hX0 0
  simp at c0
  have HXB := Hid.mk hXB
  have HXS := Hid.mk hXs
  have HX0 := Hid.mk hX0
  have HX1 := Hid.mk hX1
  have HBX : Hid (∀ W, Below X.drew.heap.size X.drew W → W.cell? ⟨w.heap.size, 0, none⟩ = some (.int .i64 4)) := Hid.mk (fun W hB => by
    rw [blk_cell ((hB.block w.heap.size (show w.heap.size < X.heap.size by omega)).trans hX0)]; rfl)
  clear hXB hXs hX0 hX1
  go_cut [5, 6] from 7 to 13 (fun s5 s6 wc => s5 = .func (.func 23) #[] #[] ∧ s6 = .bool true ∧ Below X.heap.size X wc)
  case first =>
    go_region_with (go_at_call 18; refine (HK.out _).mono ?_; rintro e' Wn ⟨rfl, ⟨n, hm⟩, hbn⟩; have hlk := hm.look2 keyed3 Tryz.underlying55 (zero_fn _) (key_int (k := 4) (by decide)); rw [kind_unlink] at hlk; simp only [Option.getD_some, Option.isSome_some] at hlk; have hlk2 : (Instr.lookup 55 (.map (some X.heap.size)) (.int .i64 4) true).run Tryz.prog Wn = .ok (.tuple #[.func (.func 23) #[] #[], .bool true]) Wn := hlk; clear hlk; have cn := HBX.out Wn hbn; have XB := Hid.mk hbn; clear hm hbn)
    all_goals (go_wp2; go_meet; exact ⟨rfl, rfl, (Below.refl _ X).drew.trans XB.out⟩)
  case rest =>
    obtain ⟨rfl, rfl, hB⟩ := hcut
    have q0 := (hB.block w.heap.size (by have := HXS.out; omega)).trans HX0.out
    have q1 := (hB.block (w.heap.size + 1) (by have := HXS.out; omega)).trans HX1.out
    have g0 := blk_cell q0 0
    have g1 := blk_cell q0 1
    have g2 := blk_cell q0 2
    have g3 := blk_cell q0 3
    have g4 := blk_cell q0 4
    have g5 := blk_cell q0 5
    simp at g0 g1 g2 g3 g4 g5
    have hwB : Below w.heap.size w wc := HXB.out.trans (hB.mono HXB.out.size)
    have HCC := Hid.mk (HC.out wc hwB (by have := HXS.out; have := hB.size; omega))
    have HWB := Hid.mk hwB
    have HQ1 := Hid.mk q1
    have HSZ : Hid (w.heap.size + 2 ≤ wc.heap.size) := Hid.mk (by have := HXS.out; have := hB.size; omega)
    clear hB q0 q1 hwB
    go_wp2_with fail
    refine HCC.out.mono ?_
    rintro e' W2 ⟨a1, n1, c1, a5, n5, c5, rfl, hst, hq⟩
    have hnot : ¬ (w.heap.size + 1 ∈ feet t Ls) := fun h => by have := HLT.out _ h; omega
    have hbx := (hst.only.block (w.heap.size + 1) (by have := HSZ.out; omega) hnot).trans HQ1.out
    have z0 := blk_cell hbx 0
    have z1 := blk_cell hbx 1
    have z2 := blk_cell hbx 2
    have z3 := blk_cell hbx 3
    have z4 := blk_cell hbx 4
    have z5 := blk_cell hbx 5
    have z6 := blk_cell hbx 6
    have y0 := blk_free hbx 0
    have y1 := blk_free hbx 1
    have y2 := blk_free hbx 2
    have y3 := blk_free hbx 3
    have y4 := blk_free hbx 4
    have y5 := blk_free hbx 5
    have y6 := blk_free hbx 6
    simp at z0 z1 z2 z3 z4 z5 z6
    obtain ⟨hb7, ho7⟩ := box7 hbx (.int .i64 e0) (.slice a1 n1 c1) (.int .i64 e2) (.int .i64 e3) (.int .i64 e4) (.slice a5 n5 c5) (.int .i64 e6)
    have STT : Hid (Step (fun k => k ∈ feet t Ls) w t (((((((W2.setCell ⟨w.heap.size + 1, 0, none⟩ (.int .i64 e0)).setCell ⟨w.heap.size + 1, 1, none⟩ (.slice a1 n1 c1)).setCell ⟨w.heap.size + 1, 2, none⟩ (.int .i64 e2)).setCell ⟨w.heap.size + 1, 3, none⟩ (.int .i64 e3)).setCell ⟨w.heap.size + 1, 4, none⟩ (.int .i64 e4)).setCell ⟨w.heap.size + 1, 5, none⟩ (.slice a5 n5 c5)).setCell ⟨w.heap.size + 1, 6, none⟩ (.int .i64 e6)) σ' ∧ Q (.slice a1 n1 c1) (.slice a5 n5 c5) (((((((W2.setCell ⟨w.heap.size + 1, 0, none⟩ (.int .i64 e0)).setCell ⟨w.heap.size + 1, 1, none⟩ (.slice a1 n1 c1)).setCell ⟨w.heap.size + 1, 2, none⟩ (.int .i64 e2)).setCell ⟨w.heap.size + 1, 3, none⟩ (.int .i64 e3)).setCell ⟨w.heap.size + 1, 4, none⟩ (.int .i64 e4)).setCell ⟨w.heap.size + 1, 5, none⟩ (.slice a5 n5 c5)).setCell ⟨w.heap.size + 1, 6, none⟩ (.int .i64 e6))) := Hid.mk ⟨hst.out HWB.out (fun k hk => .inl hk) (ho7.mono (fun i _ hi => by subst hi; exact ⟨by omega, by have := HSZ.out; omega, hnot⟩)), HQ.out _ _ _ _ hq ho7⟩
    have H7 := Hid.mk hb7
    clear hst hq hnot hbx hb7 ho7 g0 g1 g2 g3 g4 g5
    go_wp2_with fail
    obtain ⟨Y, hY⟩ : ∃ Y, Y = (((((((W2.setCell ⟨w.heap.size + 1, 0, none⟩ (.int .i64 e0)).setCell ⟨w.heap.size + 1, 1, none⟩ (.slice a1 n1 c1)).setCell ⟨w.heap.size + 1, 2, none⟩ (.int .i64 e2)).setCell ⟨w.heap.size + 1, 3, none⟩ (.int .i64 e3)).setCell ⟨w.heap.size + 1, 4, none⟩ (.int .i64 e4)).setCell ⟨w.heap.size + 1, 5, none⟩ (.slice a5 n5 c5)).setCell ⟨w.heap.size + 1, 6, none⟩ (.int .i64 e6)) := ⟨_, rfl⟩
    have hb7 := H7.out
    rw [← hY] at STT hb7 ⊢
    have k0 := blk_cell hb7 0
    have k1 := blk_cell hb7 1
    have k2 := blk_cell hb7 2
    have k3 := blk_cell hb7 3
    have k4 := blk_cell hb7 4
    have k5 := blk_cell hb7 5
    have k6 := blk_cell hb7 6
    simp at k0 k1 k2 k3 k4 k5 k6
    refine bodyPost_ret (v := .agg #[.int .i64 e0, .slice a1 n1 c1, .int .i64 e2, .int .i64 e3, .int .i64 e4, .slice a5 n5 c5, .int .i64 e6]) ?_ rfl ⟨_, _, _, _, _, _, rfl, STT.out.1, STT.out.2⟩
    simp [results, Tryz.results9, go_sem, k0, k1, k2, k3, k4, k5, k6]
set_option maxRecDepth 100000 in
set_option maxHeartbeats 4000000 in
theorem do_list (w : World) (t : Nat) (σ' : Tr) (Ls : List Lay) (s s2 : ByteArray) (off m : Int) (dp : Option Addr) (dl dc : Nat) (e0 e2 e3 e4 e6 : Int) (Q : Value → Value → World → Prop) (hlt : ∀ k ∈ feet t Ls, k < w.heap.size) (hQ : ∀ (x y : Value) (W1 W2 : World), Q x y W1 → Only (fun k => k = w.heap.size + 1) W1 W2 → Q x y W2)
    (HC : Hid (∀ W, Below w.heap.size w W → w.heap.size + 2 ≤ W.heap.size → Calls Tryz.prog 30 #[ptrV t, callV 11 s s2 off m (.slice dp dl dc)] W fun e w' => ∃ a1 n1 c1 a5 n5 c5, e = .returned (.agg #[.int .i64 e0, .slice a1 n1 c1, .int .i64 e2, .int .i64 e3, .int .i64 e4, .slice a5 n5 c5, .int .i64 e6]) ∧ Step (fun k => k ∈ feet t Ls) W t w' σ' ∧ Q (.slice a1 n1 c1) (.slice a5 n5 c5) w')) :
    Calls Tryz.prog 9 #[ptrV t, callV 11 s s2 off m (.slice dp dl dc)] w fun e w' => ∃ a1 n1 c1 a5 n5 c5, e = .returned (.agg #[.int .i64 e0, .slice a1 n1 c1, .int .i64 e2, .int .i64 e3, .int .i64 e4, .slice a5 n5 c5, .int .i64 e6]) ∧ Step (fun k => k ∈ feet t Ls) w t w' σ' ∧ Q (.slice a1 n1 c1) (.slice a5 n5 c5) w' := by
  have mixed : Tryz.prog.follows Departure.mixedOrders = true := by kernel_rfl
  have HK := Hid.mk (fun W => kinds_any W)
  have HLT := Hid.mk hlt
  have HQ := Hid.mk hQ
  clear hlt hQ
  unfold callV ptrV at *
  go_enter Tryz.func9, Tryz.ntmps9
  go_wp2_with fail
  obtain ⟨X, hX⟩ : ∃ X, X = (w.alloc (.cells #[.int .i64 11, .string s, .string s2, .int .i64 off, .int .i64 m, .slice dp dl dc] 34)).alloc (.cells #[.int .i64 0, .slice none 0 0, .int .i64 0, .int .i64 0, .int .i64 0, .slice none 0 0, .int .i64 0] 31) := ⟨_, rfl⟩
  have hXB : Below w.heap.size w X := by rw [hX]; exact ((Below.refl _ w).alloc (Nat.le_refl _) _).alloc (by simp) _
  have hXs : X.heap.size = w.heap.size + 2 := by rw [hX]; simp
  have hX0 : X.heap[w.heap.size]? = some (.cells #[.int .i64 11, .string s, .string s2, .int .i64 off, .int .i64 m, .slice dp dl dc] 34 (0, 0)) := by rw [hX, Below.heap_alloc _ _ _ (by simp)]; exact blk_new w _
  have hX1 : X.heap[w.heap.size + 1]? = some (.cells #[.int .i64 0, .slice none 0 0, .int .i64 0, .int .i64 0, .int .i64 0, .slice none 0 0, .int .i64 0] 31 (0, 0)) := by
    rw [hX]
    have := blk_new (w.alloc (.cells #[.int .i64 11, .string s, .string s2, .int .i64 off, .int .i64 m, .slice dp dl dc] 34)) (.cells #[.int .i64 0, .slice none 0 0, .int .i64 0, .int .i64 0, .int .i64 0, .slice none 0 0, .int .i64 0] 31)
    rwa [World.size_alloc] at this
  rw [← hX]
  clear hX
  have c0 := blk_cell hX0 0
  simp at c0
  have HXB := Hid.mk hXB
  have HXS := Hid.mk hXs
  have HX0 := Hid.mk hX0
  have HX1 := Hid.mk hX1
  have HBX : Hid (∀ W, Below X.drew.heap.size X.drew W → W.cell? ⟨w.heap.size, 0, none⟩ = some (.int .i64 11)) := Hid.mk (fun W hB => by
    rw [blk_cell ((hB.block w.heap.size (show w.heap.size < X.heap.size by omega)).trans hX0)]; rfl)
  clear hXB hXs hX0 hX1
  go_cut [5, 6] from 7 to 13 (fun s5 s6 wc => s5 = .func (.func 30) #[] #[] ∧ s6 = .bool true ∧ Below X.heap.size X wc)
  case first =>
    go_region_with (go_at_call 18; refine (HK.out _).mono ?_; rintro e' Wn ⟨rfl, ⟨n, hm⟩, hbn⟩; have hlk := hm.look2 keyed3 Tryz.underlying55 (zero_fn _) (key_int (k := 11) (by decide)); rw [kind_list] at hlk; simp only [Option.getD_some, Option.isSome_some] at hlk; have hlk2 : (Instr.lookup 55 (.map (some X.heap.size)) (.int .i64 11) true).run Tryz.prog Wn = .ok (.tuple #[.func (.func 30) #[] #[], .bool true]) Wn := hlk; clear hlk; have cn := HBX.out Wn hbn; have XB := Hid.mk hbn; clear hm hbn)
    all_goals (go_wp2; go_meet; exact ⟨rfl, rfl, (Below.refl _ X).drew.trans XB.out⟩)
  case rest =>
    obtain ⟨rfl, rfl, hB⟩ := hcut
    have q0 := (hB.block w.heap.size (by have := HXS.out; omega)).trans HX0.out
    have q1 := (hB.block (w.heap.size + 1) (by have := HXS.out; omega)).trans HX1.out
    have g0 := blk_cell q0 0
    have g1 := blk_cell q0 1
    have g2 := blk_cell q0 2
    have g3 := blk_cell q0 3
    have g4 := blk_cell q0 4
    have g5 := blk_cell q0 5
    simp at g0 g1 g2 g3 g4 g5
    have hwB : Below w.heap.size w wc := HXB.out.trans (hB.mono HXB.out.size)
    have HCC := Hid.mk (HC.out wc hwB (by have := HXS.out; have := hB.size; omega))
    have HWB := Hid.mk hwB
    have HQ1 := Hid.mk q1
    have HSZ : Hid (w.heap.size + 2 ≤ wc.heap.size) := Hid.mk (by have := HXS.out; have := hB.size; omega)
    clear hB q0 q1 hwB
    go_wp2_with fail
    refine HCC.out.mono ?_
    rintro e' W2 ⟨a1, n1, c1, a5, n5, c5, rfl, hst, hq⟩
    have hnot : ¬ (w.heap.size + 1 ∈ feet t Ls) := fun h => by have := HLT.out _ h; omega
    have hbx := (hst.only.block (w.heap.size + 1) (by have := HSZ.out; omega) hnot).trans HQ1.out
    have z0 := blk_cell hbx 0
    have z1 := blk_cell hbx 1
    have z2 := blk_cell hbx 2
    have z3 := blk_cell hbx 3
    have z4 := blk_cell hbx 4
    have z5 := blk_cell hbx 5
    have z6 := blk_cell hbx 6
    have y0 := blk_free hbx 0
    have y1 := blk_free hbx 1
    have y2 := blk_free hbx 2
    have y3 := blk_free hbx 3
    have y4 := blk_free hbx 4
    have y5 := blk_free hbx 5
    have y6 := blk_free hbx 6
    simp at z0 z1 z2 z3 z4 z5 z6
    obtain ⟨hb7, ho7⟩ := box7 hbx (.int .i64 e0) (.slice a1 n1 c1) (.int .i64 e2) (.int .i64 e3) (.int .i64 e4) (.slice a5 n5 c5) (.int .i64 e6)
    have STT : Hid (Step (fun k => k ∈ feet t Ls) w t (((((((W2.setCell ⟨w.heap.size + 1, 0, none⟩ (.int .i64 e0)).setCell ⟨w.heap.size + 1, 1, none⟩ (.slice a1 n1 c1)).setCell ⟨w.heap.size + 1, 2, none⟩ (.int .i64 e2)).setCell ⟨w.heap.size + 1, 3, none⟩ (.int .i64 e3)).setCell ⟨w.heap.size + 1, 4, none⟩ (.int .i64 e4)).setCell ⟨w.heap.size + 1, 5, none⟩ (.slice a5 n5 c5)).setCell ⟨w.heap.size + 1, 6, none⟩ (.int .i64 e6)) σ' ∧ Q (.slice a1 n1 c1) (.slice a5 n5 c5) (((((((W2.setCell ⟨w.heap.size + 1, 0, none⟩ (.int .i64 e0)).setCell ⟨w.heap.size + 1, 1, none⟩ (.slice a1 n1 c1)).setCell ⟨w.heap.size + 1, 2, none⟩ (.int .i64 e2)).setCell ⟨w.heap.size + 1, 3, none⟩ (.int .i64 e3)).setCell ⟨w.heap.size + 1, 4, none⟩ (.int .i64 e4)).setCell ⟨w.heap.size + 1, 5, none⟩ (.slice a5 n5 c5)).setCell ⟨w.heap.size + 1, 6, none⟩ (.int .i64 e6))) := Hid.mk ⟨hst.out HWB.out (fun k hk => .inl hk) (ho7.mono (fun i _ hi => by subst hi; exact ⟨by omega, by have := HSZ.out; omega, hnot⟩)), HQ.out _ _ _ _ hq ho7⟩
    have H7 := Hid.mk hb7
    clear hst hq hnot hbx hb7 ho7 g0 g1 g2 g3 g4 g5
    go_wp2_with fail
    obtain ⟨Y, hY⟩ : ∃ Y, Y = (((((((W2.setCell ⟨w.heap.size + 1, 0, none⟩ (.int .i64 e0)).setCell ⟨w.heap.size + 1, 1, none⟩ (.slice a1 n1 c1)).setCell ⟨w.heap.size + 1, 2, none⟩ (.int .i64 e2)).setCell ⟨w.heap.size + 1, 3, none⟩ (.int .i64 e3)).setCell ⟨w.heap.size + 1, 4, none⟩ (.int .i64 e4)).setCell ⟨w.heap.size + 1, 5, none⟩ (.slice a5 n5 c5)).setCell ⟨w.heap.size + 1, 6, none⟩ (.int .i64 e6)) := ⟨_, rfl⟩
    have hb7 := H7.out
    rw [← hY] at STT hb7 ⊢
    have k0 := blk_cell hb7 0
    have k1 := blk_cell hb7 1
    have k2 := blk_cell hb7 2
    have k3 := blk_cell hb7 3
    have k4 := blk_cell hb7 4
    have k5 := blk_cell hb7 5
    have k6 := blk_cell hb7 6
    simp at k0 k1 k2 k3 k4 k5 k6
    refine bodyPost_ret (v := .agg #[.int .i64 e0, .slice a1 n1 c1, .int .i64 e2, .int .i64 e3, .int .i64 e4, .slice a5 n5 c5, .int .i64 e6]) ?_ rfl ⟨_, _, _, _, _, _, rfl, STT.out.1, STT.out.2⟩
    simp [results, Tryz.results9, go_sem, k0, k1, k2, k3, k4, k5, k6]
set_option maxRecDepth 100000 in
set_option maxHeartbeats 4000000 in
theorem do_fsync (w : World) (t : Nat) (σ' : Tr) (Ls : List Lay) (s s2 : ByteArray) (off m : Int) (dp : Option Addr) (dl dc : Nat) (e0 e2 e3 e4 e6 : Int) (Q : Value → Value → World → Prop) (hlt : ∀ k ∈ feet t Ls, k < w.heap.size) (hQ : ∀ (x y : Value) (W1 W2 : World), Q x y W1 → Only (fun k => k = w.heap.size + 1) W1 W2 → Q x y W2)
    (HC : Hid (∀ W, Below w.heap.size w W → w.heap.size + 2 ≤ W.heap.size → Calls Tryz.prog 31 #[ptrV t, callV 12 s s2 off m (.slice dp dl dc)] W fun e w' => ∃ a1 n1 c1 a5 n5 c5, e = .returned (.agg #[.int .i64 e0, .slice a1 n1 c1, .int .i64 e2, .int .i64 e3, .int .i64 e4, .slice a5 n5 c5, .int .i64 e6]) ∧ Step (fun k => k ∈ feet t Ls) W t w' σ' ∧ Q (.slice a1 n1 c1) (.slice a5 n5 c5) w')) :
    Calls Tryz.prog 9 #[ptrV t, callV 12 s s2 off m (.slice dp dl dc)] w fun e w' => ∃ a1 n1 c1 a5 n5 c5, e = .returned (.agg #[.int .i64 e0, .slice a1 n1 c1, .int .i64 e2, .int .i64 e3, .int .i64 e4, .slice a5 n5 c5, .int .i64 e6]) ∧ Step (fun k => k ∈ feet t Ls) w t w' σ' ∧ Q (.slice a1 n1 c1) (.slice a5 n5 c5) w' := by
  have mixed : Tryz.prog.follows Departure.mixedOrders = true := by kernel_rfl
  have HK := Hid.mk (fun W => kinds_any W)
  have HLT := Hid.mk hlt
  have HQ := Hid.mk hQ
  clear hlt hQ
  unfold callV ptrV at *
  go_enter Tryz.func9, Tryz.ntmps9
  go_wp2_with fail
  obtain ⟨X, hX⟩ : ∃ X, X = (w.alloc (.cells #[.int .i64 12, .string s, .string s2, .int .i64 off, .int .i64 m, .slice dp dl dc] 34)).alloc (.cells #[.int .i64 0, .slice none 0 0, .int .i64 0, .int .i64 0, .int .i64 0, .slice none 0 0, .int .i64 0] 31) := ⟨_, rfl⟩
  have hXB : Below w.heap.size w X := by rw [hX]; exact ((Below.refl _ w).alloc (Nat.le_refl _) _).alloc (by simp) _
  have hXs : X.heap.size = w.heap.size + 2 := by rw [hX]; simp
  have hX0 : X.heap[w.heap.size]? = some (.cells #[.int .i64 12, .string s, .string s2, .int .i64 off, .int .i64 m, .slice dp dl dc] 34 (0, 0)) := by rw [hX, Below.heap_alloc _ _ _ (by simp)]; exact blk_new w _
  have hX1 : X.heap[w.heap.size + 1]? = some (.cells #[.int .i64 0, .slice none 0 0, .int .i64 0, .int .i64 0, .int .i64 0, .slice none 0 0, .int .i64 0] 31 (0, 0)) := by
    rw [hX]
    have := blk_new (w.alloc (.cells #[.int .i64 12, .string s, .string s2, .int .i64 off, .int .i64 m, .slice dp dl dc] 34)) (.cells #[.int .i64 0, .slice none 0 0, .int .i64 0, .int .i64 0, .int .i64 0, .slice none 0 0, .int .i64 0] 31)
    rwa [World.size_alloc] at this
  rw [← hX]
  clear hX
  have c0 := blk_cell hX0 0
  simp at c0
  have HXB := Hid.mk hXB
  have HXS := Hid.mk hXs
  have HX0 := Hid.mk hX0
  have HX1 := Hid.mk hX1
  have HBX : Hid (∀ W, Below X.drew.heap.size X.drew W → W.cell? ⟨w.heap.size, 0, none⟩ = some (.int .i64 12)) := Hid.mk (fun W hB => by
    rw [blk_cell ((hB.block w.heap.size (show w.heap.size < X.heap.size by omega)).trans hX0)]; rfl)
  clear hXB hXs hX0 hX1
  go_cut [5, 6] from 7 to 13 (fun s5 s6 wc => s5 = .func (.func 31) #[] #[] ∧ s6 = .bool true ∧ Below X.heap.size X wc)
  case first =>
    go_region_with (go_at_call 18; refine (HK.out _).mono ?_; rintro e' Wn ⟨rfl, ⟨n, hm⟩, hbn⟩; have hlk := hm.look2 keyed3 Tryz.underlying55 (zero_fn _) (key_int (k := 12) (by decide)); rw [kind_fsync] at hlk; simp only [Option.getD_some, Option.isSome_some] at hlk; have hlk2 : (Instr.lookup 55 (.map (some X.heap.size)) (.int .i64 12) true).run Tryz.prog Wn = .ok (.tuple #[.func (.func 31) #[] #[], .bool true]) Wn := hlk; clear hlk; have cn := HBX.out Wn hbn; have XB := Hid.mk hbn; clear hm hbn)
    all_goals (go_wp2; go_meet; exact ⟨rfl, rfl, (Below.refl _ X).drew.trans XB.out⟩)
  case rest =>
    obtain ⟨rfl, rfl, hB⟩ := hcut
    have q0 := (hB.block w.heap.size (by have := HXS.out; omega)).trans HX0.out
    have q1 := (hB.block (w.heap.size + 1) (by have := HXS.out; omega)).trans HX1.out
    have g0 := blk_cell q0 0
    have g1 := blk_cell q0 1
    have g2 := blk_cell q0 2
    have g3 := blk_cell q0 3
    have g4 := blk_cell q0 4
    have g5 := blk_cell q0 5
    simp at g0 g1 g2 g3 g4 g5
    have hwB : Below w.heap.size w wc := HXB.out.trans (hB.mono HXB.out.size)
    have HCC := Hid.mk (HC.out wc hwB (by have := HXS.out; have := hB.size; omega))
    have HWB := Hid.mk hwB
    have HQ1 := Hid.mk q1
    have HSZ : Hid (w.heap.size + 2 ≤ wc.heap.size) := Hid.mk (by have := HXS.out; have := hB.size; omega)
    clear hB q0 q1 hwB
    go_wp2_with fail
    refine HCC.out.mono ?_
    rintro e' W2 ⟨a1, n1, c1, a5, n5, c5, rfl, hst, hq⟩
    have hnot : ¬ (w.heap.size + 1 ∈ feet t Ls) := fun h => by have := HLT.out _ h; omega
    have hbx := (hst.only.block (w.heap.size + 1) (by have := HSZ.out; omega) hnot).trans HQ1.out
    have z0 := blk_cell hbx 0
    have z1 := blk_cell hbx 1
    have z2 := blk_cell hbx 2
    have z3 := blk_cell hbx 3
    have z4 := blk_cell hbx 4
    have z5 := blk_cell hbx 5
    have z6 := blk_cell hbx 6
    have y0 := blk_free hbx 0
    have y1 := blk_free hbx 1
    have y2 := blk_free hbx 2
    have y3 := blk_free hbx 3
    have y4 := blk_free hbx 4
    have y5 := blk_free hbx 5
    have y6 := blk_free hbx 6
    simp at z0 z1 z2 z3 z4 z5 z6
    obtain ⟨hb7, ho7⟩ := box7 hbx (.int .i64 e0) (.slice a1 n1 c1) (.int .i64 e2) (.int .i64 e3) (.int .i64 e4) (.slice a5 n5 c5) (.int .i64 e6)
    have STT : Hid (Step (fun k => k ∈ feet t Ls) w t (((((((W2.setCell ⟨w.heap.size + 1, 0, none⟩ (.int .i64 e0)).setCell ⟨w.heap.size + 1, 1, none⟩ (.slice a1 n1 c1)).setCell ⟨w.heap.size + 1, 2, none⟩ (.int .i64 e2)).setCell ⟨w.heap.size + 1, 3, none⟩ (.int .i64 e3)).setCell ⟨w.heap.size + 1, 4, none⟩ (.int .i64 e4)).setCell ⟨w.heap.size + 1, 5, none⟩ (.slice a5 n5 c5)).setCell ⟨w.heap.size + 1, 6, none⟩ (.int .i64 e6)) σ' ∧ Q (.slice a1 n1 c1) (.slice a5 n5 c5) (((((((W2.setCell ⟨w.heap.size + 1, 0, none⟩ (.int .i64 e0)).setCell ⟨w.heap.size + 1, 1, none⟩ (.slice a1 n1 c1)).setCell ⟨w.heap.size + 1, 2, none⟩ (.int .i64 e2)).setCell ⟨w.heap.size + 1, 3, none⟩ (.int .i64 e3)).setCell ⟨w.heap.size + 1, 4, none⟩ (.int .i64 e4)).setCell ⟨w.heap.size + 1, 5, none⟩ (.slice a5 n5 c5)).setCell ⟨w.heap.size + 1, 6, none⟩ (.int .i64 e6))) := Hid.mk ⟨hst.out HWB.out (fun k hk => .inl hk) (ho7.mono (fun i _ hi => by subst hi; exact ⟨by omega, by have := HSZ.out; omega, hnot⟩)), HQ.out _ _ _ _ hq ho7⟩
    have H7 := Hid.mk hb7
    clear hst hq hnot hbx hb7 ho7 g0 g1 g2 g3 g4 g5
    go_wp2_with fail
    obtain ⟨Y, hY⟩ : ∃ Y, Y = (((((((W2.setCell ⟨w.heap.size + 1, 0, none⟩ (.int .i64 e0)).setCell ⟨w.heap.size + 1, 1, none⟩ (.slice a1 n1 c1)).setCell ⟨w.heap.size + 1, 2, none⟩ (.int .i64 e2)).setCell ⟨w.heap.size + 1, 3, none⟩ (.int .i64 e3)).setCell ⟨w.heap.size + 1, 4, none⟩ (.int .i64 e4)).setCell ⟨w.heap.size + 1, 5, none⟩ (.slice a5 n5 c5)).setCell ⟨w.heap.size + 1, 6, none⟩ (.int .i64 e6)) := ⟨_, rfl⟩
    have hb7 := H7.out
    rw [← hY] at STT hb7 ⊢
    have k0 := blk_cell hb7 0
    have k1 := blk_cell hb7 1
    have k2 := blk_cell hb7 2
    have k3 := blk_cell hb7 3
    have k4 := blk_cell hb7 4
    have k5 := blk_cell hb7 5
    have k6 := blk_cell hb7 6
    simp at k0 k1 k2 k3 k4 k5 k6
    refine bodyPost_ret (v := .agg #[.int .i64 e0, .slice a1 n1 c1, .int .i64 e2, .int .i64 e3, .int .i64 e4, .slice a5 n5 c5, .int .i64 e6]) ?_ rfl ⟨_, _, _, _, _, _, rfl, STT.out.1, STT.out.2⟩
    simp [results, Tryz.results9, go_sem, k0, k1, k2, k3, k4, k5, k6]
set_option maxRecDepth 100000 in
set_option maxHeartbeats 4000000 in
theorem do_sync (w : World) (t : Nat) (σ' : Tr) (Ls : List Lay) (s s2 : ByteArray) (off m : Int) (dp : Option Addr) (dl dc : Nat) (e0 e2 e3 e4 e6 : Int) (Q : Value → Value → World → Prop) (hlt : ∀ k ∈ feet t Ls, k < w.heap.size) (hQ : ∀ (x y : Value) (W1 W2 : World), Q x y W1 → Only (fun k => k = w.heap.size + 1) W1 W2 → Q x y W2)
    (HC : Hid (∀ W, Below w.heap.size w W → w.heap.size + 2 ≤ W.heap.size → Calls Tryz.prog 32 #[ptrV t, callV 13 s s2 off m (.slice dp dl dc)] W fun e w' => ∃ a1 n1 c1 a5 n5 c5, e = .returned (.agg #[.int .i64 e0, .slice a1 n1 c1, .int .i64 e2, .int .i64 e3, .int .i64 e4, .slice a5 n5 c5, .int .i64 e6]) ∧ Step (fun k => k ∈ feet t Ls) W t w' σ' ∧ Q (.slice a1 n1 c1) (.slice a5 n5 c5) w')) :
    Calls Tryz.prog 9 #[ptrV t, callV 13 s s2 off m (.slice dp dl dc)] w fun e w' => ∃ a1 n1 c1 a5 n5 c5, e = .returned (.agg #[.int .i64 e0, .slice a1 n1 c1, .int .i64 e2, .int .i64 e3, .int .i64 e4, .slice a5 n5 c5, .int .i64 e6]) ∧ Step (fun k => k ∈ feet t Ls) w t w' σ' ∧ Q (.slice a1 n1 c1) (.slice a5 n5 c5) w' := by
  have mixed : Tryz.prog.follows Departure.mixedOrders = true := by kernel_rfl
  have HK := Hid.mk (fun W => kinds_any W)
  have HLT := Hid.mk hlt
  have HQ := Hid.mk hQ
  clear hlt hQ
  unfold callV ptrV at *
  go_enter Tryz.func9, Tryz.ntmps9
  go_wp2_with fail
  obtain ⟨X, hX⟩ : ∃ X, X = (w.alloc (.cells #[.int .i64 13, .string s, .string s2, .int .i64 off, .int .i64 m, .slice dp dl dc] 34)).alloc (.cells #[.int .i64 0, .slice none 0 0, .int .i64 0, .int .i64 0, .int .i64 0, .slice none 0 0, .int .i64 0] 31) := ⟨_, rfl⟩
  have hXB : Below w.heap.size w X := by rw [hX]; exact ((Below.refl _ w).alloc (Nat.le_refl _) _).alloc (by simp) _
  have hXs : X.heap.size = w.heap.size + 2 := by rw [hX]; simp
  have hX0 : X.heap[w.heap.size]? = some (.cells #[.int .i64 13, .string s, .string s2, .int .i64 off, .int .i64 m, .slice dp dl dc] 34 (0, 0)) := by rw [hX, Below.heap_alloc _ _ _ (by simp)]; exact blk_new w _
  have hX1 : X.heap[w.heap.size + 1]? = some (.cells #[.int .i64 0, .slice none 0 0, .int .i64 0, .int .i64 0, .int .i64 0, .slice none 0 0, .int .i64 0] 31 (0, 0)) := by
    rw [hX]
    have := blk_new (w.alloc (.cells #[.int .i64 13, .string s, .string s2, .int .i64 off, .int .i64 m, .slice dp dl dc] 34)) (.cells #[.int .i64 0, .slice none 0 0, .int .i64 0, .int .i64 0, .int .i64 0, .slice none 0 0, .int .i64 0] 31)
    rwa [World.size_alloc] at this
  rw [← hX]
  clear hX
  have c0 := blk_cell hX0 0
  simp at c0
  have HXB := Hid.mk hXB
  have HXS := Hid.mk hXs
  have HX0 := Hid.mk hX0
  have HX1 := Hid.mk hX1
  have HBX : Hid (∀ W, Below X.drew.heap.size X.drew W → W.cell? ⟨w.heap.size, 0, none⟩ = some (.int .i64 13)) := Hid.mk (fun W hB => by
    rw [blk_cell ((hB.block w.heap.size (show w.heap.size < X.heap.size by omega)).trans hX0)]; rfl)
  clear hXB hXs hX0 hX1
  go_cut [5, 6] from 7 to 13 (fun s5 s6 wc => s5 = .func (.func 32) #[] #[] ∧ s6 = .bool true ∧ Below X.heap.size X wc)
  case first =>
    go_region_with (go_at_call 18; refine (HK.out _).mono ?_; rintro e' Wn ⟨rfl, ⟨n, hm⟩, hbn⟩; have hlk := hm.look2 keyed3 Tryz.underlying55 (zero_fn _) (key_int (k := 13) (by decide)); rw [kind_sync] at hlk; simp only [Option.getD_some, Option.isSome_some] at hlk; have hlk2 : (Instr.lookup 55 (.map (some X.heap.size)) (.int .i64 13) true).run Tryz.prog Wn = .ok (.tuple #[.func (.func 32) #[] #[], .bool true]) Wn := hlk; clear hlk; have cn := HBX.out Wn hbn; have XB := Hid.mk hbn; clear hm hbn)
    all_goals (go_wp2; go_meet; exact ⟨rfl, rfl, (Below.refl _ X).drew.trans XB.out⟩)
  case rest =>
    obtain ⟨rfl, rfl, hB⟩ := hcut
    have q0 := (hB.block w.heap.size (by have := HXS.out; omega)).trans HX0.out
    have q1 := (hB.block (w.heap.size + 1) (by have := HXS.out; omega)).trans HX1.out
    have g0 := blk_cell q0 0
    have g1 := blk_cell q0 1
    have g2 := blk_cell q0 2
    have g3 := blk_cell q0 3
    have g4 := blk_cell q0 4
    have g5 := blk_cell q0 5
    simp at g0 g1 g2 g3 g4 g5
    have hwB : Below w.heap.size w wc := HXB.out.trans (hB.mono HXB.out.size)
    have HCC := Hid.mk (HC.out wc hwB (by have := HXS.out; have := hB.size; omega))
    have HWB := Hid.mk hwB
    have HQ1 := Hid.mk q1
    have HSZ : Hid (w.heap.size + 2 ≤ wc.heap.size) := Hid.mk (by have := HXS.out; have := hB.size; omega)
    clear hB q0 q1 hwB
    go_wp2_with fail
    refine HCC.out.mono ?_
    rintro e' W2 ⟨a1, n1, c1, a5, n5, c5, rfl, hst, hq⟩
    have hnot : ¬ (w.heap.size + 1 ∈ feet t Ls) := fun h => by have := HLT.out _ h; omega
    have hbx := (hst.only.block (w.heap.size + 1) (by have := HSZ.out; omega) hnot).trans HQ1.out
    have z0 := blk_cell hbx 0
    have z1 := blk_cell hbx 1
    have z2 := blk_cell hbx 2
    have z3 := blk_cell hbx 3
    have z4 := blk_cell hbx 4
    have z5 := blk_cell hbx 5
    have z6 := blk_cell hbx 6
    have y0 := blk_free hbx 0
    have y1 := blk_free hbx 1
    have y2 := blk_free hbx 2
    have y3 := blk_free hbx 3
    have y4 := blk_free hbx 4
    have y5 := blk_free hbx 5
    have y6 := blk_free hbx 6
    simp at z0 z1 z2 z3 z4 z5 z6
    obtain ⟨hb7, ho7⟩ := box7 hbx (.int .i64 e0) (.slice a1 n1 c1) (.int .i64 e2) (.int .i64 e3) (.int .i64 e4) (.slice a5 n5 c5) (.int .i64 e6)
    have STT : Hid (Step (fun k => k ∈ feet t Ls) w t (((((((W2.setCell ⟨w.heap.size + 1, 0, none⟩ (.int .i64 e0)).setCell ⟨w.heap.size + 1, 1, none⟩ (.slice a1 n1 c1)).setCell ⟨w.heap.size + 1, 2, none⟩ (.int .i64 e2)).setCell ⟨w.heap.size + 1, 3, none⟩ (.int .i64 e3)).setCell ⟨w.heap.size + 1, 4, none⟩ (.int .i64 e4)).setCell ⟨w.heap.size + 1, 5, none⟩ (.slice a5 n5 c5)).setCell ⟨w.heap.size + 1, 6, none⟩ (.int .i64 e6)) σ' ∧ Q (.slice a1 n1 c1) (.slice a5 n5 c5) (((((((W2.setCell ⟨w.heap.size + 1, 0, none⟩ (.int .i64 e0)).setCell ⟨w.heap.size + 1, 1, none⟩ (.slice a1 n1 c1)).setCell ⟨w.heap.size + 1, 2, none⟩ (.int .i64 e2)).setCell ⟨w.heap.size + 1, 3, none⟩ (.int .i64 e3)).setCell ⟨w.heap.size + 1, 4, none⟩ (.int .i64 e4)).setCell ⟨w.heap.size + 1, 5, none⟩ (.slice a5 n5 c5)).setCell ⟨w.heap.size + 1, 6, none⟩ (.int .i64 e6))) := Hid.mk ⟨hst.out HWB.out (fun k hk => .inl hk) (ho7.mono (fun i _ hi => by subst hi; exact ⟨by omega, by have := HSZ.out; omega, hnot⟩)), HQ.out _ _ _ _ hq ho7⟩
    have H7 := Hid.mk hb7
    clear hst hq hnot hbx hb7 ho7 g0 g1 g2 g3 g4 g5
    go_wp2_with fail
    obtain ⟨Y, hY⟩ : ∃ Y, Y = (((((((W2.setCell ⟨w.heap.size + 1, 0, none⟩ (.int .i64 e0)).setCell ⟨w.heap.size + 1, 1, none⟩ (.slice a1 n1 c1)).setCell ⟨w.heap.size + 1, 2, none⟩ (.int .i64 e2)).setCell ⟨w.heap.size + 1, 3, none⟩ (.int .i64 e3)).setCell ⟨w.heap.size + 1, 4, none⟩ (.int .i64 e4)).setCell ⟨w.heap.size + 1, 5, none⟩ (.slice a5 n5 c5)).setCell ⟨w.heap.size + 1, 6, none⟩ (.int .i64 e6)) := ⟨_, rfl⟩
    have hb7 := H7.out
    rw [← hY] at STT hb7 ⊢
    have k0 := blk_cell hb7 0
    have k1 := blk_cell hb7 1
    have k2 := blk_cell hb7 2
    have k3 := blk_cell hb7 3
    have k4 := blk_cell hb7 4
    have k5 := blk_cell hb7 5
    have k6 := blk_cell hb7 6
    simp at k0 k1 k2 k3 k4 k5 k6
    refine bodyPost_ret (v := .agg #[.int .i64 e0, .slice a1 n1 c1, .int .i64 e2, .int .i64 e3, .int .i64 e4, .slice a5 n5 c5, .int .i64 e6]) ?_ rfl ⟨_, _, _, _, _, _, rfl, STT.out.1, STT.out.2⟩
    simp [results, Tryz.results9, go_sem, k0, k1, k2, k3, k4, k5, k6]
end Go.Proofs.YtehaoeclnmelhacGreat
namespace Go.Proofs.YtehaoeclnmelhacGreat
open Go Go.Proofs Go.RowKit Go.Shelf Go.Sort

/-- The names of slots, in their order. -/
def listL (s : List Slt) : List (List UInt8) := s.filterMap (fun o => o.map (·.2))
theorem list_step {s : List Slt} {k : Nat} (hk : k < s.length) : listL (s.take (k + 1)) = listL (s.take k) ++ ((s.getD k none).map (·.2)).toList := by
  unfold listL
  rw [List.take_succ_eq_append_getElem hk, List.filterMap_append]
  have e : s.getD k none = s[k] := by simp [List.getD, List.getElem?_eq_getElem hk]
  rw [e]
  cases s[k] <;> simp
theorem list_len (s : List Slt) (k : Nat) : (listL (s.take k)).length ≤ k := by
  unfold listL
  have := List.length_filterMap_le (fun o : Slt => o.map (·.2)) (s.take k)
  simp at this
  omega
set_option maxRecDepth 100000 in
set_option maxHeartbeats 4000000 in
theorem list_wrong (w : World) (t : Nat) (σ : Tr) (Ls : List Lay) (hT : TrAt w t σ Ls) (k : Int) (s s2 : ByteArray) (off m : Int) (dp : Option Addr) (dl dc : Nat) (hs : s.size ≤ 16777216) (e : Int) (he : nodeE σ.nodes (ofS s) = (none, e)) (hne : e ≠ 0) :
    Calls Tryz.prog 30 #[ptrV t, callV k s s2 off m (.slice dp dl dc)] w fun x w' => x = .returned (errV e) ∧ Below w.heap.size w w' := by
  have HN : Hid (∀ W, Below w.heap.size w W → _) := Hid.mk (fun W (hB : Below w.heap.size w W) => node_any W t σ Ls (hT.below rfl hB) s hs)
  rw [he] at HN
  simp only [optV] at HN
  clear hT hs he
  unfold callV ptrV at *
  go_enter Tryz.func30, Tryz.ntmps30
  go_wp2_with fail
  obtain ⟨X, hX⟩ : ∃ X, X = (w.alloc (.cells #[.int .i64 k, .string s, .string s2, .int .i64 off, .int .i64 m, .slice dp dl dc] 34)).alloc (.cells #[.int .i64 0, .slice none 0 0, .int .i64 0, .int .i64 0, .int .i64 0, .slice none 0 0, .int .i64 0] 31) := ⟨_, rfl⟩
  have hXB : Below w.heap.size w X := by rw [hX]; exact ((Below.refl _ w).alloc (Nat.le_refl _) _).alloc (by simp) _
  have hXs : X.heap.size = w.heap.size + 2 := by rw [hX]; simp
  have hX0 : X.heap[w.heap.size]? = some (.cells #[.int .i64 k, .string s, .string s2, .int .i64 off, .int .i64 m, .slice dp dl dc] 34 (0, 0)) := by rw [hX, Below.heap_alloc _ _ _ (by simp)]; exact blk_new w _
  have hX1 : X.heap[w.heap.size + 1]? = some (.cells #[.int .i64 0, .slice none 0 0, .int .i64 0, .int .i64 0, .int .i64 0, .slice none 0 0, .int .i64 0] 31 (0, 0)) := by
    rw [hX]
    have := blk_new (w.alloc (.cells #[.int .i64 k, .string s, .string s2, .int .i64 off, .int .i64 m, .slice dp dl dc] 34)) (.cells #[.int .i64 0, .slice none 0 0, .int .i64 0, .int .i64 0, .int .i64 0, .slice none 0 0, .int .i64 0] 31)
    rwa [World.size_alloc] at this
  rw [← hX]
  clear hX
  refine (HN.out X hXB).mono ?_
  rintro e' W1 ⟨rfl, hB1⟩
  have hB : Below w.heap.size w W1 := hXB.trans (hB1.mono (by omega))
  have HF := Hid.mk (failed_any W1 e)
  have hbx1 := (hB1.block (w.heap.size + 1) (by omega)).trans hX1
  have HB1 := Hid.mk hbx1
  have HBB := Hid.mk hB
  clear hB hB1 hX0 hX1 hXB hXs hbx1
  go_wp2_with (go_at_call 19; refine HF.out.mono ?_; rintro e' W3 ⟨rfl, hb3⟩; have hbx := (hb3.block _ (lt_of_block HB1.out)).trans HB1.out; have z0 := blk_cell hbx 0; have y0 := blk_free hbx 0; have z1 := blk_cell hbx 1; have y1 := blk_free hbx 1; have z2 := blk_cell hbx 2; have y2 := blk_free hbx 2; have z3 := blk_cell hbx 3; have y3 := blk_free hbx 3; have z4 := blk_cell hbx 4; have y4 := blk_free hbx 4; have z5 := blk_cell hbx 5; have y5 := blk_free hbx 5; have z6 := blk_cell hbx 6; have y6 := blk_free hbx 6; simp at z0 z1 z2 z3 z4 z5 z6; have BXX := Hid.mk hbx; have HB3 := Hid.mk hb3; unfold errV; clear hbx hb3)
  have hb7 := (box7 BXX.out (.int .i64 e) (.slice none 0 0) (.int .i64 0) (.int .i64 0) (.int .i64 0) (.slice none 0 0) (.int .i64 0)).1
  have ho7 := (box7 BXX.out (.int .i64 e) (.slice none 0 0) (.int .i64 0) (.int .i64 0) (.int .i64 0) (.slice none 0 0) (.int .i64 0)).2
  obtain ⟨Y, hY⟩ : ∃ Y, Y = (((((((W3.setCell ⟨w.heap.size + 1, 0, none⟩ (.int .i64 e)).setCell ⟨w.heap.size + 1, 1, none⟩ (.slice none 0 0)).setCell ⟨w.heap.size + 1, 2, none⟩ (.int .i64 0)).setCell ⟨w.heap.size + 1, 3, none⟩ (.int .i64 0)).setCell ⟨w.heap.size + 1, 4, none⟩ (.int .i64 0)).setCell ⟨w.heap.size + 1, 5, none⟩ (.slice none 0 0)).setCell ⟨w.heap.size + 1, 6, none⟩ (.int .i64 0)) := ⟨_, rfl⟩
  rw [← hY] at hb7 ho7 ⊢
  have k0 := blk_cell hb7 0
  have k1 := blk_cell hb7 1
  have k2 := blk_cell hb7 2
  have k3 := blk_cell hb7 3
  have k4 := blk_cell hb7 4
  have k5 := blk_cell hb7 5
  have k6 := blk_cell hb7 6
  simp at k0 k1 k2 k3 k4 k5 k6
  refine bodyPost_ret (v := errV e) ?_ rfl ?_
  · simp [results, Tryz.results30, go_sem, errV, k0, k1, k2, k3, k4, k5, k6]
  · exact ⟨rfl, by have h1 := HBB.out.trans (HB3.out.mono HBB.out.size); exact (Only.of_below (S := fun _ => False) h1 (fun k h1 h2 => by omega) |>.trans ho7 (fun i hi => .inr (by omega))).below (Nat.le_refl _) (fun _ h => h.elim)⟩
set_option maxRecDepth 100000 in
set_option maxHeartbeats 4000000 in
theorem list_file (w : World) (t : Nat) (σ : Tr) (Ls : List Lay) (hT : TrAt w t σ Ls) (k : Int) (s s2 : ByteArray) (off m : Int) (dp : Option Addr) (dl dc : Nat) (hs : s.size ≤ 16777216) (j : Nat) (hj : nodeE σ.nodes (ofS s) = (some j, 0)) (hki : (nodeAt σ.nodes j).kind = 1) :
    Calls Tryz.prog 30 #[ptrV t, callV k s s2 off m (.slice dp dl dc)] w fun x w' => x = .returned (errV 12) ∧ Below w.heap.size w w' := by
  have HN : Hid (∀ W, Below w.heap.size w W → _) := Hid.mk (fun W (hB : Below w.heap.size w W) => node_any W t σ Ls (hT.below rfl hB) s hs)
  have HT := Hid.mk hT
  have hjl := nodeE_lt hT _ hj
  have HKI := Hid.mk hki
  rw [hj] at HN
  simp only [optV, ptrV] at HN
  clear hT hs hj hki
  unfold callV ptrV at *
  go_enter Tryz.func30, Tryz.ntmps30
  go_wp2_with fail
  obtain ⟨X, hX⟩ : ∃ X, X = (w.alloc (.cells #[.int .i64 k, .string s, .string s2, .int .i64 off, .int .i64 m, .slice dp dl dc] 34)).alloc (.cells #[.int .i64 0, .slice none 0 0, .int .i64 0, .int .i64 0, .int .i64 0, .slice none 0 0, .int .i64 0] 31) := ⟨_, rfl⟩
  have hXB : Below w.heap.size w X := by rw [hX]; exact ((Below.refl _ w).alloc (Nat.le_refl _) _).alloc (by simp) _
  have hXs : X.heap.size = w.heap.size + 2 := by rw [hX]; simp
  have hX0 : X.heap[w.heap.size]? = some (.cells #[.int .i64 k, .string s, .string s2, .int .i64 off, .int .i64 m, .slice dp dl dc] 34 (0, 0)) := by rw [hX, Below.heap_alloc _ _ _ (by simp)]; exact blk_new w _
  have hX1 : X.heap[w.heap.size + 1]? = some (.cells #[.int .i64 0, .slice none 0 0, .int .i64 0, .int .i64 0, .int .i64 0, .slice none 0 0, .int .i64 0] 31 (0, 0)) := by
    rw [hX]
    have := blk_new (w.alloc (.cells #[.int .i64 k, .string s, .string s2, .int .i64 off, .int .i64 m, .slice dp dl dc] 34)) (.cells #[.int .i64 0, .slice none 0 0, .int .i64 0, .int .i64 0, .int .i64 0, .slice none 0 0, .int .i64 0] 31)
    rwa [World.size_alloc] at this
  rw [← hX]
  clear hX
  have HXB := Hid.mk hXB
  have HX1 := Hid.mk hX1
  have hxs := hXs
  refine (HN.out X hXB).mono ?_
  rintro e' W1 ⟨rfl, hB1⟩
  have hB : Below w.heap.size w W1 := hXB.trans (hB1.mono (by omega))
  obtain ⟨g0, g1, g2⟩ := (HT.out.below rfl hB).kindAt hjl
  rw [HKI.out] at g0
  have hbx1 := (hB1.block (w.heap.size + 1) (by omega)).trans hX1
  have HB1 := Hid.mk hbx1
  have HBB := Hid.mk hB
  clear hB hB1 hX0 hX1 hXB hXs hbx1 hxs
  go_wp2_with (go_at_call 19; refine (failed_any _ _).mono ?_; rintro e' W3 ⟨rfl, hb3⟩; have hbx := (hb3.block _ (lt_of_block HB1.out)).trans HB1.out; have z0 := blk_cell hbx 0; have y0 := blk_free hbx 0; have z1 := blk_cell hbx 1; have y1 := blk_free hbx 1; have z2 := blk_cell hbx 2; have y2 := blk_free hbx 2; have z3 := blk_cell hbx 3; have y3 := blk_free hbx 3; have z4 := blk_cell hbx 4; have y4 := blk_free hbx 4; have z5 := blk_cell hbx 5; have y5 := blk_free hbx 5; have z6 := blk_cell hbx 6; have y6 := blk_free hbx 6; simp at z0 z1 z2 z3 z4 z5 z6; have BXX := Hid.mk hbx; have HB3 := Hid.mk hb3; unfold errV; clear hbx hb3)
  have hb7 := (box7 BXX.out (.int .i64 12) (.slice none 0 0) (.int .i64 0) (.int .i64 0) (.int .i64 0) (.slice none 0 0) (.int .i64 0)).1
  have ho7 := (box7 BXX.out (.int .i64 12) (.slice none 0 0) (.int .i64 0) (.int .i64 0) (.int .i64 0) (.slice none 0 0) (.int .i64 0)).2
  obtain ⟨Y, hY⟩ : ∃ Y, Y = (((((((W3.setCell ⟨w.heap.size + 1, 0, none⟩ (.int .i64 12)).setCell ⟨w.heap.size + 1, 1, none⟩ (.slice none 0 0)).setCell ⟨w.heap.size + 1, 2, none⟩ (.int .i64 0)).setCell ⟨w.heap.size + 1, 3, none⟩ (.int .i64 0)).setCell ⟨w.heap.size + 1, 4, none⟩ (.int .i64 0)).setCell ⟨w.heap.size + 1, 5, none⟩ (.slice none 0 0)).setCell ⟨w.heap.size + 1, 6, none⟩ (.int .i64 0)) := ⟨_, rfl⟩
  rw [← hY] at hb7 ho7 ⊢
  have k0 := blk_cell hb7 0
  have k1 := blk_cell hb7 1
  have k2 := blk_cell hb7 2
  have k3 := blk_cell hb7 3
  have k4 := blk_cell hb7 4
  have k5 := blk_cell hb7 5
  have k6 := blk_cell hb7 6
  simp at k0 k1 k2 k3 k4 k5 k6
  refine bodyPost_ret (v := errV 12) ?_ rfl ?_
  · simp [results, Tryz.results30, go_sem, errV, k0, k1, k2, k3, k4, k5, k6]
  · exact ⟨rfl, by have h1 := HBB.out.trans (HB3.out.mono HBB.out.size); exact (Only.of_below (S := fun _ => False) h1 (fun k h1 h2 => by omega) |>.trans ho7 (fun i hi => .inr (by omega))).below (Nat.le_refl _) (fun _ h => h.elim)⟩
set_option maxRecDepth 100000 in
set_option maxHeartbeats 4000000 in
theorem list_dir (w : World) (t : Nat) (σ : Tr) (Ls : List Lay) (hT : TrAt w t σ Ls) (k : Int) (s s2 : ByteArray) (off m : Int) (dp : Option Addr) (dl dc : Nat) (hs : s.size ≤ 16777216) (j : Nat) (hj : nodeE σ.nodes (ofS s) = (some j, 0)) (hki : (nodeAt σ.nodes j).isDir = true) (hsl : (nodeAt σ.nodes j).slots.length ≤ 16777216) :
    Calls Tryz.prog 30 #[ptrV t, callV k s s2 off m (.slice dp dl dc)] w fun x w' => ∃ ao n c, x = .returned (.agg #[.int .i64 0, .slice none 0 0, .int .i64 0, .int .i64 0, .int .i64 0, .slice ao n c, .int .i64 0]) ∧ n = (listL (nodeAt σ.nodes j).slots).length ∧ SAt w' ao n (listL (nodeAt σ.nodes j).slots) ∧ (∀ a, ao = some a → w.heap.size + 2 ≤ a.block) ∧ n ≤ c ∧ c ≤ 9223372036854775807 ∧ Below w.heap.size w w' := by
  have HN : Hid (∀ W, Below w.heap.size w W → _) := Hid.mk (fun W (hB : Below w.heap.size w W) => node_any W t σ Ls (hT.below rfl hB) s hs)
  have hjl := nodeE_lt hT _ hj
  obtain ⟨b, mb, rb, cb, l, z, sl, h1, h2, hD, hloc, hnd⟩ := hT.dirAt hjl hki
  rw [hj] at HN
  simp only [optV, ptrV, hloc] at HN
  rw [hnd] at hsl ⊢
  unfold Nd.slots at hsl ⊢
  simp only at hsl ⊢
  have HD := Hid.mk hD
  have HSL := Hid.mk hsl
  clear hT hs hj hki h1 h2 hloc hnd hD hsl hjl
  obtain ⟨n, hn⟩ : ∃ n, sl.length = n := ⟨_, rfl⟩
  have HNN := Hid.mk hn
  clear hn
  unfold callV ptrV at *
  go_enter Tryz.func30, Tryz.ntmps30
  go_wp2_with fail
  obtain ⟨X, hX⟩ : ∃ X, X = (w.alloc (.cells #[.int .i64 k, .string s, .string s2, .int .i64 off, .int .i64 m, .slice dp dl dc] 34)).alloc (.cells #[.int .i64 0, .slice none 0 0, .int .i64 0, .int .i64 0, .int .i64 0, .slice none 0 0, .int .i64 0] 31) := ⟨_, rfl⟩
  have hXB : Below w.heap.size w X := by rw [hX]; exact ((Below.refl _ w).alloc (Nat.le_refl _) _).alloc (by simp) _
  have hXs : X.heap.size = w.heap.size + 2 := by rw [hX]; simp
  have hX0 : X.heap[w.heap.size]? = some (.cells #[.int .i64 k, .string s, .string s2, .int .i64 off, .int .i64 m, .slice dp dl dc] 34 (0, 0)) := by rw [hX, Below.heap_alloc _ _ _ (by simp)]; exact blk_new w _
  have hX1 : X.heap[w.heap.size + 1]? = some (.cells #[.int .i64 0, .slice none 0 0, .int .i64 0, .int .i64 0, .int .i64 0, .slice none 0 0, .int .i64 0] 31 (0, 0)) := by
    rw [hX]
    have := blk_new (w.alloc (.cells #[.int .i64 k, .string s, .string s2, .int .i64 off, .int .i64 m, .slice dp dl dc] 34)) (.cells #[.int .i64 0, .slice none 0 0, .int .i64 0, .int .i64 0, .int .i64 0, .slice none 0 0, .int .i64 0] 31)
    rwa [World.size_alloc] at this
  rw [← hX]
  clear hX
  have hxs := hXs
  refine (HN.out X hXB).mono ?_
  rintro e' W1 ⟨rfl, hB1⟩
  have hB : Below w.heap.size w W1 := hXB.trans (hB1.mono (by omega))
  have hD1 := HD.out.below hB
  have g0 := blk_cell hD1.node 0
  have e4 := blk_cell hD1.node 4
  simp at g0 e4
  rw [HNN.out] at e4
  have HB1 : Hid (W1.heap[w.heap.size + 1]? = some (.cells #[.int .i64 0, .slice none 0 0, .int .i64 0, .int .i64 0, .int .i64 0, .slice none 0 0, .int .i64 0] 31 (0, 0))) := Hid.mk ((hB1.block (w.heap.size + 1) (by omega)).trans hX1)
  have HBB := Hid.mk hB
  have HD1 := Hid.mk hD1
  have HSZ : Hid (w.heap.size + 2 ≤ W1.heap.size) := Hid.mk (by have := hB1.size; omega)
  clear hB hB1 hX0 hX1 hXB hXs hxs hD1
  go_wp2
  go_loopw [7, 32] (fun v i wr => ∃ k : Nat, k ≤ n ∧ i = .int .i64 k ∧ wr.ownsRow W1.heap.size 9 1 v (listL (sl.take k)).length (Sy (listL (sl.take k))) ∧ Below W1.heap.size W1 wr) (fun _ i _ => n - (intOf i).toNat)
  case atStart => exact ⟨0, by omega, rfl, World.ownsRow_nil _ _ _ _, Below.refl _ _⟩
  case round =>
    obtain ⟨kk, hk, rfl, hown, hbl⟩ := hrel
    have hd := HD1.out.below hbl
    have HO := Hid.mk hown
    have HB := Hid.mk hbl
    by_cases hlt : kk < n
    · obtain ⟨c0, c1, -, -⟩ := hd.slot kk (by rw [HNN.out]; exact hlt)
      have hi : (kk : Int) < n := by omega
      have hw1 : IntKind.i64.wrap ((kk : Int) + 1) = (kk : Int) + 1 := by rw [IntKind.wrap_i64]; have := HSL.out; have := HNN.out; omega
      have hst := list_step (s := sl) (k := kk) (by rw [HNN.out]; exact hlt)
      cases ho : sl.getD kk none with
      | none =>
        rw [ho] at c0 c1 hst
        unfold slN strV at c0
        unfold slP at c1
        simp only [Option.map_none, optV, Option.getD_none, Option.toList, List.append_nil] at c0 c1 hst
        have HST := Hid.mk hst
        clear hd hst hown hbl
        go_wp2
        refine ⟨⟨kk + 1, by omega, by simp, ?_, HB.out.trans (((Below.refl _ wr).alloc (Nat.le_refl _) _).mono HB.out.size)⟩, ?_⟩
        · rw [HST.out]; exact HO.out.alloc _
        · simp [intOf]; omega
      | some p =>
        rw [ho] at c0 c1 hst
        unfold slN at c0
        unfold slP at c1
        simp only [Option.map_some, optV, Option.getD_some, ptrV, Option.toList] at c0 c1 hst
        have HST := Hid.mk hst
        obtain ⟨v', W4, hr4, ho4, hon4⟩ := append9_run (wr.alloc (.cells #[strV p.2, .pointer (some ⟨locL Ls p.1, 0, none⟩)] 91)) W1.heap.size u7 _ _ p.2 (hown.alloc _) (by have := hbl.size; simp; omega) (by have := list_len sl kk; have := HSL.out; have := HNN.out; omega)
        have hB4 : Below W1.heap.size W1 W4 := (hbl.trans (((Below.refl _ wr).alloc (Nat.le_refl _) _).mono hbl.size)).trans (hon4.below (by have := hbl.size; simp; omega) (fun j e => (hown.lt j e).1))
        rw [World.size_alloc] at hr4
        have HR4 := Hid.mk hr4
        have HO4 := Hid.mk ho4
        have HB4 := Hid.mk hB4
        unfold strV at c0 HR4
        clear hd hst hown hbl hr4 ho4 hon4 hB4
        go_wp2_with (at_builtin; refine wpList_append_known rfl _ _ _ rfl _ _ _ _ rfl rfl HR4.out ?_; simp only [Act.put, List.setIfInBounds_toArray, List.set_cons_zero, List.set_cons_succ])
        refine ⟨⟨kk + 1, by omega, by simp, ?_, HB4.out⟩, ?_⟩
        · rw [HST.out]; have := HO4.out; simpa using this
        · simp [intOf]; omega
    · obtain rfl : kk = n := by omega
      have hi : ¬ (kk : Int) < (kk : Nat) := by omega
      have et : sl.take kk = sl := by rw [← HNN.out]; simp
      rw [et] at hown
      obtain ⟨ao, c5, ev, hS, hfr, hc1, hc2⟩ := owns_SAt hown
      subst ev
      obtain ⟨q, hq⟩ : ∃ q, (listL sl).length = q := ⟨_, rfl⟩
      rw [hq] at hS hc1
      simp only [hq]
      have HS := Hid.mk hS
      have HFR : Hid (∀ a, ao = some a → W1.heap.size ≤ a.block) := Hid.mk (fun a ha => (hfr a ha).1)
      have HC1 := Hid.mk hc1
      have HC2 := Hid.mk hc2
      have HBX : Hid (wr.heap[w.heap.size + 1]? = some (.cells #[.int .i64 0, .slice none 0 0, .int .i64 0, .int .i64 0, .int .i64 0, .slice none 0 0, .int .i64 0] 31 (0, 0))) := Hid.mk ((hbl.block _ (lt_of_block HB1.out)).trans HB1.out)
      have hbx := HBX.out
      have z0 := blk_cell hbx 0
      have y0 := blk_free hbx 0
      have z1 := blk_cell hbx 1
      have y1 := blk_free hbx 1
      have z2 := blk_cell hbx 2
      have y2 := blk_free hbx 2
      have z3 := blk_cell hbx 3
      have y3 := blk_free hbx 3
      have z4 := blk_cell hbx 4
      have y4 := blk_free hbx 4
      have z5 := blk_cell hbx 5
      have y5 := blk_free hbx 5
      have z6 := blk_cell hbx 6
      have y6 := blk_free hbx 6
      simp at z0 z1 z2 z3 z4 z5 z6
      clear hd hown hbl hS hfr hc1 hc2 hbx et hlt hk HO g0 e4
      go_wp2
      have hb7 := (box7 HBX.out (.int .i64 0) (.slice none 0 0) (.int .i64 0) (.int .i64 0) (.int .i64 0) (.slice ao q c5) (.int .i64 0)).1
      have ho7 := (box7 HBX.out (.int .i64 0) (.slice none 0 0) (.int .i64 0) (.int .i64 0) (.int .i64 0) (.slice ao q c5) (.int .i64 0)).2
      obtain ⟨Y, hY⟩ : ∃ Y, Y = (((((((wr.setCell ⟨w.heap.size + 1, 0, none⟩ (.int .i64 0)).setCell ⟨w.heap.size + 1, 1, none⟩ (.slice none 0 0)).setCell ⟨w.heap.size + 1, 2, none⟩ (.int .i64 0)).setCell ⟨w.heap.size + 1, 3, none⟩ (.int .i64 0)).setCell ⟨w.heap.size + 1, 4, none⟩ (.int .i64 0)).setCell ⟨w.heap.size + 1, 5, none⟩ (.slice ao q c5)).setCell ⟨w.heap.size + 1, 6, none⟩ (.int .i64 0)) := ⟨_, rfl⟩
      rw [← hY] at hb7 ho7 ⊢
      have k0 := blk_cell hb7 0
      have k1 := blk_cell hb7 1
      have k2 := blk_cell hb7 2
      have k3 := blk_cell hb7 3
      have k4 := blk_cell hb7 4
      have k5 := blk_cell hb7 5
      have k6 := blk_cell hb7 6
      simp at k0 k1 k2 k3 k4 k5 k6
      refine bodyPost_ret (v := .agg #[.int .i64 0, .slice none 0 0, .int .i64 0, .int .i64 0, .int .i64 0, .slice ao q c5, .int .i64 0]) ?_ rfl ?_
      · simp [results, Tryz.results30, go_sem, k0, k1, k2, k3, k4, k5, k6]
      · have h1 := HBB.out.trans (HB.out.mono HBB.out.size)
        refine ⟨ao, q, c5, rfl, rfl, ?_, ?_, HC1.out, HC2.out, ?_⟩
        · exact HS.out.only ho7 (fun a ha _ e => by have := HFR.out a ha; have := HSZ.out; omega)
        · intro a ha; have := HFR.out a ha; have := HSZ.out; omega
        · exact (Only.of_below (S := fun _ => False) h1 (fun k h1 h2 => by omega) |>.trans ho7 (fun i hi => .inr (by omega))).below (Nat.le_refl _) (fun _ h => h.elim)
end Go.Proofs.YtehaoeclnmelhacGreat
namespace Go.Proofs.YtehaoeclnmelhacGreat
open Go Go.Proofs Go.RowKit Go.Shelf Go.Sort

set_option maxRecDepth 100000 in
set_option maxHeartbeats 4000000 in
theorem unlink_wrong (w : World) (t : Nat) (σ : Tr) (Ls : List Lay) (hT : TrAt w t σ Ls) (k : Int) (s s2 : ByteArray) (off m : Int) (dp : Option Addr) (dl dc : Nat) (hs : s.size ≤ 16777216) (e : Int) (sp : Option Sp) (he : namedE σ.nodes (ofS s) = (e, sp)) (hne : e ≠ 0) :
    Calls Tryz.prog 23 #[ptrV t, callV k s s2 off m (.slice dp dl dc)] w fun x w' => x = .returned (errV e) ∧ Below w.heap.size w w' := by
  have HN : Hid (∀ W, Below w.heap.size w W → _) := Hid.mk (fun W (hB : Below w.heap.size w W) => named_any W t σ Ls (hT.below rfl hB) s hs)
  rw [he] at HN
  simp only at HN ⊢
  have hsv : ∃ x0 x1 x2, spotV (locL Ls) sp = .agg #[.pointer x0, .string x1, .pointer x2] := by
    cases sp with
    | none => exact ⟨_, _, _, rfl⟩
    | some sp => obtain ⟨q, hq, _⟩ := opt_ptr (locL Ls) sp.named; exact ⟨some ⟨locL Ls sp.dir, 0, none⟩, mkS sp.name, q, by simp only [spotV, hq, ptrV, strV]⟩
  obtain ⟨x0, x1, x2, hsv⟩ := hsv
  rw [hsv] at HN
  clear hT hs he hsv
  unfold callV ptrV at *
  go_enter Tryz.func23, Tryz.ntmps23
  go_wp2_with fail
  obtain ⟨X, hX⟩ : ∃ X, X = (w.alloc (.cells #[.int .i64 k, .string s, .string s2, .int .i64 off, .int .i64 m, .slice dp dl dc] 34)).alloc (.cells #[.int .i64 0, .slice none 0 0, .int .i64 0, .int .i64 0, .int .i64 0, .slice none 0 0, .int .i64 0] 31) := ⟨_, rfl⟩
  have hXB : Below w.heap.size w X := by rw [hX]; exact ((Below.refl _ w).alloc (Nat.le_refl _) _).alloc (by simp) _
  have hXs : X.heap.size = w.heap.size + 2 := by rw [hX]; simp
  have hX0 : X.heap[w.heap.size]? = some (.cells #[.int .i64 k, .string s, .string s2, .int .i64 off, .int .i64 m, .slice dp dl dc] 34 (0, 0)) := by rw [hX, Below.heap_alloc _ _ _ (by simp)]; exact blk_new w _
  have hX1 : X.heap[w.heap.size + 1]? = some (.cells #[.int .i64 0, .slice none 0 0, .int .i64 0, .int .i64 0, .int .i64 0, .slice none 0 0, .int .i64 0] 31 (0, 0)) := by
    rw [hX]
    have := blk_new (w.alloc (.cells #[.int .i64 k, .string s, .string s2, .int .i64 off, .int .i64 m, .slice dp dl dc] 34)) (.cells #[.int .i64 0, .slice none 0 0, .int .i64 0, .int .i64 0, .int .i64 0, .slice none 0 0, .int .i64 0] 31)
    rwa [World.size_alloc] at this
  rw [← hX]
  clear hX
  refine (HN.out X hXB).mono ?_
  rintro e' W1 ⟨rfl, hB1⟩
  have hB : Below w.heap.size w W1 := hXB.trans (hB1.mono (by omega))
  have hbx1 := (hB1.block (w.heap.size + 1) (by omega)).trans hX1
  have HB1 : Hid ((W1.alloc (.cells #[.pointer x0, .string x1, .pointer x2] 69)).heap[w.heap.size + 1]? = some (.cells #[.int .i64 0, .slice none 0 0, .int .i64 0, .int .i64 0, .int .i64 0, .slice none 0 0, .int .i64 0] 31 (0, 0))) := Hid.mk ((Below.heap_alloc _ _ _ (lt_of_block hbx1)).trans hbx1)
  have HBB : Hid (Below w.heap.size w (W1.alloc (.cells #[.pointer x0, .string x1, .pointer x2] 69))) := Hid.mk (hB.alloc hB.size _)
  clear hB hB1 hX0 hX1 hXB hXs hbx1
  go_wp2_with (go_at_call 19; refine (failed_any _ _).mono ?_; rintro e' W3 ⟨rfl, hb3⟩; have hbx := (hb3.block _ (lt_of_block HB1.out)).trans HB1.out; have z0 := blk_cell hbx 0; have y0 := blk_free hbx 0; have z1 := blk_cell hbx 1; have y1 := blk_free hbx 1; have z2 := blk_cell hbx 2; have y2 := blk_free hbx 2; have z3 := blk_cell hbx 3; have y3 := blk_free hbx 3; have z4 := blk_cell hbx 4; have y4 := blk_free hbx 4; have z5 := blk_cell hbx 5; have y5 := blk_free hbx 5; have z6 := blk_cell hbx 6; have y6 := blk_free hbx 6; simp at z0 z1 z2 z3 z4 z5 z6; have BXX := Hid.mk hbx; have HB3 := Hid.mk hb3; unfold errV; clear hbx hb3)
  have hb7 := (box7 BXX.out (.int .i64 e) (.slice none 0 0) (.int .i64 0) (.int .i64 0) (.int .i64 0) (.slice none 0 0) (.int .i64 0)).1
  have ho7 := (box7 BXX.out (.int .i64 e) (.slice none 0 0) (.int .i64 0) (.int .i64 0) (.int .i64 0) (.slice none 0 0) (.int .i64 0)).2
  obtain ⟨Y, hY⟩ : ∃ Y, Y = (((((((W3.setCell ⟨w.heap.size + 1, 0, none⟩ (.int .i64 e)).setCell ⟨w.heap.size + 1, 1, none⟩ (.slice none 0 0)).setCell ⟨w.heap.size + 1, 2, none⟩ (.int .i64 0)).setCell ⟨w.heap.size + 1, 3, none⟩ (.int .i64 0)).setCell ⟨w.heap.size + 1, 4, none⟩ (.int .i64 0)).setCell ⟨w.heap.size + 1, 5, none⟩ (.slice none 0 0)).setCell ⟨w.heap.size + 1, 6, none⟩ (.int .i64 0)) := ⟨_, rfl⟩
  rw [← hY] at hb7 ho7 ⊢
  have k0 := blk_cell hb7 0
  have k1 := blk_cell hb7 1
  have k2 := blk_cell hb7 2
  have k3 := blk_cell hb7 3
  have k4 := blk_cell hb7 4
  have k5 := blk_cell hb7 5
  have k6 := blk_cell hb7 6
  simp at k0 k1 k2 k3 k4 k5 k6
  refine bodyPost_ret (v := errV e) ?_ rfl ?_
  · simp [results, Tryz.results23, go_sem, errV, k0, k1, k2, k3, k4, k5, k6]
  · exact ⟨rfl, by have h1 := HBB.out.trans (HB3.out.mono HBB.out.size); exact ((Only.of_below (S := fun _ => False) h1 (fun k h1 h2 => by omega)).trans ho7 (fun i hi => .inr (by omega))).below (Nat.le_refl _) (fun _ h => h.elim)⟩
set_option maxRecDepth 100000 in
set_option maxHeartbeats 4000000 in
theorem unlink_dir (w : World) (t : Nat) (σ : Tr) (Ls : List Lay) (hT : TrAt w t σ Ls) (k : Int) (s s2 : ByteArray) (off m : Int) (dp : Option Addr) (dl dc : Nat) (hs : s.size ≤ 16777216) (d : Nat) (p : List UInt8) (j : Nat) (he : namedE σ.nodes (ofS s) = (0, some ⟨d, p, some j⟩)) (hj : j < σ.nodes.length) (hjk : (nodeAt σ.nodes j).kind = 2) :
    Calls Tryz.prog 23 #[ptrV t, callV k s s2 off m (.slice dp dl dc)] w fun e w' => e = .returned (errV 13) ∧ Step (fun k => k ∈ feet t Ls) w t w' σ := by
  have HN : Hid (∀ W, Below w.heap.size w W → _) := Hid.mk (fun W (hB : Below w.heap.size w W) => named_any W t σ Ls (hT.below rfl hB) s hs)
  have HT := Hid.mk hT
  rw [he] at HN
  simp only [spotV, optV, ptrV, strV] at HN
  have HK : Hid (∀ W, Below w.heap.size w W → W.cell? ⟨locL Ls j, 0, none⟩ = some (.int .i64 (nodeAt σ.nodes j).kind)) := Hid.mk (fun W hB => ((hT.below rfl hB).kindAt hj).1)
  rw [hjk] at HK
  clear hT hs he hjk
  unfold callV ptrV at *
  go_enter Tryz.func23, Tryz.ntmps23
  go_wp2_with fail
  obtain ⟨X, hX⟩ : ∃ X, X = (w.alloc (.cells #[.int .i64 k, .string s, .string s2, .int .i64 off, .int .i64 m, .slice dp dl dc] 34)).alloc (.cells #[.int .i64 0, .slice none 0 0, .int .i64 0, .int .i64 0, .int .i64 0, .slice none 0 0, .int .i64 0] 31) := ⟨_, rfl⟩
  have hXB : Below w.heap.size w X := by rw [hX]; exact ((Below.refl _ w).alloc (Nat.le_refl _) _).alloc (by simp) _
  have hXs : X.heap.size = w.heap.size + 2 := by rw [hX]; simp
  have hX0 : X.heap[w.heap.size]? = some (.cells #[.int .i64 k, .string s, .string s2, .int .i64 off, .int .i64 m, .slice dp dl dc] 34 (0, 0)) := by rw [hX, Below.heap_alloc _ _ _ (by simp)]; exact blk_new w _
  have hX1 : X.heap[w.heap.size + 1]? = some (.cells #[.int .i64 0, .slice none 0 0, .int .i64 0, .int .i64 0, .int .i64 0, .slice none 0 0, .int .i64 0] 31 (0, 0)) := by
    rw [hX]
    have := blk_new (w.alloc (.cells #[.int .i64 k, .string s, .string s2, .int .i64 off, .int .i64 m, .slice dp dl dc] 34)) (.cells #[.int .i64 0, .slice none 0 0, .int .i64 0, .int .i64 0, .int .i64 0, .slice none 0 0, .int .i64 0] 31)
    rwa [World.size_alloc] at this
  rw [← hX]
  clear hX
  refine (HN.out X hXB).mono ?_
  rintro e' W1 ⟨rfl, hB1⟩
  have hB : Below w.heap.size w W1 := hXB.trans (hB1.mono (by omega))
  have hbx1 := (hB1.block (w.heap.size + 1) (by omega)).trans hX1
  have hB2 : Below w.heap.size w (W1.alloc (.cells #[.pointer (some ⟨locL Ls d, 0, none⟩), .string (mkS p), .pointer (some ⟨locL Ls j, 0, none⟩)] 69)) := hB.alloc hB.size _
  have HB1 : Hid ((W1.alloc (.cells #[.pointer (some ⟨locL Ls d, 0, none⟩), .string (mkS p), .pointer (some ⟨locL Ls j, 0, none⟩)] 69)).heap[w.heap.size + 1]? = some (.cells #[.int .i64 0, .slice none 0 0, .int .i64 0, .int .i64 0, .int .i64 0, .slice none 0 0, .int .i64 0] 31 (0, 0))) := Hid.mk ((Below.heap_alloc _ _ _ (lt_of_block hbx1)).trans hbx1)
  have HBB := Hid.mk hB2
  have HSZ : Hid (w.heap.size + 2 ≤ W1.heap.size) := Hid.mk (by have := hB1.size; omega)
  have kd := HK.out _ hB2
  clear hB hB1 hX0 hX1 hXB hXs hbx1 hB2
  go_wp2_with (go_at_call 19; refine (failed_any _ _).mono ?_; rintro e' W3 ⟨rfl, hb3⟩; have hbx := (hb3.block _ (lt_of_block HB1.out)).trans HB1.out; have z0 := blk_cell hbx 0; have y0 := blk_free hbx 0; have z1 := blk_cell hbx 1; have y1 := blk_free hbx 1; have z2 := blk_cell hbx 2; have y2 := blk_free hbx 2; have z3 := blk_cell hbx 3; have y3 := blk_free hbx 3; have z4 := blk_cell hbx 4; have y4 := blk_free hbx 4; have z5 := blk_cell hbx 5; have y5 := blk_free hbx 5; have z6 := blk_cell hbx 6; have y6 := blk_free hbx 6; simp at z0 z1 z2 z3 z4 z5 z6; have BXX := Hid.mk hbx; have HB3 := Hid.mk hb3; unfold errV; clear hbx hb3)
  have hb7 := (box7 BXX.out (.int .i64 13) (.slice none 0 0) (.int .i64 0) (.int .i64 0) (.int .i64 0) (.slice none 0 0) (.int .i64 0)).1
  have ho7 := (box7 BXX.out (.int .i64 13) (.slice none 0 0) (.int .i64 0) (.int .i64 0) (.int .i64 0) (.slice none 0 0) (.int .i64 0)).2
  obtain ⟨Y, hY⟩ : ∃ Y, Y = (((((((W3.setCell ⟨w.heap.size + 1, 0, none⟩ (.int .i64 13)).setCell ⟨w.heap.size + 1, 1, none⟩ (.slice none 0 0)).setCell ⟨w.heap.size + 1, 2, none⟩ (.int .i64 0)).setCell ⟨w.heap.size + 1, 3, none⟩ (.int .i64 0)).setCell ⟨w.heap.size + 1, 4, none⟩ (.int .i64 0)).setCell ⟨w.heap.size + 1, 5, none⟩ (.slice none 0 0)).setCell ⟨w.heap.size + 1, 6, none⟩ (.int .i64 0)) := ⟨_, rfl⟩
  rw [← hY] at hb7 ho7 ⊢
  have k0 := blk_cell hb7 0
  have k1 := blk_cell hb7 1
  have k2 := blk_cell hb7 2
  have k3 := blk_cell hb7 3
  have k4 := blk_cell hb7 4
  have k5 := blk_cell hb7 5
  have k6 := blk_cell hb7 6
  simp at k0 k1 k2 k3 k4 k5 k6
  refine bodyPost_ret (v := errV 13) ?_ rfl ?_
  · simp [results, Tryz.results23, go_sem, errV, k0, k1, k2, k3, k4, k5, k6]
  · exact ⟨rfl, by have h1 := HBB.out.trans (HB3.out.mono HBB.out.size); exact Step.still HT.out (fun k hk => hk) (((Only.of_below (S := fun _ => False) h1 (fun k h1 h2 => by omega)).trans ho7 (fun i hi => .inr (by omega))).below (Nat.le_refl _) (fun _ h => h.elim))⟩
set_option maxRecDepth 100000 in
set_option maxHeartbeats 4000000 in
theorem unlink_file (w : World) (t : Nat) (σ : Tr) (Ls : List Lay) (hT : TrAt w t σ Ls) (k : Int) (s s2 : ByteArray) (off m : Int) (dp : Option Addr) (dl dc : Nat) (hs : s.size ≤ 16777216) (d : Nat) (p : List UInt8) (j : Nat) (he : namedE σ.nodes (ofS s) = (0, some ⟨d, p, some j⟩)) (hd : d < σ.nodes.length) (hdk : (nodeAt σ.nodes d).isDir = true) (hlk : lookS (nodeAt σ.nodes d).slots p = some j) (hj : j < σ.nodes.length) (hjk : (nodeAt σ.nodes j).kind = 1) (hp : p.length ≤ 1000) (σ' : Tr)
    (HLG : Hid (∀ W, TrAt W t { σ with nodes := σ.nodes.modify d (fun x => x.del p) } Ls → Calls Tryz.prog 43 #[ptrV t, .agg #[ptrV (locL Ls d), .string (mkS p), ptrV (locL Ls j)]] W fun e w' => e = .returned (.tuple #[]) ∧ Step (fun k => k ∈ feet t Ls) W t w' σ')) :
    Calls Tryz.prog 23 #[ptrV t, callV k s s2 off m (.slice dp dl dc)] w fun e w' => e = .returned (errV 0) ∧ Step (fun k => k ∈ feet t Ls) w t w' σ' := by
  have HN : Hid (∀ W, Below w.heap.size w W → _) := Hid.mk (fun W (hB : Below w.heap.size w W) => named_any W t σ Ls (hT.below rfl hB) s hs)
  have HT := Hid.mk hT
  rw [he] at HN
  simp only [spotV, optV, ptrV, strV] at HN
  have HK : Hid (∀ W, Below w.heap.size w W → W.cell? ⟨locL Ls j, 0, none⟩ = some (.int .i64 (nodeAt σ.nodes j).kind)) := Hid.mk (fun W hB => ((hT.below rfl hB).kindAt hj).1)
  rw [hjk] at HK
  clear hT hs he hjk
  unfold callV ptrV at *
  go_enter Tryz.func23, Tryz.ntmps23
  go_wp2_with fail
  obtain ⟨X, hX⟩ : ∃ X, X = (w.alloc (.cells #[.int .i64 k, .string s, .string s2, .int .i64 off, .int .i64 m, .slice dp dl dc] 34)).alloc (.cells #[.int .i64 0, .slice none 0 0, .int .i64 0, .int .i64 0, .int .i64 0, .slice none 0 0, .int .i64 0] 31) := ⟨_, rfl⟩
  have hXB : Below w.heap.size w X := by rw [hX]; exact ((Below.refl _ w).alloc (Nat.le_refl _) _).alloc (by simp) _
  have hXs : X.heap.size = w.heap.size + 2 := by rw [hX]; simp
  have hX0 : X.heap[w.heap.size]? = some (.cells #[.int .i64 k, .string s, .string s2, .int .i64 off, .int .i64 m, .slice dp dl dc] 34 (0, 0)) := by rw [hX, Below.heap_alloc _ _ _ (by simp)]; exact blk_new w _
  have hX1 : X.heap[w.heap.size + 1]? = some (.cells #[.int .i64 0, .slice none 0 0, .int .i64 0, .int .i64 0, .int .i64 0, .slice none 0 0, .int .i64 0] 31 (0, 0)) := by
    rw [hX]
    have := blk_new (w.alloc (.cells #[.int .i64 k, .string s, .string s2, .int .i64 off, .int .i64 m, .slice dp dl dc] 34)) (.cells #[.int .i64 0, .slice none 0 0, .int .i64 0, .int .i64 0, .int .i64 0, .slice none 0 0, .int .i64 0] 31)
    rwa [World.size_alloc] at this
  rw [← hX]
  clear hX
  refine (HN.out X hXB).mono ?_
  rintro e' W1 ⟨rfl, hB1⟩
  have hB : Below w.heap.size w W1 := hXB.trans (hB1.mono (by omega))
  have hbx1 := (hB1.block (w.heap.size + 1) (by omega)).trans hX1
  obtain ⟨X2, hX2⟩ : ∃ X2, X2 = W1.alloc (.cells #[.pointer (some ⟨locL Ls d, 0, none⟩), .string (mkS p), .pointer (some ⟨locL Ls j, 0, none⟩)] 69) := ⟨_, rfl⟩
  have hB2 : Below w.heap.size w X2 := by rw [hX2]; exact hB.alloc hB.size _
  have hbx2 : X2.heap[w.heap.size + 1]? = some (.cells #[.int .i64 0, .slice none 0 0, .int .i64 0, .int .i64 0, .int .i64 0, .slice none 0 0, .int .i64 0] 31 (0, 0)) := by rw [hX2]; exact (Below.heap_alloc _ _ _ (lt_of_block hbx1)).trans hbx1
  have hsp : X2.heap[W1.heap.size]? = some (.cells #[.pointer (some ⟨locL Ls d, 0, none⟩), .string (mkS p), .pointer (some ⟨locL Ls j, 0, none⟩)] 69 (0, 0)) := by rw [hX2]; exact blk_new W1 _
  have HW1 : Hid (w.heap.size + 2 ≤ W1.heap.size) := Hid.mk (by have := hB1.size; omega)
  go_upto_region 4 with fail
  rw [← hX2]
  clear hX2
  generalize W1.heap.size = sb at *
  have kd := HK.out _ hB2
  have x0 := blk_cell hsp 0
  have x1 := blk_cell hsp 1
  have x2 := blk_cell hsp 2
  simp at x0 x1 x2
  have HRE := Hid.mk (remove_tree X2 t σ Ls (HT.out.below rfl hB2) d p j hd hdk hlk hp)
  unfold ptrV strV at HRE
  have HBB := Hid.mk hB2
  have HBX := Hid.mk hbx2
  have HSP := Hid.mk hsp
  clear hB hB1 hX0 hX1 hXB hXs hbx1 hB2 hbx2 hsp
  go_upto_region 7 with (go_at_call 42; refine HRE.out.mono ?_; rintro e' W4 ⟨rfl, hT4, ho4⟩; have HT4 := Hid.mk hT4; have HO4 := Hid.mk ho4; clear hT4 ho4)
  have hnf : ∀ q, w.heap.size ≤ q → q ∉ feet t Ls := fun q hq h => by have := HT.out.lt q h; omega
  have hs4 := (HO4.out.block sb (lt_of_block HSP.out) (hnf sb (by have := HW1.out; omega))).trans HSP.out
  have hb4 := (HO4.out.block (w.heap.size + 1) (lt_of_block HBX.out) (hnf _ (by omega))).trans HBX.out
  have u0 := blk_cell hs4 0
  have u1 := blk_cell hs4 1
  have u2 := blk_cell hs4 2
  simp at u0 u1 u2
  have HLO := Hid.mk (HLG.out W4 HT4.out)
  unfold ptrV at HLO
  have HB4 := Hid.mk hb4
  have HS4 : Hid (w.heap.size + 1 < W4.heap.size) := Hid.mk (lt_of_block hb4)
  clear hs4 hb4 x0 x1 x2 kd
  go_wp2_with (go_at_call 43; refine HLO.out.mono ?_; rintro e' W3 ⟨rfl, hst⟩; have hbx := (hst.only.block (w.heap.size + 1) HS4.out (fun h => by have := HT.out.lt _ h; omega)).trans HB4.out; have z0 := blk_cell hbx 0; have y0 := blk_free hbx 0; have z1 := blk_cell hbx 1; have y1 := blk_free hbx 1; have z2 := blk_cell hbx 2; have y2 := blk_free hbx 2; have z3 := blk_cell hbx 3; have y3 := blk_free hbx 3; have z4 := blk_cell hbx 4; have y4 := blk_free hbx 4; have z5 := blk_cell hbx 5; have y5 := blk_free hbx 5; have z6 := blk_cell hbx 6; have y6 := blk_free hbx 6; simp at z0 z1 z2 z3 z4 z5 z6; have BXX := Hid.mk hbx; have ST := Hid.mk hst; clear hbx hst)
  have hb7 := (box7 BXX.out (.int .i64 0) (.slice none 0 0) (.int .i64 0) (.int .i64 0) (.int .i64 0) (.slice none 0 0) (.int .i64 0)).1
  have ho7 := (box7 BXX.out (.int .i64 0) (.slice none 0 0) (.int .i64 0) (.int .i64 0) (.int .i64 0) (.slice none 0 0) (.int .i64 0)).2
  obtain ⟨Y, hY⟩ : ∃ Y, Y = (((((((W3.setCell ⟨w.heap.size + 1, 0, none⟩ (.int .i64 0)).setCell ⟨w.heap.size + 1, 1, none⟩ (.slice none 0 0)).setCell ⟨w.heap.size + 1, 2, none⟩ (.int .i64 0)).setCell ⟨w.heap.size + 1, 3, none⟩ (.int .i64 0)).setCell ⟨w.heap.size + 1, 4, none⟩ (.int .i64 0)).setCell ⟨w.heap.size + 1, 5, none⟩ (.slice none 0 0)).setCell ⟨w.heap.size + 1, 6, none⟩ (.int .i64 0)) := ⟨_, rfl⟩
  rw [← hY] at hb7 ho7 ⊢
  have k0 := blk_cell hb7 0
  have k1 := blk_cell hb7 1
  have k2 := blk_cell hb7 2
  have k3 := blk_cell hb7 3
  have k4 := blk_cell hb7 4
  have k5 := blk_cell hb7 5
  have k6 := blk_cell hb7 6
  simp at k0 k1 k2 k3 k4 k5 k6
  refine bodyPost_ret (v := errV 0) ?_ rfl ?_
  · simp [results, Tryz.results23, go_sem, errV, k0, k1, k2, k3, k4, k5, k6]
  · refine ⟨rfl, ?_⟩
    have hw4 : Only (fun k => k ∈ feet t Ls) w W4 := (Only.of_new (fun k => k ∈ feet t Ls) HBB.out).trans HO4.out (fun i hi => .inl hi)
    obtain ⟨⟨Ls', h1, h2⟩, h3⟩ := ST.out
    refine ⟨⟨Ls', h1.kept (fun k hk => ho7.block k (h1.lt k hk) (fun e => ?_)), fun k hk => ?_⟩, (hw4.trans h3 (fun i hi => .inl hi)).trans ho7 (fun i hi => .inr (by omega))⟩
    · subst e
      rcases h2 _ hk with h | h
      · have := HT.out.lt _ h; omega
      · have := HS4.out; omega
    · rcases h2 k hk with h | h
      · exact .inl h
      · exact .inr (Nat.le_trans hw4.size h)
end Go.Proofs.YtehaoeclnmelhacGreat
namespace Go.Proofs.YtehaoeclnmelhacGreat
open Go Go.Proofs Go.RowKit Go.Shelf Go.Sort

set_option maxRecDepth 100000 in
set_option maxHeartbeats 4000000 in
theorem fsync_any (w : World) (t : Nat) (σ : Tr) (Ls : List Lay) (hT : TrAt w t σ Ls) (k : Int) (s s2 : ByteArray) (off m : Int) (dp : Option Addr) (dl dc : Nat) (hs : s.size ≤ 16777216) :
    Calls Tryz.prog 31 #[ptrV t, callV k s s2 off m (.slice dp dl dc)] w fun e w' => e = .returned (errV (nodeE σ.nodes (ofS s)).2) ∧ Below w.heap.size w w' := by
  have HN : Hid (∀ W, Below w.heap.size w W → _) := Hid.mk (fun W (hB : Below w.heap.size w W) => node_any W t σ Ls (hT.below rfl hB) s hs)
  obtain ⟨x2, hx2, _⟩ := opt_ptr (locL Ls) (nodeE σ.nodes (ofS s)).1
  rw [hx2] at HN
  obtain ⟨e, he⟩ : ∃ e, (nodeE σ.nodes (ofS s)).2 = e := ⟨_, rfl⟩
  rw [he] at HN ⊢
  clear hT hs he hx2
  unfold callV ptrV at *
  go_enter Tryz.func31, Tryz.ntmps31
  go_wp2_with fail
  obtain ⟨X, hX⟩ : ∃ X, X = (w.alloc (.cells #[.int .i64 k, .string s, .string s2, .int .i64 off, .int .i64 m, .slice dp dl dc] 34)).alloc (.cells #[.int .i64 0, .slice none 0 0, .int .i64 0, .int .i64 0, .int .i64 0, .slice none 0 0, .int .i64 0] 31) := ⟨_, rfl⟩
  have hXB : Below w.heap.size w X := by rw [hX]; exact ((Below.refl _ w).alloc (Nat.le_refl _) _).alloc (by simp) _
  have hXs : X.heap.size = w.heap.size + 2 := by rw [hX]; simp
  have hX0 : X.heap[w.heap.size]? = some (.cells #[.int .i64 k, .string s, .string s2, .int .i64 off, .int .i64 m, .slice dp dl dc] 34 (0, 0)) := by rw [hX, Below.heap_alloc _ _ _ (by simp)]; exact blk_new w _
  have hX1 : X.heap[w.heap.size + 1]? = some (.cells #[.int .i64 0, .slice none 0 0, .int .i64 0, .int .i64 0, .int .i64 0, .slice none 0 0, .int .i64 0] 31 (0, 0)) := by
    rw [hX]
    have := blk_new (w.alloc (.cells #[.int .i64 k, .string s, .string s2, .int .i64 off, .int .i64 m, .slice dp dl dc] 34)) (.cells #[.int .i64 0, .slice none 0 0, .int .i64 0, .int .i64 0, .int .i64 0, .slice none 0 0, .int .i64 0] 31)
    rwa [World.size_alloc] at this
  rw [← hX]
  clear hX
  refine (HN.out X hXB).mono ?_
  rintro e' W1 ⟨rfl, hB1⟩
  have hB : Below w.heap.size w W1 := hXB.trans (hB1.mono (by omega))
  have HF := Hid.mk (failed_any W1 e)
  have hbx1 := (hB1.block (w.heap.size + 1) (by omega)).trans hX1
  have HB1 := Hid.mk hbx1
  have HBB := Hid.mk hB
  clear hB hB1 hX0 hX1 hXB hXs hbx1
  go_wp2_with (go_at_call 19; refine HF.out.mono ?_; rintro e' W3 ⟨rfl, hb3⟩; have hbx := (hb3.block _ (lt_of_block HB1.out)).trans HB1.out; have z0 := blk_cell hbx 0; have y0 := blk_free hbx 0; have z1 := blk_cell hbx 1; have y1 := blk_free hbx 1; have z2 := blk_cell hbx 2; have y2 := blk_free hbx 2; have z3 := blk_cell hbx 3; have y3 := blk_free hbx 3; have z4 := blk_cell hbx 4; have y4 := blk_free hbx 4; have z5 := blk_cell hbx 5; have y5 := blk_free hbx 5; have z6 := blk_cell hbx 6; have y6 := blk_free hbx 6; simp at z0 z1 z2 z3 z4 z5 z6; have BXX := Hid.mk hbx; have HB3 := Hid.mk hb3; unfold errV; clear hbx hb3)
  have hb7 := (box7 BXX.out (.int .i64 e) (.slice none 0 0) (.int .i64 0) (.int .i64 0) (.int .i64 0) (.slice none 0 0) (.int .i64 0)).1
  have ho7 := (box7 BXX.out (.int .i64 e) (.slice none 0 0) (.int .i64 0) (.int .i64 0) (.int .i64 0) (.slice none 0 0) (.int .i64 0)).2
  obtain ⟨Y, hY⟩ : ∃ Y, Y = (((((((W3.setCell ⟨w.heap.size + 1, 0, none⟩ (.int .i64 e)).setCell ⟨w.heap.size + 1, 1, none⟩ (.slice none 0 0)).setCell ⟨w.heap.size + 1, 2, none⟩ (.int .i64 0)).setCell ⟨w.heap.size + 1, 3, none⟩ (.int .i64 0)).setCell ⟨w.heap.size + 1, 4, none⟩ (.int .i64 0)).setCell ⟨w.heap.size + 1, 5, none⟩ (.slice none 0 0)).setCell ⟨w.heap.size + 1, 6, none⟩ (.int .i64 0)) := ⟨_, rfl⟩
  rw [← hY] at hb7 ho7 ⊢
  have k0 := blk_cell hb7 0
  have k1 := blk_cell hb7 1
  have k2 := blk_cell hb7 2
  have k3 := blk_cell hb7 3
  have k4 := blk_cell hb7 4
  have k5 := blk_cell hb7 5
  have k6 := blk_cell hb7 6
  simp at k0 k1 k2 k3 k4 k5 k6
  refine bodyPost_ret (v := errV e) ?_ rfl ?_
  · simp [results, Tryz.results31, go_sem, errV, k0, k1, k2, k3, k4, k5, k6]
  · exact ⟨rfl, by have h1 := HBB.out.trans (HB3.out.mono HBB.out.size); exact (Only.of_below (S := fun _ => False) h1 (fun k h1 h2 => by omega) |>.trans ho7 (fun i hi => .inr (by omega))).below (Nat.le_refl _) (fun _ h => h.elim)⟩
set_option maxRecDepth 100000 in
set_option maxHeartbeats 4000000 in
theorem sync_any (w : World) (t : Nat) (k : Int) (s s2 : ByteArray) (off m : Int) (dp : Option Addr) (dl dc : Nat) :
    Calls Tryz.prog 32 #[ptrV t, callV k s s2 off m (.slice dp dl dc)] w fun e w' => e = .returned (errV 0) ∧ Below w.heap.size w w' := by
  unfold callV ptrV
  go_enter Tryz.func32, Tryz.ntmps32
  go_wp2
  refine bodyPost_ret (v := errV 0) ?_ rfl ⟨rfl, ?_⟩
  · simp [results, Tryz.results32, go_sem, errV]
  · exact ((Below.refl _ w).alloc (Nat.le_refl _) _).alloc (by simp) _
end Go.Proofs.YtehaoeclnmelhacGreat
namespace Go.Proofs.YtehaoeclnmelhacGreat
open Go Go.Proofs Go.RowKit Go.Shelf Go.Sort

/-- The names that a directory's list answers lie in a row of their own. -/
def NamesQ (B : Nat) (L : List (List UInt8)) (x y : Value) (W : World) : Prop := x = .slice none 0 0 ∧ ∃ ao c, y = .slice ao L.length c ∧ SAt W ao L.length L ∧ (∀ a, ao = some a → B ≤ a.block) ∧ L.length ≤ c ∧ c ≤ 9223372036854775807
theorem doo_list (w : World) (t : Nat) (σ : Tr) (Ls : List Lay) (hT : TrAt w t σ Ls) (s s2 : ByteArray) (off m : Int) (dp : Option Addr) (dl dc : Nat) (hs : s.size ≤ 16777216) (j : Nat) (hj : nodeE σ.nodes (ofS s) = (some j, 0)) (hki : (nodeAt σ.nodes j).isDir = true) (hsl : (nodeAt σ.nodes j).slots.length ≤ 16777216) :
    Calls Tryz.prog 9 #[ptrV t, callV 11 s s2 off m (.slice dp dl dc)] w fun e w' => ∃ ao c, e = .returned (.agg #[.int .i64 0, .slice none 0 0, .int .i64 0, .int .i64 0, .int .i64 0, .slice ao (listL (nodeAt σ.nodes j).slots).length c, .int .i64 0]) ∧ SAt w' ao (listL (nodeAt σ.nodes j).slots).length (listL (nodeAt σ.nodes j).slots) ∧ (∀ a, ao = some a → w.heap.size ≤ a.block) ∧ (listL (nodeAt σ.nodes j).slots).length ≤ c ∧ c ≤ 9223372036854775807 ∧ Step (fun k => k ∈ feet t Ls) w t w' σ := by
  refine (do_list w t σ Ls s s2 off m dp dl dc 0 0 0 0 0 (NamesQ (w.heap.size + 2) (listL (nodeAt σ.nodes j).slots)) (fun k hk => hT.lt k hk) (fun x y W1 W2 h ho => ?_) (Hid.mk (fun W hB hsz => (list_dir W t σ Ls (hT.below rfl hB) 11 s s2 off m dp dl dc hs j hj hki hsl).mono (fun e w' hh => ?_)))).mono ?_
  · obtain ⟨h1, ao, c, h2, h3, h4, h5, h6⟩ := h
    exact ⟨h1, ao, c, h2, h3.only ho (fun a ha _ e => by have := h4 a ha; omega), h4, h5, h6⟩
  · obtain ⟨ao, n, c, h1, h2, h3, h4, h5, h6, h7⟩ := hh
    subst h2
    exact ⟨none, 0, 0, ao, _, c, h1, Step.still (hT.below rfl hB) (fun k hk => hk) h7, rfl, ao, c, rfl, h3, fun a ha => by have := h4 a ha; omega, h5, h6⟩
  · rintro e w' ⟨a1, n1, c1, a5, n5, c5, rfl, hst, h1, ao, c, h2, h3, h4, h5, h6⟩
    cases h1; cases h2
    exact ⟨_, _, rfl, h3, fun a ha => by have := h4 a ha; omega, h5, h6, hst⟩
theorem doo_unlink (w : World) (t : Nat) (σ : Tr) (Ls : List Lay) (hT : TrAt w t σ Ls) (s s2 : ByteArray) (off m : Int) (dp : Option Addr) (dl dc : Nat) (hs : s.size ≤ 16777216) (d : Nat) (p : List UInt8) (j : Nat) (he : namedE σ.nodes (ofS s) = (0, some ⟨d, p, some j⟩)) (hd : d < σ.nodes.length) (hdk : (nodeAt σ.nodes d).isDir = true) (hlk : lookS (nodeAt σ.nodes d).slots p = some j) (hj : j < σ.nodes.length) (hjk : (nodeAt σ.nodes j).kind = 1) (hp : p.length ≤ 1000) (σ' : Tr)
    (HLG : Hid (∀ W, TrAt W t { σ with nodes := σ.nodes.modify d (fun x => x.del p) } Ls → Calls Tryz.prog 43 #[ptrV t, .agg #[ptrV (locL Ls d), .string (mkS p), ptrV (locL Ls j)]] W fun e w' => e = .returned (.tuple #[]) ∧ Step (fun k => k ∈ feet t Ls) W t w' σ')) :
    Calls Tryz.prog 9 #[ptrV t, callV 4 s s2 off m (.slice dp dl dc)] w fun e w' => e = .returned (errV 0) ∧ Step (fun k => k ∈ feet t Ls) w t w' σ' := by
  refine (do_unlink w t σ' Ls s s2 off m dp dl dc 0 0 0 0 0 (fun x y _ => x = .slice none 0 0 ∧ y = .slice none 0 0) (fun k hk => hT.lt k hk) (fun _ _ _ _ h _ => h) (Hid.mk (fun W hB _ => (unlink_file W t σ Ls (hT.below rfl hB) 4 s s2 off m dp dl dc hs d p j he hd hdk hlk hj hjk hp σ' HLG).mono (fun e w' hh => ⟨none, 0, 0, none, 0, 0, hh.1, hh.2, rfl, rfl⟩)))).mono ?_
  rintro e w' ⟨a1, n1, c1, a5, n5, c5, rfl, hst, h1, h2⟩
  cases h1; cases h2
  exact ⟨rfl, hst⟩
end Go.Proofs.YtehaoeclnmelhacGreat
