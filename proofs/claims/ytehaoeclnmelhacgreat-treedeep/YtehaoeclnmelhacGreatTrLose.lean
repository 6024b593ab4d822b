/-
  lose: the link that a directory's name was.
-/
import Derived.Test.YtehaoeclnmelhacGreatTrStat
namespace Go.Proofs.YtehaoeclnmelhacGreat
open Go Go.Proofs Go.RowKit Go.Shelf Go.Sort

/-- A tree whose counts turn. -/
theorem TrAt.count {W W' : World} {t : Nat} {σ : Tr} {Ls : List Lay} (h : TrAt W t σ Ls) (ho : Only (fun k => k = t) W W') {i' b' : Int} (ht : TbAt W' t σ.G σ.I σ.D (locL Ls 0) i' b') : TrAt W' t { σ with inodes := i', blocks := b' } Ls := by
  refine ⟨ht, h.len, fun i L d h1 h2 => (h.node i L d h1 h2).kept (fun k hk => ho.block k (h.lt k (mem_feet h1 hk)) (fun e => ?_)), h.apart, h.refs, h.root⟩
  subst e
  exact (List.nodup_cons.1 h.apart).1 (List.mem_flatMap.2 ⟨L, List.mem_of_getElem? h1, hk⟩)
/-- A directory's links turn. -/
theorem TrAt.links {W : World} {t : Nat} {σ : Tr} {Ls : List Lay} (h : TrAt W t σ Ls) {d b m r c : Nat} {l z l' : Int} {s : List Slt} (q1 : Ls[d]? = some (.dir b m r c)) (q2 : σ.nodes[d]? = some (.dir l z s)) : TrAt (W.setCell ⟨b, 1, none⟩ (.int .i64 l')) t { σ with nodes := σ.nodes.set d (.dir l' z s) } Ls := by
  have hd : DrAt W (locL Ls) b m r c l z s := h.node d _ _ q1 q2
  have hnd : [b, m, r].Nodup := foot_nodup (List.nodup_cons.1 h.apart).2 q1
  have htb : t ≠ b := fun e => (List.nodup_cons.1 h.apart).1 (List.mem_flatMap.2 ⟨_, List.mem_of_getElem? q1, by rw [e]; simp [Lay.foot]⟩)
  have := h.turn (L' := .dir b m r c) (n' := .dir l' z s) (i' := σ.inodes) (b' := σ.blocks) q1 rfl ((Only.refl (fun k => k = t ∨ k ∈ (Lay.dir b m r c).foot) W).setCell (p := ⟨b, 1, none⟩) (.inl (.inr (by simp [Lay.foot]))) (.int .i64 l'))
    (by unfold TbAt; rw [Below.heap_setCell _ _ _ _ htb]; exact h.tree) (hd.links hnd l') (fun k hk => .inl hk) hnd (fun q hq => h.refs _ (List.mem_of_getElem? q2) q hq) (fun _ => rfl)
  have e : Ls.set d (.dir b m r c) = Ls := by
    apply List.ext_getElem?
    intro i
    by_cases hi : i = d
    · subst hi; rw [List.getElem?_set_self (List.getElem?_eq_some_iff.1 q1).1, q1]
    · rw [List.getElem?_set_ne (fun h => hi h.symm)]
  rwa [e] at this
def loseT (σ : Tr) (d j : Nat) : Tr := { σ with inodes := w64 (σ.inodes - 1), blocks := w64 (σ.blocks - roomL (nodeAt σ.nodes j).nos), nodes := σ.nodes.modify d (fun x => x.more (-1)) }
set_option maxRecDepth 100000 in
set_option maxHeartbeats 4000000 in
theorem lose_dir (w : World) (t : Nat) (σ : Tr) (Ls : List Lay) (hT : TrAt w t σ Ls) (hOk : ∀ x ∈ σ.nodes, x.Ok) (d j : Nat) (p : ByteArray) (hd : d < σ.nodes.length) (hdk : (nodeAt σ.nodes d).isDir = true) (hj : j < σ.nodes.length) (hjk : (nodeAt σ.nodes j).isDir = true) :
    Calls Tryz.prog 43 #[ptrV t, .agg #[ptrV (locL Ls d), .string p, ptrV (locL Ls j)]] w fun e w' => e = .returned (.tuple #[]) ∧ Step (fun k => k ∈ feet t Ls) w t w' (loseT σ d j) := by
  have k2 : (nodeAt σ.nodes j).kind = 2 := by rcases kind_two (nodeAt σ.nodes j) with ⟨_, k⟩ | ⟨k, _⟩; exact k; rw [hjk] at k; cases k
  have HT := Hid.mk hT
  have HOK := Hid.mk hOk
  clear hT hOk
  unfold ptrV
  go_enter Tryz.func43, Tryz.ntmps43
  go_upto_region 1 with fail
  obtain ⟨X, hX⟩ : ∃ X, X = w.alloc (.cells #[.pointer (some ⟨locL Ls d, 0, none⟩), .string p, .pointer (some ⟨locL Ls j, 0, none⟩)] 69) := ⟨_, rfl⟩
  have hXB : Below w.heap.size w X := by rw [hX]; exact (Below.refl _ w).alloc (Nat.le_refl _) _
  have hX0 : X.heap[w.heap.size]? = some (.cells #[.pointer (some ⟨locL Ls d, 0, none⟩), .string p, .pointer (some ⟨locL Ls j, 0, none⟩)] 69 (0, 0)) := by rw [hX]; exact blk_new w _
  rw [← hX]
  clear hX
  have x0 := blk_cell hX0 0
  have x2 := blk_cell hX0 2
  simp at x0 x2
  have hT1 := HT.out.below rfl hXB
  obtain ⟨b, m, r, c, l, z, s, q1, q2, q3, q4, q5⟩ := hT1.dirAt hd hdk
  obtain ⟨g0, -, -⟩ := hT1.kindAt hj
  rw [k2] at g0
  have e1 := blk_cell q3.node 1
  have f1 := blk_free q3.node 1
  simp at e1
  have e4 := blk_cell hT1.tree 4
  have f4 := blk_free hT1.tree 4
  simp at e4
  have htb : t ≠ b := fun e => (List.nodup_cons.1 hT1.apart).1 (List.mem_flatMap.2 ⟨_, List.mem_of_getElem? q1, by rw [e]; simp [Lay.foot]⟩)
  have hbt : ¬ b = t := fun e => htb e.symm
  rw [q4] at x0 ⊢
  have HT2 := Hid.mk (hT1.links (l' := wrap64 (l - 1)) q1 q2)
  have h4 := HT2.out.count (i' := wrap64 (σ.inodes - 1)) (b' := σ.blocks) ((Only.refl (fun k => k = t) _).setCell (p := ⟨t, 4, none⟩) (.inl rfl) (.int .i64 (wrap64 (σ.inodes - 1)))) (by unfold TbAt; rw [blk_set HT2.out.tree]; rfl)
  have HT4 := Hid.mk h4
  have HX := Hid.mk hXB
  have e4' : (X.setCell ⟨b, 1, none⟩ (.int .i64 (wrap64 (l - 1)))).cell? ⟨t, 4, none⟩ = some (.int .i64 σ.inodes) := by rw [blk_cell HT2.out.tree]; rfl
  have f4' : (X.setCell ⟨b, 1, none⟩ (.int .i64 (wrap64 (l - 1)))).frozen? ⟨t, 4, none⟩ = false := blk_free HT2.out.tree 4
  have HQ2 := Hid.mk q2
  have HBF : Hid (b ∈ feet t Ls) := Hid.mk (mem_feet q1 (by simp [Lay.foot]))
  clear hT1 q1 q2 q3 q5 hX0 hXB h4 e4 f4
  go_upto_region 7 with fail
  generalize hV : World.setCell (World.setCell X _ _) _ _ = V at *
  have HV := Hid.mk hV
  have hjl : j < (σ.nodes.set d (.dir (wrap64 (l - 1)) z s)).length := by simpa using hj
  obtain ⟨A, n4, a1, a2, a3, a4⟩ := HT4.out.get hjl
  have hn4 : n4.nos = (nodeAt σ.nodes j).nos ∧ n4.Ok := by
    have hq := HQ2.out
    have a2' : (σ.nodes.set d (.dir (wrap64 (l - 1)) z s))[j]? = some n4 := a2
    by_cases e : j = d
    · subst e
      rw [List.getElem?_set_self (by simpa using hj)] at a2'
      cases a2'
      have e2 : nodeAt σ.nodes j = .dir l z s := by unfold nodeAt; rw [List.getD, hq]; rfl
      rw [e2]
      have hok := HOK.out _ (List.mem_of_getElem? hq)
      exact ⟨rfl, hok⟩
    · rw [List.getElem?_set_ne (fun h => e h.symm)] at a2'
      have e2 : nodeAt σ.nodes j = n4 := by unfold nodeAt; rw [List.getD, a2']; rfl
      rw [e2]
      exact ⟨rfl, HOK.out _ (List.mem_of_getElem? a2')⟩
  have HNO : Hid (∀ W, Below V.heap.size V W → _) := Hid.mk (fun W (hB : Below V.heap.size V W) => nos_any W (locL Ls) A n4 (a3.kept (fun k hk => hB.block k (a3.lt k hk))) hn4.2)
  rw [← a4] at HNO
  have HLN := Hid.mk (nos_len n4 hn4.2)
  have HNE := Hid.mk hn4.1
  have HT5 : Hid (∀ W, Below V.heap.size V W → W.cell? ⟨t, 5, none⟩ = some (.int .i64 σ.blocks) ∧ W.frozen? ⟨t, 5, none⟩ = false) := Hid.mk (fun W hB => by
    have e := (hB.block t (lt_of_block HT4.out.tree)).trans HT4.out.tree
    exact ⟨by rw [blk_cell e]; rfl, blk_free e 5⟩)
  obtain ⟨u5, v5⟩ := HT5.out V.drew (Below.refl _ V).drew
  have XB0 : Hid (Below V.heap.size V V.drew) := Hid.mk (Below.refl _ V).drew
  clear hV a1 a2 a3 a4 hn4 hjl e1 f1 e4' f4' g0 x0 x2
  go_region_with (first
    | (go_at_call 51; refine (HNO.out _ XB0.out).mono ?_; rintro e' Wn ⟨ao', c', rfl, hown, hbn⟩; obtain ⟨ao2, c2, ev, hla⟩ := owns_lat hown; cases ev; have XN : Hid (Below V.heap.size V Wn) := Hid.mk (XB0.out.trans (hbn.mono XB0.out.size)); have LN := Hid.mk hla; obtain ⟨u6, v6⟩ := HT5.out _ XN.out; clear hown hbn hla)
    | (go_at_call 52; refine (room_any _ _ _ _ n4.nos LN.out (by have := HLN.out; omega)).mono ?_; rintro e' Wr ⟨rfl, hbr⟩; have XR : Hid (Below V.heap.size V Wr) := Hid.mk (XN.out.trans (hbr.mono XN.out.size)); obtain ⟨u7, v7⟩ := HT5.out _ XR.out; clear hbr))
  all_goals
    have hr := XR.out
    have hTr := HT4.out.below rfl hr
    go_wp2
    go_end0
    refine ⟨rfl, ?_⟩
    have hfin := hTr.count (i' := wrap64 (σ.inodes - 1)) (b' := wrap64 (σ.blocks - roomL n4.nos)) ((Only.refl (fun k => k = t) Wr).setCell (p := ⟨t, 5, none⟩) (.inl rfl) (.int .i64 (wrap64 (σ.blocks - roomL n4.nos)))) (by unfold TbAt; rw [blk_set hTr.tree]; rfl)
    have hon : Only (fun k => k ∈ feet t Ls) w V := by
      rw [← HV.out]
      exact ((Only.of_new (fun k => k ∈ feet t Ls) HX.out).setCell (p := ⟨b, 1, none⟩) (.inl HBF.out) _).setCell (p := ⟨t, 4, none⟩) (.inl (by simp [feet])) _
    refine ⟨⟨Ls, ?_, fun k hk => .inl hk⟩, (hon.trans (Only.of_new (fun _ => False) hr) (fun _ h => h.elim)).setCell (p := ⟨t, 5, none⟩) (.inl (by simp [feet])) _⟩
    unfold loseT
    rw [wrap_eq, modify_set HQ2.out, ← HNE.out, show (Nd.dir l z s).more (-1) = .dir (wrap64 (l - 1)) z s from by simp only [Nd.more, w64, Int.sub_eq_add_neg]]
    exact hfin
end Go.Proofs.YtehaoeclnmelhacGreat
