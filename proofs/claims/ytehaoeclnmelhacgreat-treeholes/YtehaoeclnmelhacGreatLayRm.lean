/-
  stat.
-/
import Derived.Test.YtehaoeclnmelhacGreatLayEn
import Derived.BigRegion
namespace Go.Proofs.YtehaoeclnmelhacGreat
open Go Go.Proofs Go.RowKit Go.Shelf Go.Sort

theorem drew_heap (W : World) : W.drew.heap = W.heap := rfl
def statV (N : List Nd) (s : List UInt8) : Value :=
  match nodeE N s with
  | (some j, _) => .agg #[.int .i64 0, .slice none 0 0, .int .i64 (nodeAt N j).kind, .int .i64 (nodeAt N j).size, .int .i64 (nodeAt N j).links, .slice none 0 0, .int .i64 0]
  | (none, e) => errV e
set_option maxRecDepth 100000 in
set_option maxHeartbeats 4000000 in
theorem stat_any (w : World) (t : Nat) (σ : Tr) (Ls : List Lay) (hT : TrAt w t σ Ls) (k : Int) (s s2 : ByteArray) (off m : Int) (dp : Option Addr) (dl dc : Nat) (hs : s.size ≤ 16777216) :
    Calls Tryz.prog 29 #[ptrV t, callV k s s2 off m (.slice dp dl dc)] w fun e w' => e = .returned (statV σ.nodes (ofS s)) ∧ Below w.heap.size w w' := by
  have HN : Hid (∀ W, Below w.heap.size w W → _) := Hid.mk (fun W (hB : Below w.heap.size w W) => node_any W t σ Ls (hT.below rfl hB) s hs)
  have HT := Hid.mk hT
  rcases nodeE_or σ.nodes (ofS s) with ⟨j, hj⟩ | ⟨e, he, hne⟩
  · have hjl := nodeE_lt hT _ hj
    have HV : Hid (statV σ.nodes (ofS s) = .agg #[.int .i64 0, .slice none 0 0, .int .i64 (nodeAt σ.nodes j).kind, .int .i64 (nodeAt σ.nodes j).size, .int .i64 (nodeAt σ.nodes j).links, .slice none 0 0, .int .i64 0]) := Hid.mk (by unfold statV; rw [hj])
    rw [hj] at HN
    simp only [optV, ptrV] at HN
    rw [HV.out]
    clear hT hs hj
    unfold callV ptrV at *
    go_enter Tryz.func29, Tryz.ntmps29
    go_wp2_with fail
    obtain ⟨X, hX⟩ : ∃ X, X = (w.alloc (.cells #[.int .i64 k, .string s, .string s2, .int .i64 off, .int .i64 m, .slice dp dl dc] 34)).alloc (.cells #[.int .i64 0, .slice none 0 0, .int .i64 0, .int .i64 0, .int .i64 0, .slice none 0 0, .int .i64 0] 31) := ⟨_, rfl⟩
    have hXB : Below w.heap.size w X := by rw [hX]; exact ((Below.refl _ w).alloc (Nat.le_refl _) _).alloc (by simp) _
    have hXs : X.heap.size = w.heap.size + 2 := by rw [hX]; simp
    have hX0 : X.heap[w.heap.size]? = some (.cells #[.int .i64 k, .string s, .string s2, .int .i64 off, .int .i64 m, .slice dp dl dc] 34 (0, 0)) := by rw [hX, Below.heap_alloc _ _ _ (by simp)]; exact blk_new w _
    have hX1 : X.heap[w.heap.size + 1]? = some (.cells #[.int .i64 0, .slice none 0 0, .int .i64 0, .int .i64 0, .int .i64 0, .slice none 0 0, .int .i64 0] 31 (0, 0)) := by
      rw [hX]
      have := blk_new (w.alloc (.cells #[.int .i64 k, .string s, .string s2, .int .i64 off, .int .i64 m, .slice dp dl dc] 34)) (.cells #[.int .i64 0, .slice none 0 0, .int .i64 0, .int .i64 0, .int .i64 0, .slice none 0 0, .int .i64 0] 31)
      rwa [World.size_alloc] at this
    rw [← hX]
    clear hX
    have HXB := Hid.mk hXB
    have HX1 := Hid.mk hX1
    have hxs := hXs
    refine (HN.out X hXB).mono ?_
    rintro e' W1 ⟨rfl, hB1⟩
    have hB : Below w.heap.size w W1 := hXB.trans (hB1.mono (by omega))
    obtain ⟨g0, g1, g2⟩ := (HT.out.below rfl hB).kindAt hjl
    have hbx := (hB1.block (w.heap.size + 1) (by omega)).trans hX1
    have z0 := blk_cell hbx 0
    have y0 := blk_free hbx 0
    have z1 := blk_cell hbx 1
    have y1 := blk_free hbx 1
    have z2 := blk_cell hbx 2
    have y2 := blk_free hbx 2
    have z3 := blk_cell hbx 3
    have y3 := blk_free hbx 3
    have z4 := blk_cell hbx 4
    have y4 := blk_free hbx 4
    have z5 := blk_cell hbx 5
    have y5 := blk_free hbx 5
    have z6 := blk_cell hbx 6
    have y6 := blk_free hbx 6
    simp at z0 z1 z2 z3 z4 z5 z6
    have HBX := Hid.mk hbx
    have HB := Hid.mk hB
    have hne1 : ¬ locL Ls j = w.heap.size + 1 := by
      obtain ⟨L, _, h1, _, _, h4⟩ := HT.out.get hjl
      have := HT.out.lt L.b (mem_feet h1 L.b_foot)
      omega
    clear hB hbx hB1 hX0 hX1 hXB hXs hxs
    go_wp2_with fail
    go_region
    have hb7 := (box7 HBX.out (.int .i64 0) (.slice none 0 0) (.int .i64 (nodeAt σ.nodes j).kind) (.int .i64 (nodeAt σ.nodes j).size) (.int .i64 (nodeAt σ.nodes j).links) (.slice none 0 0) (.int .i64 0)).1
    have ho7 := (box7 HBX.out (.int .i64 0) (.slice none 0 0) (.int .i64 (nodeAt σ.nodes j).kind) (.int .i64 (nodeAt σ.nodes j).size) (.int .i64 (nodeAt σ.nodes j).links) (.slice none 0 0) (.int .i64 0)).2
    obtain ⟨Y, hY⟩ : ∃ Y, Y = (((((((W1.setCell ⟨w.heap.size + 1, 0, none⟩ (.int .i64 0)).setCell ⟨w.heap.size + 1, 1, none⟩ (.slice none 0 0)).setCell ⟨w.heap.size + 1, 2, none⟩ (.int .i64 (nodeAt σ.nodes j).kind)).setCell ⟨w.heap.size + 1, 3, none⟩ (.int .i64 (nodeAt σ.nodes j).size)).setCell ⟨w.heap.size + 1, 4, none⟩ (.int .i64 (nodeAt σ.nodes j).links)).setCell ⟨w.heap.size + 1, 5, none⟩ (.slice none 0 0)).setCell ⟨w.heap.size + 1, 6, none⟩ (.int .i64 0)).drew := ⟨_, rfl⟩
    have hb8 : Y.heap[w.heap.size + 1]? = some (.cells #[.int .i64 0, .slice none 0 0, .int .i64 (nodeAt σ.nodes j).kind, .int .i64 (nodeAt σ.nodes j).size, .int .i64 (nodeAt σ.nodes j).links, .slice none 0 0, .int .i64 0] 31 (0, 0)) := by rw [hY, drew_heap]; exact hb7
    have ho8 : Only (fun k => k = w.heap.size + 1) W1 Y := by rw [hY]; exact ho7.drew
    rw [← hY]
    have k0 := blk_cell hb8 0
    have k1 := blk_cell hb8 1
    have k2 := blk_cell hb8 2
    have k3 := blk_cell hb8 3
    have k4 := blk_cell hb8 4
    have k5 := blk_cell hb8 5
    have k6 := blk_cell hb8 6
    simp at k0 k1 k2 k3 k4 k5 k6
    have HO8 := Hid.mk ho8
    clear hY hb7 ho7 hb8 ho8 z0 z1 z2 z3 z4 z5 z6 y0 y1 y2 y3 y4 y5 y6 g0 g1 g2
    go_wp2
    refine bodyPost_ret (v := .agg #[.int .i64 0, .slice none 0 0, .int .i64 (nodeAt σ.nodes j).kind, .int .i64 (nodeAt σ.nodes j).size, .int .i64 (nodeAt σ.nodes j).links, .slice none 0 0, .int .i64 0]) ?_ rfl ⟨rfl, ?_⟩
    · simp [results, Tryz.results29, go_sem, k0, k1, k2, k3, k4, k5, k6]
    · exact ((Only.of_below (S := fun _ => False) HB.out (fun k h1 h2 => by omega)).trans HO8.out (fun i hi => .inr (by omega))).below (Nat.le_refl _) (fun _ h => h.elim)
  · have HV : Hid (statV σ.nodes (ofS s) = errV e) := Hid.mk (by unfold statV; rw [he])
    rw [he] at HN
    simp only [optV] at HN
    rw [HV.out]
    clear hT hs he
    unfold callV ptrV at *
    go_enter Tryz.func29, Tryz.ntmps29
    go_wp2_with fail
    obtain ⟨X, hX⟩ : ∃ X, X = (w.alloc (.cells #[.int .i64 k, .string s, .string s2, .int .i64 off, .int .i64 m, .slice dp dl dc] 34)).alloc (.cells #[.int .i64 0, .slice none 0 0, .int .i64 0, .int .i64 0, .int .i64 0, .slice none 0 0, .int .i64 0] 31) := ⟨_, rfl⟩
    have hXB : Below w.heap.size w X := by rw [hX]; exact ((Below.refl _ w).alloc (Nat.le_refl _) _).alloc (by simp) _
    have hXs : X.heap.size = w.heap.size + 2 := by rw [hX]; simp
    have hX0 : X.heap[w.heap.size]? = some (.cells #[.int .i64 k, .string s, .string s2, .int .i64 off, .int .i64 m, .slice dp dl dc] 34 (0, 0)) := by rw [hX, Below.heap_alloc _ _ _ (by simp)]; exact blk_new w _
    have hX1 : X.heap[w.heap.size + 1]? = some (.cells #[.int .i64 0, .slice none 0 0, .int .i64 0, .int .i64 0, .int .i64 0, .slice none 0 0, .int .i64 0] 31 (0, 0)) := by
      rw [hX]
      have := blk_new (w.alloc (.cells #[.int .i64 k, .string s, .string s2, .int .i64 off, .int .i64 m, .slice dp dl dc] 34)) (.cells #[.int .i64 0, .slice none 0 0, .int .i64 0, .int .i64 0, .int .i64 0, .slice none 0 0, .int .i64 0] 31)
      rwa [World.size_alloc] at this
    rw [← hX]
    clear hX
    refine (HN.out X hXB).mono ?_
    rintro e' W1 ⟨rfl, hB1⟩
    have hB : Below w.heap.size w W1 := hXB.trans (hB1.mono (by omega))
    have HF := Hid.mk (failed_any W1 e)
    have hbx1 := (hB1.block (w.heap.size + 1) (by omega)).trans hX1
    have HB1 := Hid.mk hbx1
    have HBB := Hid.mk hB
    clear hB hB1 hX0 hX1 hXB hXs hbx1
    go_wp2_with (go_at_call 19; refine HF.out.mono ?_; rintro e' W3 ⟨rfl, hb3⟩; have hbx := (hb3.block _ (lt_of_block HB1.out)).trans HB1.out; have z0 := blk_cell hbx 0; have y0 := blk_free hbx 0; have z1 := blk_cell hbx 1; have y1 := blk_free hbx 1; have z2 := blk_cell hbx 2; have y2 := blk_free hbx 2; have z3 := blk_cell hbx 3; have y3 := blk_free hbx 3; have z4 := blk_cell hbx 4; have y4 := blk_free hbx 4; have z5 := blk_cell hbx 5; have y5 := blk_free hbx 5; have z6 := blk_cell hbx 6; have y6 := blk_free hbx 6; simp at z0 z1 z2 z3 z4 z5 z6; have BXX := Hid.mk hbx; have HB3 := Hid.mk hb3; unfold errV; clear hbx hb3)
    have hb7 := (box7 BXX.out (.int .i64 e) (.slice none 0 0) (.int .i64 0) (.int .i64 0) (.int .i64 0) (.slice none 0 0) (.int .i64 0)).1
    have ho7 := (box7 BXX.out (.int .i64 e) (.slice none 0 0) (.int .i64 0) (.int .i64 0) (.int .i64 0) (.slice none 0 0) (.int .i64 0)).2
    obtain ⟨Y, hY⟩ : ∃ Y, Y = (((((((W3.setCell ⟨w.heap.size + 1, 0, none⟩ (.int .i64 e)).setCell ⟨w.heap.size + 1, 1, none⟩ (.slice none 0 0)).setCell ⟨w.heap.size + 1, 2, none⟩ (.int .i64 0)).setCell ⟨w.heap.size + 1, 3, none⟩ (.int .i64 0)).setCell ⟨w.heap.size + 1, 4, none⟩ (.int .i64 0)).setCell ⟨w.heap.size + 1, 5, none⟩ (.slice none 0 0)).setCell ⟨w.heap.size + 1, 6, none⟩ (.int .i64 0)) := ⟨_, rfl⟩
    rw [← hY] at hb7 ho7 ⊢
    have k0 := blk_cell hb7 0
    have k1 := blk_cell hb7 1
    have k2 := blk_cell hb7 2
    have k3 := blk_cell hb7 3
    have k4 := blk_cell hb7 4
    have k5 := blk_cell hb7 5
    have k6 := blk_cell hb7 6
    simp at k0 k1 k2 k3 k4 k5 k6
    refine bodyPost_ret (v := errV e) ?_ rfl ?_
    · simp [results, Tryz.results29, go_sem, errV, k0, k1, k2, k3, k4, k5, k6]
    · exact ⟨rfl, by have h1 := HBB.out.trans (HB3.out.mono HBB.out.size); exact (Only.of_below (S := fun _ => False) h1 (fun k h1 h2 => by omega) |>.trans ho7 (fun i hi => .inr (by omega))).below (Nat.le_refl _) (fun _ h => h.elim)⟩
end Go.Proofs.YtehaoeclnmelhacGreat
namespace Go.Proofs.YtehaoeclnmelhacGreat
open Go Go.Proofs Go.RowKit Go.Shelf Go.Sort

/-- A tree whose counts turn. -/
theorem TrAt.count {W W' : World} {t : Nat} {σ : Tr} {Ls : List Lay} (h : TrAt W t σ Ls) (ho : Only (fun k => k = t) W W') {i' b' : Int} (ht : TbAt W' t σ.G σ.I σ.D (locL Ls 0) i' b') : TrAt W' t { σ with inodes := i', blocks := b' } Ls := by
  refine ⟨ht, h.len, fun i L d h1 h2 => (h.node i L d h1 h2).kept (fun k hk => ho.block k (h.lt k (mem_feet h1 hk)) (fun e => ?_)), h.apart, h.refs, h.root⟩
  subst e
  exact (List.nodup_cons.1 h.apart).1 (List.mem_flatMap.2 ⟨L, List.mem_of_getElem? h1, hk⟩)
/-- A directory's links turn. -/
theorem TrAt.links {W : World} {t : Nat} {σ : Tr} {Ls : List Lay} (h : TrAt W t σ Ls) {d b m r c : Nat} {l z l' : Int} {s : List Slt} (q1 : Ls[d]? = some (.dir b m r c)) (q2 : σ.nodes[d]? = some (.dir l z s)) : TrAt (W.setCell ⟨b, 1, none⟩ (.int .i64 l')) t { σ with nodes := σ.nodes.set d (.dir l' z s) } Ls := by
  have hd : DrAt W (locL Ls) b m r c l z s := h.node d _ _ q1 q2
  have hnd : [b, m, r].Nodup := foot_nodup (List.nodup_cons.1 h.apart).2 q1
  have htb : t ≠ b := fun e => (List.nodup_cons.1 h.apart).1 (List.mem_flatMap.2 ⟨_, List.mem_of_getElem? q1, by rw [e]; simp [Lay.foot]⟩)
  have := h.turn (L' := .dir b m r c) (n' := .dir l' z s) (i' := σ.inodes) (b' := σ.blocks) q1 rfl ((Only.refl (fun k => k = t ∨ k ∈ (Lay.dir b m r c).foot) W).setCell (p := ⟨b, 1, none⟩) (.inl (.inr (by simp [Lay.foot]))) (.int .i64 l'))
    (by unfold TbAt; rw [Below.heap_setCell _ _ _ _ htb]; exact h.tree) (hd.links hnd l') (fun k hk => .inl hk) hnd (fun q hq => h.refs _ (List.mem_of_getElem? q2) q hq) (fun _ => rfl)
  have e : Ls.set d (.dir b m r c) = Ls := by
    apply List.ext_getElem?
    intro i
    by_cases hi : i = d
    · subst hi; rw [List.getElem?_set_self (List.getElem?_eq_some_iff.1 q1).1, q1]
    · rw [List.getElem?_set_ne (fun h => hi h.symm)]
  rwa [e] at this
def loseT (σ : Tr) (d j : Nat) : Tr := { σ with inodes := w64 (σ.inodes - 1), blocks := w64 (σ.blocks - roomL (nodeAt σ.nodes j).nos), nodes := σ.nodes.modify d (fun x => x.more (-1)) }
set_option maxRecDepth 100000 in
set_option maxHeartbeats 4000000 in
theorem lose_dir (w : World) (t : Nat) (σ : Tr) (Ls : List Lay) (hT : TrAt w t σ Ls) (hOk : ∀ x ∈ σ.nodes, x.Ok) (d j : Nat) (p : ByteArray) (hd : d < σ.nodes.length) (hdk : (nodeAt σ.nodes d).isDir = true) (hj : j < σ.nodes.length) (hjk : (nodeAt σ.nodes j).isDir = true) :
    Calls Tryz.prog 43 #[ptrV t, .agg #[ptrV (locL Ls d), .string p, ptrV (locL Ls j)]] w fun e w' => e = .returned (.tuple #[]) ∧ Step (fun k => k ∈ feet t Ls) w t w' (loseT σ d j) := by
  have k2 : (nodeAt σ.nodes j).kind = 2 := by rcases kind_two (nodeAt σ.nodes j) with ⟨_, k⟩ | ⟨k, _⟩; exact k; rw [hjk] at k; cases k
  have HT := Hid.mk hT
  have HOK := Hid.mk hOk
  clear hT hOk
  unfold ptrV
  go_enter Tryz.func43, Tryz.ntmps43
  go_upto_region 1 with fail
  obtain ⟨X, hX⟩ : ∃ X, X = w.alloc (.cells #[.pointer (some ⟨locL Ls d, 0, none⟩), .string p, .pointer (some ⟨locL Ls j, 0, none⟩)] 69) := ⟨_, rfl⟩
  have hXB : Below w.heap.size w X := by rw [hX]; exact (Below.refl _ w).alloc (Nat.le_refl _) _
  have hX0 : X.heap[w.heap.size]? = some (.cells #[.pointer (some ⟨locL Ls d, 0, none⟩), .string p, .pointer (some ⟨locL Ls j, 0, none⟩)] 69 (0, 0)) := by rw [hX]; exact blk_new w _
  rw [← hX]
  clear hX
  have x0 := blk_cell hX0 0
  have x2 := blk_cell hX0 2
  simp at x0 x2
  have hT1 := HT.out.below rfl hXB
  obtain ⟨b, m, r, c, l, z, s, q1, q2, q3, q4, q5⟩ := hT1.dirAt hd hdk
  obtain ⟨g0, -, -⟩ := hT1.kindAt hj
  rw [k2] at g0
  have e1 := blk_cell q3.node 1
  have f1 := blk_free q3.node 1
  simp at e1
  have e4 := blk_cell hT1.tree 4
  have f4 := blk_free hT1.tree 4
  simp at e4
  have htb : t ≠ b := fun e => (List.nodup_cons.1 hT1.apart).1 (List.mem_flatMap.2 ⟨_, List.mem_of_getElem? q1, by rw [e]; simp [Lay.foot]⟩)
  have hbt : ¬ b = t := fun e => htb e.symm
  rw [q4] at x0 ⊢
  have HT2 := Hid.mk (hT1.links (l' := wrap64 (l - 1)) q1 q2)
  have h4 := HT2.out.count (i' := wrap64 (σ.inodes - 1)) (b' := σ.blocks) ((Only.refl (fun k => k = t) _).setCell (p := ⟨t, 4, none⟩) (.inl rfl) (.int .i64 (wrap64 (σ.inodes - 1)))) (by unfold TbAt; rw [blk_set HT2.out.tree]; rfl)
  have HT4 := Hid.mk h4
  have HX := Hid.mk hXB
  have e4' : (X.setCell ⟨b, 1, none⟩ (.int .i64 (wrap64 (l - 1)))).cell? ⟨t, 4, none⟩ = some (.int .i64 σ.inodes) := by rw [blk_cell HT2.out.tree]; rfl
  have f4' : (X.setCell ⟨b, 1, none⟩ (.int .i64 (wrap64 (l - 1)))).frozen? ⟨t, 4, none⟩ = false := blk_free HT2.out.tree 4
  have HQ2 := Hid.mk q2
  have HBF : Hid (b ∈ feet t Ls) := Hid.mk (mem_feet q1 (by simp [Lay.foot]))
  clear hT1 q1 q2 q3 q5 hX0 hXB h4 e4 f4
  go_upto_region 7 with fail
  generalize hV : World.setCell (World.setCell X _ _) _ _ = V at *
  have HV := Hid.mk hV
  have hjl : j < (σ.nodes.set d (.dir (wrap64 (l - 1)) z s)).length := by simpa using hj
  obtain ⟨A, n4, a1, a2, a3, a4⟩ := HT4.out.get hjl
  have hn4 : n4.nos = (nodeAt σ.nodes j).nos ∧ n4.Ok := by
    have hq := HQ2.out
    have a2' : (σ.nodes.set d (.dir (wrap64 (l - 1)) z s))[j]? = some n4 := a2
    by_cases e : j = d
    · subst e
      rw [List.getElem?_set_self (by simpa using hj)] at a2'
      cases a2'
      have e2 : nodeAt σ.nodes j = .dir l z s := by unfold nodeAt; rw [List.getD, hq]; rfl
      rw [e2]
      have hok := HOK.out _ (List.mem_of_getElem? hq)
      exact ⟨rfl, hok⟩
    · rw [List.getElem?_set_ne (fun h => e h.symm)] at a2'
      have e2 : nodeAt σ.nodes j = n4 := by unfold nodeAt; rw [List.getD, a2']; rfl
      rw [e2]
      exact ⟨rfl, HOK.out _ (List.mem_of_getElem? a2')⟩
  have HNO : Hid (∀ W, Below V.heap.size V W → _) := Hid.mk (fun W (hB : Below V.heap.size V W) => nos_any W (locL Ls) A n4 (a3.kept (fun k hk => hB.block k (a3.lt k hk))) hn4.2)
  rw [← a4] at HNO
  have HLN := Hid.mk (nos_len n4 hn4.2)
  have HNE := Hid.mk hn4.1
  have HT5 : Hid (∀ W, Below V.heap.size V W → W.cell? ⟨t, 5, none⟩ = some (.int .i64 σ.blocks) ∧ W.frozen? ⟨t, 5, none⟩ = false) := Hid.mk (fun W hB => by
    have e := (hB.block t (lt_of_block HT4.out.tree)).trans HT4.out.tree
    exact ⟨by rw [blk_cell e]; rfl, blk_free e 5⟩)
  obtain ⟨u5, v5⟩ := HT5.out V.drew (Below.refl _ V).drew
  have XB0 : Hid (Below V.heap.size V V.drew) := Hid.mk (Below.refl _ V).drew
  clear hV a1 a2 a3 a4 hn4 hjl e1 f1 e4' f4' g0 x0 x2
  go_region_with (first
    | (go_at_call 51; refine (HNO.out _ XB0.out).mono ?_; rintro e' Wn ⟨ao', c', rfl, hown, hbn⟩; obtain ⟨ao2, c2, ev, hla⟩ := owns_lat hown; cases ev; have XN : Hid (Below V.heap.size V Wn) := Hid.mk (XB0.out.trans (hbn.mono XB0.out.size)); have LN := Hid.mk hla; obtain ⟨u6, v6⟩ := HT5.out _ XN.out; clear hown hbn hla)
    | (go_at_call 52; refine (room_any _ _ _ _ n4.nos LN.out (by have := HLN.out; omega)).mono ?_; rintro e' Wr ⟨rfl, hbr⟩; have XR : Hid (Below V.heap.size V Wr) := Hid.mk (XN.out.trans (hbr.mono XN.out.size)); obtain ⟨u7, v7⟩ := HT5.out _ XR.out; clear hbr))
  all_goals
    have hr := XR.out
    have hTr := HT4.out.below rfl hr
    go_wp2
    go_end0
    refine ⟨rfl, ?_⟩
    have hfin := hTr.count (i' := wrap64 (σ.inodes - 1)) (b' := wrap64 (σ.blocks - roomL n4.nos)) ((Only.refl (fun k => k = t) Wr).setCell (p := ⟨t, 5, none⟩) (.inl rfl) (.int .i64 (wrap64 (σ.blocks - roomL n4.nos)))) (by unfold TbAt; rw [blk_set hTr.tree]; rfl)
    have hon : Only (fun k => k ∈ feet t Ls) w V := by
      rw [← HV.out]
      exact ((Only.of_new (fun k => k ∈ feet t Ls) HX.out).setCell (p := ⟨b, 1, none⟩) (.inl HBF.out) _).setCell (p := ⟨t, 4, none⟩) (.inl (by simp [feet])) _
    refine ⟨⟨Ls, ?_, fun k hk => .inl hk⟩, (hon.trans (Only.of_new (fun _ => False) hr) (fun _ h => h.elim)).setCell (p := ⟨t, 5, none⟩) (.inl (by simp [feet])) _⟩
    unfold loseT
    rw [wrap_eq, modify_set HQ2.out, ← HNE.out, show (Nd.dir l z s).more (-1) = .dir (wrap64 (l - 1)) z s from by simp only [Nd.more, w64, Int.sub_eq_add_neg]]
    exact hfin
end Go.Proofs.YtehaoeclnmelhacGreat
namespace Go.Proofs.YtehaoeclnmelhacGreat
open Go Go.Proofs Go.RowKit Go.Shelf Go.Sort

theorem call_box (w : World) (k : Int) (s s2 : ByteArray) (off m : Int) (v : Value) (W : World) (hB : Below (w.heap.size + 1) (w.alloc (.cells #[.int .i64 k, .string s, .string s2, .int .i64 off, .int .i64 m, v] 34)) W) : W.cell? ⟨w.heap.size, 1, none⟩ = some (.string s) ∧ W.cell? ⟨w.heap.size, 2, none⟩ = some (.string s2) ∧ Below w.heap.size w W := by
  have e : W.heap[w.heap.size]? = some (.cells #[.int .i64 k, .string s, .string s2, .int .i64 off, .int .i64 m, v] 34 (0, 0)) := (hB.block w.heap.size (by omega)).trans (blk_new w _)
  exact ⟨by rw [blk_cell e]; rfl, by rw [blk_cell e]; rfl, ((Below.refl _ w).alloc (Nat.le_refl _) _).trans (hB.mono (by omega))⟩
set_option maxRecDepth 100000 in
set_option maxHeartbeats 4000000 in
theorem both_no (w : World) (k : Int) (s s2 : ByteArray) (off m : Int) (dp : Option Addr) (dl dc : Nat) (hs : s.size ≤ 16777216) (hs2 : s2.size ≤ 16777216) (h : splitL (ofS s) = none ∨ splitL (ofS s2) = none) :
    Calls Tryz.prog 35 #[callV k s s2 off m (.slice dp dl dc)] w fun e w' => e = .returned (.tuple #[.slice none 0 0, .slice none 0 0, .int .i64 15]) ∧ Below w.heap.size w w' := by
  have HCB := Hid.mk (call_box w k s s2 off m (.slice dp dl dc))
  unfold callV
  cases h1 : splitL (ofS s) with
  | none =>
    have H1 := Hid.mk (fun W => split_no W s hs h1)
    clear h h1 hs hs2
    go_enter Tryz.func35, Tryz.ntmps35
    go_wp2_with (go_at_call 54; refine (H1.out _).mono ?_; rintro e W1 ⟨ao, n, c, rfl, hB⟩; have HB := Hid.mk hB; clear hB)
    refine bodyPost_ret (results_tmp3 rfl _ _ _) rfl ⟨rfl, ?_⟩
    have := HB.out
    simp only [World.size_alloc] at this
    exact (HCB.out _ this).2.2
  | some L =>
    have H1 := Hid.mk (fun W => split_yes W s hs h1)
    have h2 : splitL (ofS s2) = none := by rcases h with h | h; rw [h1] at h; cases h; exact h
    have H2 := Hid.mk (fun W => split_no W s2 hs2 h2)
    clear h h1 h2 hs hs2
    go_enter Tryz.func35, Tryz.ntmps35
    have tok : True := trivial
    go_wp2_with (first
      | (go_at_call 54; have _t := tok; refine (H1.out _).mono ?_; rintro e W1 ⟨ao, c, rfl, -, -, -, hB⟩; simp only [World.size_alloc] at hB; obtain ⟨c1, c2, c3⟩ := HCB.out _ hB; have HB := Hid.mk hB; have HC3 := Hid.mk c3; clear hB tok c3 _t)
      | (go_at_call 54; refine (H2.out _).mono ?_; rintro e W2 ⟨ao2, n2, c2', rfl, hB⟩; have HB2 := Hid.mk hB; clear hB))
    refine bodyPost_ret (results_tmp3 rfl _ _ _) rfl ⟨rfl, ?_⟩
    exact HC3.out.trans (HB2.out.mono HC3.out.size)
set_option maxRecDepth 100000 in
set_option maxHeartbeats 4000000 in
theorem both_yes (w : World) (k : Int) (s s2 : ByteArray) (off m : Int) (dp : Option Addr) (dl dc : Nat) (hs : s.size ≤ 16777216) (hs2 : s2.size ≤ 16777216) {L M : List (List UInt8)} (h1 : splitL (ofS s) = some L) (h2 : splitL (ofS s2) = some M) :
    Calls Tryz.prog 35 #[callV k s s2 off m (.slice dp dl dc)] w fun e w' => ∃ ao c bo d, e = .returned (.tuple #[.slice ao L.length c, .slice bo M.length d, .int .i64 0]) ∧ SAt w' ao L.length L ∧ SAt w' bo M.length M ∧ L.length ≤ c ∧ c ≤ 9223372036854775807 ∧ M.length ≤ d ∧ d ≤ 9223372036854775807 ∧ Below w.heap.size w w' := by
  have HCB := Hid.mk (call_box w k s s2 off m (.slice dp dl dc))
  unfold callV
  have H1 := Hid.mk (fun W => split_yes W s hs h1)
  have H2 := Hid.mk (fun W => split_yes W s2 hs2 h2)
  clear h1 h2 hs hs2
  go_enter Tryz.func35, Tryz.ntmps35
  have tok : True := trivial
  go_wp2_with (first
    | (go_at_call 54; have _t := tok; refine (H1.out _).mono ?_; rintro e W1 ⟨ao, c, rfl, hs1, hc1, hc2, hB⟩; simp only [World.size_alloc] at hB; obtain ⟨c1, c2, c3⟩ := HCB.out _ hB; have HS1 := Hid.mk hs1; have HC1 := Hid.mk hc1; have HC2 := Hid.mk hc2; have HC3 := Hid.mk c3; clear hB tok c3 _t hs1 hc1 hc2)
    | (go_at_call 54; refine (H2.out _).mono ?_; rintro e W2 ⟨bo, d, rfl, hs2, hd1, hd2, hB⟩; have HB2 := Hid.mk hB; have HS2 := Hid.mk hs2; have HD1 := Hid.mk hd1; have HD2 := Hid.mk hd2; clear hB hs2 hd1 hd2))
  refine bodyPost_ret (results_tmp3 rfl _ _ _) rfl ?_
  exact ⟨ao, c, bo, d, rfl, HS1.out.below HB2.out, HS2.out, HC1.out, HC2.out, HD1.out, HD2.out, HC3.out.trans (HB2.out.mono HC3.out.size)⟩
end Go.Proofs.YtehaoeclnmelhacGreat
namespace Go.Proofs.YtehaoeclnmelhacGreat
open Go Go.Proofs Go.RowKit Go.Shelf Go.Sort

theorem namedE_or {W : World} {t : Nat} {σ : Tr} {Ls : List Lay} (hT : TrAt W t σ Ls) (s : List UInt8) : (∃ d p j, namedE σ.nodes s = (0, some ⟨d, p, some j⟩) ∧ d < σ.nodes.length ∧ (nodeAt σ.nodes d).isDir = true ∧ lookS (nodeAt σ.nodes d).slots p = some j ∧ j < σ.nodes.length ∧ p.length ≤ 1000) ∨ ∃ e sp, namedE σ.nodes s = (e, sp) ∧ e ≠ 0 := by
  unfold namedE
  cases h : splitL s with
  | none => exact .inr ⟨15, none, rfl, by decide⟩
  | some K =>
    rcases list_two K with rfl | ⟨M, p, rfl⟩
    · exact .inr ⟨18, none, rfl, by decide⟩
    · simp only [List.append_eq_nil_iff, List.cons_ne_self, and_false, if_false, List.dropLast_concat, List.getLastD_concat]
      rcases spotE_or σ.nodes M p with ⟨d, o, he, h1, h2, h3⟩ | ⟨e, he, hne⟩
      · rw [he]
        cases o with
        | none => exact .inr ⟨10, some ⟨d, p, none⟩, rfl, by decide⟩
        | some j =>
          have hdl := wayE_lt hT M h1
          refine .inl ⟨d, p, j, rfl, hdl, h2, h3.symm, ?_, (split_bounds h).1 p (by simp)⟩
          obtain ⟨b, m, r, c, l, z, sl, q1, q2, q3, q4, q5⟩ := hT.dirAt hdl h2
          rw [q5] at h3
          exact look_ref hT q2 h3.symm
      · rw [he]
        refine .inr ⟨nmE (e, none), none, rfl, ?_⟩
        have : nmE (e, none) = e := by unfold nmE; split <;> simp_all
        rw [this]
        exact hne
def rmdirS (σ : Tr) (s : List UInt8) : Int × Tr :=
  match namedE σ.nodes s with
  | (0, some ⟨d, p, some j⟩) => if (nodeAt σ.nodes j).isDir = true then (if 0 < usedN (nodeAt σ.nodes j).slots then (14, σ) else (0, loseT { σ with nodes := σ.nodes.modify d (fun x => x.del p) } d j)) else (12, σ)
  | (e, _) => (e, σ)
set_option maxRecDepth 100000 in
set_option maxHeartbeats 4000000 in
theorem rmdir_wrong (w : World) (t : Nat) (σ : Tr) (Ls : List Lay) (hT : TrAt w t σ Ls) (k : Int) (s s2 : ByteArray) (off m : Int) (dp : Option Addr) (dl dc : Nat) (hs : s.size ≤ 16777216) (hw : ∃ e sp, namedE σ.nodes (ofS s) = (e, sp) ∧ e ≠ 0) :
    Calls Tryz.prog 24 #[ptrV t, callV k s s2 off m (.slice dp dl dc)] w fun e w' => e = .returned (errV (rmdirS σ (ofS s)).1) ∧ (rmdirS σ (ofS s)).2 = σ ∧ Below w.heap.size w w' := by
  obtain ⟨e, sp, he, hne⟩ := hw
  have HN : Hid (∀ W, Below w.heap.size w W → _) := Hid.mk (fun W (hB : Below w.heap.size w W) => named_any W t σ Ls (hT.below rfl hB) s hs)
  have HV : rmdirS σ (ofS s) = (e, σ) := by unfold rmdirS; rw [he]; split <;> simp_all
  rw [he] at HN
  rw [HV]
  simp only at HN ⊢
  have hsv : ∃ x0 x1 x2, spotV (locL Ls) sp = .agg #[.pointer x0, .string x1, .pointer x2] := by
    cases sp with
    | none => exact ⟨_, _, _, rfl⟩
    | some sp => obtain ⟨q, hq, _⟩ := opt_ptr (locL Ls) sp.named; exact ⟨some ⟨locL Ls sp.dir, 0, none⟩, mkS sp.name, q, by simp only [spotV, hq, ptrV, strV]⟩
  obtain ⟨x0, x1, x2, hsv⟩ := hsv
  rw [hsv] at HN
  clear hT hs he HV hsv
  unfold callV ptrV at *
  go_enter Tryz.func24, Tryz.ntmps24
  go_wp2_with fail
  obtain ⟨X, hX⟩ : ∃ X, X = (w.alloc (.cells #[.int .i64 k, .string s, .string s2, .int .i64 off, .int .i64 m, .slice dp dl dc] 34)).alloc (.cells #[.int .i64 0, .slice none 0 0, .int .i64 0, .int .i64 0, .int .i64 0, .slice none 0 0, .int .i64 0] 31) := ⟨_, rfl⟩
  have hXB : Below w.heap.size w X := by rw [hX]; exact ((Below.refl _ w).alloc (Nat.le_refl _) _).alloc (by simp) _
  have hXs : X.heap.size = w.heap.size + 2 := by rw [hX]; simp
  have hX0 : X.heap[w.heap.size]? = some (.cells #[.int .i64 k, .string s, .string s2, .int .i64 off, .int .i64 m, .slice dp dl dc] 34 (0, 0)) := by rw [hX, Below.heap_alloc _ _ _ (by simp)]; exact blk_new w _
  have hX1 : X.heap[w.heap.size + 1]? = some (.cells #[.int .i64 0, .slice none 0 0, .int .i64 0, .int .i64 0, .int .i64 0, .slice none 0 0, .int .i64 0] 31 (0, 0)) := by
    rw [hX]
    have := blk_new (w.alloc (.cells #[.int .i64 k, .string s, .string s2, .int .i64 off, .int .i64 m, .slice dp dl dc] 34)) (.cells #[.int .i64 0, .slice none 0 0, .int .i64 0, .int .i64 0, .int .i64 0, .slice none 0 0, .int .i64 0] 31)
    rwa [World.size_alloc] at this
  rw [← hX]
  clear hX
  refine (HN.out X hXB).mono ?_
  rintro e' W1 ⟨rfl, hB1⟩
  have hB : Below w.heap.size w W1 := hXB.trans (hB1.mono (by omega))
  have hbx1 := (hB1.block (w.heap.size + 1) (by omega)).trans hX1
  have HB1 : Hid ((W1.alloc (.cells #[.pointer x0, .string x1, .pointer x2] 69)).heap[w.heap.size + 1]? = some (.cells #[.int .i64 0, .slice none 0 0, .int .i64 0, .int .i64 0, .int .i64 0, .slice none 0 0, .int .i64 0] 31 (0, 0))) := Hid.mk ((Below.heap_alloc _ _ _ (lt_of_block hbx1)).trans hbx1)
  have HBB : Hid (Below w.heap.size w (W1.alloc (.cells #[.pointer x0, .string x1, .pointer x2] 69))) := Hid.mk (hB.alloc hB.size _)
  clear hB hB1 hX0 hX1 hXB hXs hbx1
  go_wp2_with (go_at_call 19; refine (failed_any _ _).mono ?_; rintro e' W3 ⟨rfl, hb3⟩; have hbx := (hb3.block _ (lt_of_block HB1.out)).trans HB1.out; have z0 := blk_cell hbx 0; have y0 := blk_free hbx 0; have z1 := blk_cell hbx 1; have y1 := blk_free hbx 1; have z2 := blk_cell hbx 2; have y2 := blk_free hbx 2; have z3 := blk_cell hbx 3; have y3 := blk_free hbx 3; have z4 := blk_cell hbx 4; have y4 := blk_free hbx 4; have z5 := blk_cell hbx 5; have y5 := blk_free hbx 5; have z6 := blk_cell hbx 6; have y6 := blk_free hbx 6; simp at z0 z1 z2 z3 z4 z5 z6; have BXX := Hid.mk hbx; have HB3 := Hid.mk hb3; unfold errV; clear hbx hb3)
  have hb7 := (box7 BXX.out (.int .i64 e) (.slice none 0 0) (.int .i64 0) (.int .i64 0) (.int .i64 0) (.slice none 0 0) (.int .i64 0)).1
  have ho7 := (box7 BXX.out (.int .i64 e) (.slice none 0 0) (.int .i64 0) (.int .i64 0) (.int .i64 0) (.slice none 0 0) (.int .i64 0)).2
  obtain ⟨Y, hY⟩ : ∃ Y, Y = (((((((W3.setCell ⟨w.heap.size + 1, 0, none⟩ (.int .i64 e)).setCell ⟨w.heap.size + 1, 1, none⟩ (.slice none 0 0)).setCell ⟨w.heap.size + 1, 2, none⟩ (.int .i64 0)).setCell ⟨w.heap.size + 1, 3, none⟩ (.int .i64 0)).setCell ⟨w.heap.size + 1, 4, none⟩ (.int .i64 0)).setCell ⟨w.heap.size + 1, 5, none⟩ (.slice none 0 0)).setCell ⟨w.heap.size + 1, 6, none⟩ (.int .i64 0)) := ⟨_, rfl⟩
  rw [← hY] at hb7 ho7 ⊢
  have k0 := blk_cell hb7 0
  have k1 := blk_cell hb7 1
  have k2 := blk_cell hb7 2
  have k3 := blk_cell hb7 3
  have k4 := blk_cell hb7 4
  have k5 := blk_cell hb7 5
  have k6 := blk_cell hb7 6
  simp at k0 k1 k2 k3 k4 k5 k6
  refine bodyPost_ret (v := errV e) ?_ rfl ?_
  · simp [results, Tryz.results24, go_sem, errV, k0, k1, k2, k3, k4, k5, k6]
  · exact ⟨rfl, trivial, by have h1 := HBB.out.trans (HB3.out.mono HBB.out.size); exact ((Only.of_below (S := fun _ => False) h1 (fun k h1 h2 => by omega)).trans ho7 (fun i hi => .inr (by omega))).below (Nat.le_refl _) (fun _ h => h.elim)⟩
theorem del_ok {N : List Nd} (h : ∀ x ∈ N, x.Ok) (d : Nat) (p : List UInt8) : ∀ x ∈ N.modify d (fun x => x.del p), x.Ok := by
  intro x hx
  obtain ⟨i, hi, e⟩ := List.getElem_of_mem hx
  have e2 : (N.modify d (fun x => x.del p))[i]? = some x := by rw [List.getElem?_eq_getElem hi, e]
  rw [List.getElem?_modify] at e2
  cases hn : N[i]? with
  | none => rw [hn] at e2; cases e2
  | some y =>
    rw [hn] at e2
    have hy := h y (List.mem_of_getElem? hn)
    simp at e2
    split at e2
    · subst e2
      cases y with
      | file l z q => exact hy
      | dir l z s => exact ⟨hy.1, hy.2.1, by simpa using hy.2.2⟩
    · subst e2; exact hy
theorem del_dir {N : List Nd} (i d : Nat) (p : List UInt8) (h : (nodeAt N i).isDir = true) : (nodeAt (N.modify d (fun x => x.del p)) i).isDir = true := by
  unfold nodeAt at h ⊢
  rw [List.getD, List.getElem?_modify]
  rw [List.getD] at h
  cases hn : N[i]? with
  | none => rw [hn] at h; cases h
  | some y =>
    rw [hn] at h
    have h' : y.isDir = true := h
    simp
    split
    · cases y with
      | file => cases h'
      | dir => rfl
    · exact h'
theorem remove_tree (w : World) (t : Nat) (σ : Tr) (Ls : List Lay) (hT : TrAt w t σ Ls) (d : Nat) (p : List UInt8) (j : Nat) (hd : d < σ.nodes.length) (hdk : (nodeAt σ.nodes d).isDir = true) (hlk : lookS (nodeAt σ.nodes d).slots p = some j) (hp : p.length ≤ 1000) :
    Calls Tryz.prog 42 #[ptrV (locL Ls d), strV p] w fun e w' => e = .returned (.tuple #[]) ∧ TrAt w' t { σ with nodes := σ.nodes.modify d (fun x => x.del p) } Ls ∧ Only (fun k => k ∈ feet t Ls) w w' := by
  obtain ⟨b, m, r, c, l, z, s, q1, q2, q3, q4, q5⟩ := hT.dirAt hd hdk
  have hnd : [b, m, r].Nodup := foot_nodup (List.nodup_cons.1 hT.apart).2 q1
  rw [q5] at hlk
  have hlt : nameAt s p < s.length := by
    have h1 := look_lt s p
    have h2 : lookS s p = some j := hlk
    rw [h2] at h1
    simpa using h1.symm
  rw [q4]
  refine (remove_any w (locL Ls) b m r c l z s q3 hnd p hp hlt).mono ?_
  rintro e w' ⟨h1, h2, h3⟩
  have htm : t ≠ m ∧ t ≠ r := by
    constructor <;> exact fun e => (List.nodup_cons.1 hT.apart).1 (List.mem_flatMap.2 ⟨_, List.mem_of_getElem? q1, by rw [e]; simp [Lay.foot]⟩)
  have hfin := hT.turn (L' := .dir b m r c) (n' := .dir l z (s.set (nameAt s p) none)) (i' := σ.inodes) (b' := σ.blocks) q1 rfl (h3.mono (fun i _ hi => .inr (by rcases hi with rfl | rfl <;> simp [Lay.foot])))
    ((h3.block t (lt_of_block hT.tree) (fun e => e.elim htm.1 htm.2)).trans hT.tree) h2 (fun k hk => .inl hk) hnd (fun q hq => by
      rcases List.mem_or_eq_of_mem_set hq with h | h
      · exact hT.refs _ (List.mem_of_getElem? q2) q h
      · cases h) (fun _ => rfl)
  have e2 : Ls.set d (.dir b m r c) = Ls := by
    apply List.ext_getElem?
    intro i
    by_cases hi : i = d
    · subst hi; rw [List.getElem?_set_self (List.getElem?_eq_some_iff.1 q1).1, q1]
    · rw [List.getElem?_set_ne (fun h => hi h.symm)]
  rw [e2] at hfin
  refine ⟨h1, ?_, h3.mono (fun i _ hi => mem_feet q1 (by rcases hi with rfl | rfl <;> simp [Lay.foot]))⟩
  rw [modify_set q2]
  exact hfin
set_option maxRecDepth 100000 in
set_option maxHeartbeats 4000000 in
theorem rmdir_main (w : World) (t : Nat) (σ : Tr) (Ls : List Lay) (hT : TrAt w t σ Ls) (hOk : ∀ x ∈ σ.nodes, x.Ok) (k : Int) (s s2 : ByteArray) (off m : Int) (dp : Option Addr) (dl dc : Nat) (hs : s.size ≤ 16777216) (d : Nat) (p : List UInt8) (j : Nat) (he : namedE σ.nodes (ofS s) = (0, some ⟨d, p, some j⟩)) (hd : d < σ.nodes.length) (hdk : (nodeAt σ.nodes d).isDir = true) (hlk : lookS (nodeAt σ.nodes d).slots p = some j) (hj : j < σ.nodes.length) (hp : p.length ≤ 1000) :
    Calls Tryz.prog 24 #[ptrV t, callV k s s2 off m (.slice dp dl dc)] w fun e w' => e = .returned (errV (rmdirS σ (ofS s)).1) ∧ Step (fun k => k ∈ feet t Ls) w t w' (rmdirS σ (ofS s)).2 := by
  have HN : Hid (∀ W, Below w.heap.size w W → _) := Hid.mk (fun W (hB : Below w.heap.size w W) => named_any W t σ Ls (hT.below rfl hB) s hs)
  have HT := Hid.mk hT
  rw [he] at HN
  simp only [spotV, optV, ptrV, strV] at HN
  have hsv : rmdirS σ (ofS s) = if (nodeAt σ.nodes j).isDir = true then (if 0 < usedN (nodeAt σ.nodes j).slots then (14, σ) else (0, loseT { σ with nodes := σ.nodes.modify d (fun x => x.del p) } d j)) else (12, σ) := by
    unfold rmdirS
    rw [he]
    rfl
  rw [hsv]
  have HK : Hid (∀ W, Below w.heap.size w W → W.cell? ⟨locL Ls j, 0, none⟩ = some (.int .i64 (nodeAt σ.nodes j).kind)) := Hid.mk (fun W hB => ((hT.below rfl hB).kindAt hj).1)
  rcases kind_two (nodeAt σ.nodes j) with ⟨j1, j2⟩ | ⟨j1, j2⟩
  · rw [if_pos j1]
    have HPL : Hid (∀ W, Below w.heap.size w W → ∃ mj, W.cell? ⟨locL Ls j, 5, none⟩ = some (.map (some mj)) ∧ (Builtin.len_ #[59] 3 #[.map (some mj)]).run Tryz.prog W = .ok (.int .i64 (usedN (nodeAt σ.nodes j).slots : Nat)) W) := Hid.mk (fun W hB => by
      obtain ⟨b, m, r, c, l, z, sl, q1, q2, q3, q4, q5⟩ := (hT.below rfl hB).dirAt hj j1
      refine ⟨m, by rw [q4, blk_cell q3.node]; rfl, ?_⟩
      rw [q5]
      exact q3.places.len Tryz.underlying59 3)
    rw [j2] at HK
    by_cases hu : 0 < usedN (nodeAt σ.nodes j).slots
    · rw [if_pos hu]
      have hui : (0 : Int) < (usedN (nodeAt σ.nodes j).slots : Nat) := by omega
      generalize usedN (nodeAt σ.nodes j).slots = un at *
      clear hT hOk hs he hd hdk hlk hp hsv j1 j2 hu
      unfold callV ptrV at *
      go_enter Tryz.func24, Tryz.ntmps24
      go_wp2_with fail
      obtain ⟨X, hX⟩ : ∃ X, X = (w.alloc (.cells #[.int .i64 k, .string s, .string s2, .int .i64 off, .int .i64 m, .slice dp dl dc] 34)).alloc (.cells #[.int .i64 0, .slice none 0 0, .int .i64 0, .int .i64 0, .int .i64 0, .slice none 0 0, .int .i64 0] 31) := ⟨_, rfl⟩
      have hXB : Below w.heap.size w X := by rw [hX]; exact ((Below.refl _ w).alloc (Nat.le_refl _) _).alloc (by simp) _
      have hXs : X.heap.size = w.heap.size + 2 := by rw [hX]; simp
      have hX0 : X.heap[w.heap.size]? = some (.cells #[.int .i64 k, .string s, .string s2, .int .i64 off, .int .i64 m, .slice dp dl dc] 34 (0, 0)) := by rw [hX, Below.heap_alloc _ _ _ (by simp)]; exact blk_new w _
      have hX1 : X.heap[w.heap.size + 1]? = some (.cells #[.int .i64 0, .slice none 0 0, .int .i64 0, .int .i64 0, .int .i64 0, .slice none 0 0, .int .i64 0] 31 (0, 0)) := by
        rw [hX]
        have := blk_new (w.alloc (.cells #[.int .i64 k, .string s, .string s2, .int .i64 off, .int .i64 m, .slice dp dl dc] 34)) (.cells #[.int .i64 0, .slice none 0 0, .int .i64 0, .int .i64 0, .int .i64 0, .slice none 0 0, .int .i64 0] 31)
        rwa [World.size_alloc] at this
      rw [← hX]
      clear hX
      refine (HN.out X hXB).mono ?_
      rintro e' W1 ⟨rfl, hB1⟩
      have hB : Below w.heap.size w W1 := hXB.trans (hB1.mono (by omega))
      have hbx1 := (hB1.block (w.heap.size + 1) (by omega)).trans hX1
      have hB2 : Below w.heap.size w (W1.alloc (.cells #[.pointer (some ⟨locL Ls d, 0, none⟩), .string (mkS p), .pointer (some ⟨locL Ls j, 0, none⟩)] 69)) := hB.alloc hB.size _
      have HB1 : Hid ((W1.alloc (.cells #[.pointer (some ⟨locL Ls d, 0, none⟩), .string (mkS p), .pointer (some ⟨locL Ls j, 0, none⟩)] 69)).heap[w.heap.size + 1]? = some (.cells #[.int .i64 0, .slice none 0 0, .int .i64 0, .int .i64 0, .int .i64 0, .slice none 0 0, .int .i64 0] 31 (0, 0))) := Hid.mk ((Below.heap_alloc _ _ _ (lt_of_block hbx1)).trans hbx1)
      have HBB := Hid.mk hB2
      have HSZ : Hid (w.heap.size + 2 ≤ W1.heap.size) := Hid.mk (by have := hB1.size; omega)
      have kd := HK.out _ hB2
      obtain ⟨mj, p5, plen⟩ := HPL.out _ hB2
      clear hB hB1 hX0 hX1 hXB hXs hbx1 hB2
      go_wp2_with (go_at_call 19; refine (failed_any _ _).mono ?_; rintro e' W3 ⟨rfl, hb3⟩; have hbx := (hb3.block _ (lt_of_block HB1.out)).trans HB1.out; have z0 := blk_cell hbx 0; have y0 := blk_free hbx 0; have z1 := blk_cell hbx 1; have y1 := blk_free hbx 1; have z2 := blk_cell hbx 2; have y2 := blk_free hbx 2; have z3 := blk_cell hbx 3; have y3 := blk_free hbx 3; have z4 := blk_cell hbx 4; have y4 := blk_free hbx 4; have z5 := blk_cell hbx 5; have y5 := blk_free hbx 5; have z6 := blk_cell hbx 6; have y6 := blk_free hbx 6; simp at z0 z1 z2 z3 z4 z5 z6; have BXX := Hid.mk hbx; have HB3 := Hid.mk hb3; unfold errV; clear hbx hb3)
      have hb7 := (box7 BXX.out (.int .i64 14) (.slice none 0 0) (.int .i64 0) (.int .i64 0) (.int .i64 0) (.slice none 0 0) (.int .i64 0)).1
      have ho7 := (box7 BXX.out (.int .i64 14) (.slice none 0 0) (.int .i64 0) (.int .i64 0) (.int .i64 0) (.slice none 0 0) (.int .i64 0)).2
      obtain ⟨Y, hY⟩ : ∃ Y, Y = (((((((W3.setCell ⟨w.heap.size + 1, 0, none⟩ (.int .i64 14)).setCell ⟨w.heap.size + 1, 1, none⟩ (.slice none 0 0)).setCell ⟨w.heap.size + 1, 2, none⟩ (.int .i64 0)).setCell ⟨w.heap.size + 1, 3, none⟩ (.int .i64 0)).setCell ⟨w.heap.size + 1, 4, none⟩ (.int .i64 0)).setCell ⟨w.heap.size + 1, 5, none⟩ (.slice none 0 0)).setCell ⟨w.heap.size + 1, 6, none⟩ (.int .i64 0)) := ⟨_, rfl⟩
      rw [← hY] at hb7 ho7 ⊢
      have k0 := blk_cell hb7 0
      have k1 := blk_cell hb7 1
      have k2 := blk_cell hb7 2
      have k3 := blk_cell hb7 3
      have k4 := blk_cell hb7 4
      have k5 := blk_cell hb7 5
      have k6 := blk_cell hb7 6
      simp at k0 k1 k2 k3 k4 k5 k6
      refine bodyPost_ret (v := errV 14) ?_ rfl ?_
      · simp [results, Tryz.results24, go_sem, errV, k0, k1, k2, k3, k4, k5, k6]
      · exact ⟨rfl, by have h1 := HBB.out.trans (HB3.out.mono HBB.out.size); exact Step.still HT.out (fun k hk => hk) (((Only.of_below (S := fun _ => False) h1 (fun k h1 h2 => by omega)).trans ho7 (fun i hi => .inr (by omega))).below (Nat.le_refl _) (fun _ h => h.elim))⟩
    · rw [if_neg hu]
      have hui : ¬ (0 : Int) < (usedN (nodeAt σ.nodes j).slots : Nat) := by omega
      have HOK := Hid.mk hOk
      generalize usedN (nodeAt σ.nodes j).slots = un at *
      clear hT hOk hs he hsv j2 hu
      unfold callV ptrV at *
      go_enter Tryz.func24, Tryz.ntmps24
      go_wp2_with fail
      obtain ⟨X, hX⟩ : ∃ X, X = (w.alloc (.cells #[.int .i64 k, .string s, .string s2, .int .i64 off, .int .i64 m, .slice dp dl dc] 34)).alloc (.cells #[.int .i64 0, .slice none 0 0, .int .i64 0, .int .i64 0, .int .i64 0, .slice none 0 0, .int .i64 0] 31) := ⟨_, rfl⟩
      have hXB : Below w.heap.size w X := by rw [hX]; exact ((Below.refl _ w).alloc (Nat.le_refl _) _).alloc (by simp) _
      have hXs : X.heap.size = w.heap.size + 2 := by rw [hX]; simp
      have hX0 : X.heap[w.heap.size]? = some (.cells #[.int .i64 k, .string s, .string s2, .int .i64 off, .int .i64 m, .slice dp dl dc] 34 (0, 0)) := by rw [hX, Below.heap_alloc _ _ _ (by simp)]; exact blk_new w _
      have hX1 : X.heap[w.heap.size + 1]? = some (.cells #[.int .i64 0, .slice none 0 0, .int .i64 0, .int .i64 0, .int .i64 0, .slice none 0 0, .int .i64 0] 31 (0, 0)) := by
        rw [hX]
        have := blk_new (w.alloc (.cells #[.int .i64 k, .string s, .string s2, .int .i64 off, .int .i64 m, .slice dp dl dc] 34)) (.cells #[.int .i64 0, .slice none 0 0, .int .i64 0, .int .i64 0, .int .i64 0, .slice none 0 0, .int .i64 0] 31)
        rwa [World.size_alloc] at this
      rw [← hX]
      clear hX
      refine (HN.out X hXB).mono ?_
      rintro e' W1 ⟨rfl, hB1⟩
      have hB : Below w.heap.size w W1 := hXB.trans (hB1.mono (by omega))
      have hbx1 := (hB1.block (w.heap.size + 1) (by omega)).trans hX1
      obtain ⟨X2, hX2⟩ : ∃ X2, X2 = W1.alloc (.cells #[.pointer (some ⟨locL Ls d, 0, none⟩), .string (mkS p), .pointer (some ⟨locL Ls j, 0, none⟩)] 69) := ⟨_, rfl⟩
      have hB2 : Below w.heap.size w X2 := by rw [hX2]; exact hB.alloc hB.size _
      have hbx2 : X2.heap[w.heap.size + 1]? = some (.cells #[.int .i64 0, .slice none 0 0, .int .i64 0, .int .i64 0, .int .i64 0, .slice none 0 0, .int .i64 0] 31 (0, 0)) := by rw [hX2]; exact (Below.heap_alloc _ _ _ (lt_of_block hbx1)).trans hbx1
      have hsp : X2.heap[W1.heap.size]? = some (.cells #[.pointer (some ⟨locL Ls d, 0, none⟩), .string (mkS p), .pointer (some ⟨locL Ls j, 0, none⟩)] 69 (0, 0)) := by rw [hX2]; exact blk_new W1 _
      have HW1 : Hid (w.heap.size + 2 ≤ W1.heap.size) := Hid.mk (by have := hB1.size; omega)
      go_upto_region 4 with fail
      rw [← hX2]
      clear hX2
      generalize W1.heap.size = sb at *
      have kd := HK.out _ hB2
      obtain ⟨mj, p5, plen⟩ := HPL.out _ hB2
      have x0 := blk_cell hsp 0
      have x1 := blk_cell hsp 1
      have x2 := blk_cell hsp 2
      simp at x0 x1 x2
      have HRE := Hid.mk (remove_tree X2 t σ Ls (HT.out.below rfl hB2) d p j hd hdk hlk hp)
      unfold ptrV strV at HRE
      have HBB := Hid.mk hB2
      have HBX := Hid.mk hbx2
      have HSP := Hid.mk hsp
      clear hB hB1 hX0 hX1 hXB hXs hbx1 hB2 hbx2 hsp
      go_upto_region 9 with (go_at_call 42; refine HRE.out.mono ?_; rintro e' W4 ⟨rfl, hT4, ho4⟩; have HT4 := Hid.mk hT4; have HO4 := Hid.mk ho4; clear hT4 ho4)
      have hnf : ∀ q, w.heap.size ≤ q → q ∉ feet t Ls := fun q hq h => by have := HT.out.lt q h; omega
      have hs4 := (HO4.out.block sb (lt_of_block HSP.out) (hnf sb (by have := HW1.out; omega))).trans HSP.out
      have hb4 := (HO4.out.block (w.heap.size + 1) (lt_of_block HBX.out) (hnf _ (by omega))).trans HBX.out
      have u0 := blk_cell hs4 0
      have u1 := blk_cell hs4 1
      have u2 := blk_cell hs4 2
      simp at u0 u1 u2
      have HLO := Hid.mk (lose_dir W4 t { σ with nodes := σ.nodes.modify d (fun x => x.del p) } Ls HT4.out (del_ok HOK.out d p) d j (mkS p) (by simpa using hd) (del_dir d d p hdk) (by simpa using hj) (del_dir j d p j1))
      unfold ptrV at HLO
      have HB4 := Hid.mk hb4
      have HS4 : Hid (w.heap.size + 1 < W4.heap.size) := Hid.mk (lt_of_block hb4)
      clear hs4 hb4 x0 x1 x2 kd p5 plen
      go_wp2_with (go_at_call 43; refine HLO.out.mono ?_; rintro e' W3 ⟨rfl, hst⟩; have hbx := (hst.only.block (w.heap.size + 1) HS4.out (fun h => by have := HT.out.lt _ h; omega)).trans HB4.out; have z0 := blk_cell hbx 0; have y0 := blk_free hbx 0; have z1 := blk_cell hbx 1; have y1 := blk_free hbx 1; have z2 := blk_cell hbx 2; have y2 := blk_free hbx 2; have z3 := blk_cell hbx 3; have y3 := blk_free hbx 3; have z4 := blk_cell hbx 4; have y4 := blk_free hbx 4; have z5 := blk_cell hbx 5; have y5 := blk_free hbx 5; have z6 := blk_cell hbx 6; have y6 := blk_free hbx 6; simp at z0 z1 z2 z3 z4 z5 z6; have BXX := Hid.mk hbx; have ST := Hid.mk hst; clear hbx hst)
      have hb7 := (box7 BXX.out (.int .i64 0) (.slice none 0 0) (.int .i64 0) (.int .i64 0) (.int .i64 0) (.slice none 0 0) (.int .i64 0)).1
      have ho7 := (box7 BXX.out (.int .i64 0) (.slice none 0 0) (.int .i64 0) (.int .i64 0) (.int .i64 0) (.slice none 0 0) (.int .i64 0)).2
      obtain ⟨Y, hY⟩ : ∃ Y, Y = (((((((W3.setCell ⟨w.heap.size + 1, 0, none⟩ (.int .i64 0)).setCell ⟨w.heap.size + 1, 1, none⟩ (.slice none 0 0)).setCell ⟨w.heap.size + 1, 2, none⟩ (.int .i64 0)).setCell ⟨w.heap.size + 1, 3, none⟩ (.int .i64 0)).setCell ⟨w.heap.size + 1, 4, none⟩ (.int .i64 0)).setCell ⟨w.heap.size + 1, 5, none⟩ (.slice none 0 0)).setCell ⟨w.heap.size + 1, 6, none⟩ (.int .i64 0)) := ⟨_, rfl⟩
      rw [← hY] at hb7 ho7 ⊢
      have k0 := blk_cell hb7 0
      have k1 := blk_cell hb7 1
      have k2 := blk_cell hb7 2
      have k3 := blk_cell hb7 3
      have k4 := blk_cell hb7 4
      have k5 := blk_cell hb7 5
      have k6 := blk_cell hb7 6
      simp at k0 k1 k2 k3 k4 k5 k6
      refine bodyPost_ret (v := errV 0) ?_ rfl ?_
      · simp [results, Tryz.results24, go_sem, errV, k0, k1, k2, k3, k4, k5, k6]
      · refine ⟨rfl, ?_⟩
        have hw4 : Only (fun k => k ∈ feet t Ls) w W4 := (Only.of_new (fun k => k ∈ feet t Ls) HBB.out).trans HO4.out (fun i hi => .inl hi)
        obtain ⟨⟨Ls', h1, h2⟩, h3⟩ := ST.out
        refine ⟨⟨Ls', h1.kept (fun k hk => ho7.block k (h1.lt k hk) (fun e => ?_)), fun k hk => ?_⟩, (hw4.trans h3 (fun i hi => .inl hi)).trans ho7 (fun i hi => .inr (by omega))⟩
        · subst e
          rcases h2 _ hk with h | h
          · have := HT.out.lt _ h; omega
          · have := HS4.out; omega
        · rcases h2 k hk with h | h
          · exact .inl h
          · exact .inr (Nat.le_trans hw4.size h)
  · rw [if_neg (by rw [j1]; decide)]
    rw [j2] at HK
    clear hT hOk hs he hd hdk hlk hp hsv j1 j2
    unfold callV ptrV at *
    go_enter Tryz.func24, Tryz.ntmps24
    go_wp2_with fail
    obtain ⟨X, hX⟩ : ∃ X, X = (w.alloc (.cells #[.int .i64 k, .string s, .string s2, .int .i64 off, .int .i64 m, .slice dp dl dc] 34)).alloc (.cells #[.int .i64 0, .slice none 0 0, .int .i64 0, .int .i64 0, .int .i64 0, .slice none 0 0, .int .i64 0] 31) := ⟨_, rfl⟩
    have hXB : Below w.heap.size w X := by rw [hX]; exact ((Below.refl _ w).alloc (Nat.le_refl _) _).alloc (by simp) _
    have hXs : X.heap.size = w.heap.size + 2 := by rw [hX]; simp
    have hX0 : X.heap[w.heap.size]? = some (.cells #[.int .i64 k, .string s, .string s2, .int .i64 off, .int .i64 m, .slice dp dl dc] 34 (0, 0)) := by rw [hX, Below.heap_alloc _ _ _ (by simp)]; exact blk_new w _
    have hX1 : X.heap[w.heap.size + 1]? = some (.cells #[.int .i64 0, .slice none 0 0, .int .i64 0, .int .i64 0, .int .i64 0, .slice none 0 0, .int .i64 0] 31 (0, 0)) := by
      rw [hX]
      have := blk_new (w.alloc (.cells #[.int .i64 k, .string s, .string s2, .int .i64 off, .int .i64 m, .slice dp dl dc] 34)) (.cells #[.int .i64 0, .slice none 0 0, .int .i64 0, .int .i64 0, .int .i64 0, .slice none 0 0, .int .i64 0] 31)
      rwa [World.size_alloc] at this
    rw [← hX]
    clear hX
    refine (HN.out X hXB).mono ?_
    rintro e' W1 ⟨rfl, hB1⟩
    have hB : Below w.heap.size w W1 := hXB.trans (hB1.mono (by omega))
    have hbx1 := (hB1.block (w.heap.size + 1) (by omega)).trans hX1
    have hB2 : Below w.heap.size w (W1.alloc (.cells #[.pointer (some ⟨locL Ls d, 0, none⟩), .string (mkS p), .pointer (some ⟨locL Ls j, 0, none⟩)] 69)) := hB.alloc hB.size _
    have HB1 : Hid ((W1.alloc (.cells #[.pointer (some ⟨locL Ls d, 0, none⟩), .string (mkS p), .pointer (some ⟨locL Ls j, 0, none⟩)] 69)).heap[w.heap.size + 1]? = some (.cells #[.int .i64 0, .slice none 0 0, .int .i64 0, .int .i64 0, .int .i64 0, .slice none 0 0, .int .i64 0] 31 (0, 0))) := Hid.mk ((Below.heap_alloc _ _ _ (lt_of_block hbx1)).trans hbx1)
    have HBB := Hid.mk hB2
    have HSZ : Hid (w.heap.size + 2 ≤ W1.heap.size) := Hid.mk (by have := hB1.size; omega)
    have kd := HK.out _ hB2
    clear hB hB1 hX0 hX1 hXB hXs hbx1 hB2
    go_wp2_with (go_at_call 19; refine (failed_any _ _).mono ?_; rintro e' W3 ⟨rfl, hb3⟩; have hbx := (hb3.block _ (lt_of_block HB1.out)).trans HB1.out; have z0 := blk_cell hbx 0; have y0 := blk_free hbx 0; have z1 := blk_cell hbx 1; have y1 := blk_free hbx 1; have z2 := blk_cell hbx 2; have y2 := blk_free hbx 2; have z3 := blk_cell hbx 3; have y3 := blk_free hbx 3; have z4 := blk_cell hbx 4; have y4 := blk_free hbx 4; have z5 := blk_cell hbx 5; have y5 := blk_free hbx 5; have z6 := blk_cell hbx 6; have y6 := blk_free hbx 6; simp at z0 z1 z2 z3 z4 z5 z6; have BXX := Hid.mk hbx; have HB3 := Hid.mk hb3; unfold errV; clear hbx hb3)
    have hb7 := (box7 BXX.out (.int .i64 12) (.slice none 0 0) (.int .i64 0) (.int .i64 0) (.int .i64 0) (.slice none 0 0) (.int .i64 0)).1
    have ho7 := (box7 BXX.out (.int .i64 12) (.slice none 0 0) (.int .i64 0) (.int .i64 0) (.int .i64 0) (.slice none 0 0) (.int .i64 0)).2
    obtain ⟨Y, hY⟩ : ∃ Y, Y = (((((((W3.setCell ⟨w.heap.size + 1, 0, none⟩ (.int .i64 12)).setCell ⟨w.heap.size + 1, 1, none⟩ (.slice none 0 0)).setCell ⟨w.heap.size + 1, 2, none⟩ (.int .i64 0)).setCell ⟨w.heap.size + 1, 3, none⟩ (.int .i64 0)).setCell ⟨w.heap.size + 1, 4, none⟩ (.int .i64 0)).setCell ⟨w.heap.size + 1, 5, none⟩ (.slice none 0 0)).setCell ⟨w.heap.size + 1, 6, none⟩ (.int .i64 0)) := ⟨_, rfl⟩
    rw [← hY] at hb7 ho7 ⊢
    have k0 := blk_cell hb7 0
    have k1 := blk_cell hb7 1
    have k2 := blk_cell hb7 2
    have k3 := blk_cell hb7 3
    have k4 := blk_cell hb7 4
    have k5 := blk_cell hb7 5
    have k6 := blk_cell hb7 6
    simp at k0 k1 k2 k3 k4 k5 k6
    refine bodyPost_ret (v := errV 12) ?_ rfl ?_
    · simp [results, Tryz.results24, go_sem, errV, k0, k1, k2, k3, k4, k5, k6]
    · exact ⟨rfl, by have h1 := HBB.out.trans (HB3.out.mono HBB.out.size); exact Step.still HT.out (fun k hk => hk) (((Only.of_below (S := fun _ => False) h1 (fun k h1 h2 => by omega)).trans ho7 (fun i hi => .inr (by omega))).below (Nat.le_refl _) (fun _ h => h.elim))⟩
end Go.Proofs.YtehaoeclnmelhacGreat
namespace Go.Proofs.YtehaoeclnmelhacGreat
open Go Go.Proofs Go.RowKit Go.Shelf Go.Sort

theorem SAt.front2 {W : World} {ao : Option Addr} {n : Nat} {L : List (List UInt8)} {p : List UInt8} (h : SAt W ao (n + 1) (L ++ [p])) : SAt W ao n L := by
  have hn : L.length = n := by have := h.1; simp at this; exact this
  subst hn
  exact h.front
set_option maxRecDepth 100000 in
set_option maxHeartbeats 4000000 in
theorem rename_loop (w : World) (t : Nat) (σ : Tr) (Ls : List Lay) (hT : TrAt w t σ Ls) (k : Int) (s s2 : ByteArray) (off m : Int) (dp : Option Addr) (dl dc : Nat) (hs : s.size ≤ 16777216) (hs2 : s2.size ≤ 16777216) (L M : List (List UInt8)) (p q : List UInt8) (h1 : splitL (ofS s) = some (L ++ [p])) (h2 : splitL (ofS s2) = some (M ++ [q])) (d j d2 : Nat) (o : Option Nat) (he : spotE σ.nodes L p = (0, some ⟨d, p, some j⟩)) (he2 : spotE σ.nodes M q = (0, some ⟨d2, q, o⟩)) (hj : j < σ.nodes.length) (hw : onWay σ.nodes M j = true) :
    Calls Tryz.prog 25 #[ptrV t, callV k s s2 off m (.slice dp dl dc)] w fun e w' => e = .returned (errV 19) ∧ Below w.heap.size w w' := by
  have mixed : Tryz.prog.follows Departure.mixedOrders = true := by kernel_rfl
  have HBO : Hid (∀ W, _) := Hid.mk (fun W => both_yes W k s s2 off m dp dl dc hs hs2 h1 h2)
  obtain ⟨b1, b2⟩ := split_bounds h1
  obtain ⟨b3, b4⟩ := split_bounds h2
  have hln : (L ++ [p]).length = L.length + 1 := by simp
  have hln2 : (M ++ [q]).length = M.length + 1 := by simp
  rw [hln, hln2] at HBO
  have HS1 : Hid (∀ W ao c, Below w.heap.size w W → SAt W ao (L.length + 1) (L ++ [p]) → L.length + 1 ≤ c → c ≤ 9223372036854775807 → _) := Hid.mk (fun W ao c (hB : Below w.heap.size w W) hS hc1 hc2 => spot_any W t σ Ls (hT.below rfl hB) ao c L p hS b1 (by omega) hc1 hc2)
  have HS2 : Hid (∀ W ao c, Below w.heap.size w W → SAt W ao (M.length + 1) (M ++ [q]) → M.length + 1 ≤ c → c ≤ 9223372036854775807 → _) := Hid.mk (fun W ao c (hB : Below w.heap.size w W) hS hc1 hc2 => spot_any W t σ Ls (hT.below rfl hB) ao c M q hS b3 (by omega) hc1 hc2)
  have HWI : Hid (∀ W ao c, Below w.heap.size w W → SAt W ao M.length M → _) := Hid.mk (fun W ao c (hB : Below w.heap.size w W) hS => within_any2 W t σ Ls (hT.below rfl hB) ao c M hS (fun x hx => b3 x (by simp [hx])) (by omega) j hj)
  obtain ⟨x2, hx2, _⟩ := opt_ptr (locL Ls) o
  rw [he] at HS1
  rw [he2] at HS2
  rw [hw] at HWI
  simp only [spotV, optV, ptrV, strV] at HS1
  simp only [spotV, hx2, ptrV, strV] at HS2
  have hw2 : wrap64 (M.length : Int) = (M.length : Int) := by unfold wrap64; omega
  have hne1 : ¬ ((L.length : Int) + 1 = 0) := by omega
  have hne2 : ¬ ((M.length : Int) + 1 = 0) := by omega
  have hbe1 : (((L.length : Int) + 1) == 0) = false := by simp; omega
  have hbe2 : (((M.length : Int) + 1) == 0) = false := by simp; omega
  generalize L.length = nl at *
  generalize M.length = nm at *
  clear hT hs hs2 h1 h2 he he2 hj hw b1 b2 b3 b4 hln hln2 hx2
  unfold callV at HBO
  unfold callV ptrV at *
  go_enter Tryz.func25, Tryz.ntmps25
  go_wp2_with fail
  obtain ⟨X, hX⟩ : ∃ X, X = (w.alloc (.cells #[.int .i64 k, .string s, .string s2, .int .i64 off, .int .i64 m, .slice dp dl dc] 34)).alloc (.cells #[.int .i64 0, .slice none 0 0, .int .i64 0, .int .i64 0, .int .i64 0, .slice none 0 0, .int .i64 0] 31) := ⟨_, rfl⟩
  have hXB : Below w.heap.size w X := by rw [hX]; exact ((Below.refl _ w).alloc (Nat.le_refl _) _).alloc (by simp) _
  have hXs : X.heap.size = w.heap.size + 2 := by rw [hX]; simp
  have hX0 : X.heap[w.heap.size]? = some (.cells #[.int .i64 k, .string s, .string s2, .int .i64 off, .int .i64 m, .slice dp dl dc] 34 (0, 0)) := by rw [hX, Below.heap_alloc _ _ _ (by simp)]; exact blk_new w _
  have hX1 : X.heap[w.heap.size + 1]? = some (.cells #[.int .i64 0, .slice none 0 0, .int .i64 0, .int .i64 0, .int .i64 0, .slice none 0 0, .int .i64 0] 31 (0, 0)) := by
    rw [hX]
    have := blk_new (w.alloc (.cells #[.int .i64 k, .string s, .string s2, .int .i64 off, .int .i64 m, .slice dp dl dc] 34)) (.cells #[.int .i64 0, .slice none 0 0, .int .i64 0, .int .i64 0, .int .i64 0, .slice none 0 0, .int .i64 0] 31)
    rwa [World.size_alloc] at this
  rw [← hX]
  clear hX
  have f0 := blk_cell hX0 0
  have f1 := blk_cell hX0 1
  have f2 := blk_cell hX0 2
  have f3 := blk_cell hX0 3
  have f4 := blk_cell hX0 4
  have f5 := blk_cell hX0 5
  simp at f0 f1 f2 f3 f4 f5
  have HXB := Hid.mk hXB
  have HXS := Hid.mk hXs
  have HX1 := Hid.mk hX1
  clear hXB hXs hX0 hX1
  try go_wp2_with fail
  refine (HBO.out X).mono ?_
  rintro e' W1 ⟨ao, c, bo, dd, rfl, hSA, hSB, hc1, hc2, hd1, hd2, hB1⟩
  have hBw : Below w.heap.size w W1 := HXB.out.trans (hB1.mono (by have := HXS.out; omega))
  have HP1 := Hid.mk (HS1.out W1 ao c hBw hSA hc1 hc2)
  have HR1 : Hid (W1.heap[w.heap.size + 1]? = some (.cells #[.int .i64 0, .slice none 0 0, .int .i64 0, .int .i64 0, .int .i64 0, .slice none 0 0, .int .i64 0] 31 (0, 0))) := Hid.mk ((hB1.block _ (by have := HXS.out; omega)).trans HX1.out)
  have HSB := Hid.mk hSB
  have HBW := Hid.mk hBw
  have HD1 := Hid.mk hd1
  have HD2 := Hid.mk hd2
  have hdc : (nm : Int) ≤ (dd : Int) := by omega
  clear hSA hSB hc1 hc2 hd1 hd2 hB1 hBw HXB HXS HX1 HBO HS1 f0 f1 f2 f3 f4 f5
  go_wp2_with fail
  refine HP1.out.mono ?_
  rintro e' W2 ⟨rfl, hB2⟩
  obtain ⟨Y2, hY2⟩ : ∃ Y2, Y2 = W2.alloc (.cells #[.pointer (some ⟨locL Ls d, 0, none⟩), .string (mkS p), .pointer (some ⟨locL Ls j, 0, none⟩)] 69) := ⟨_, rfl⟩
  have hBw2 : Below W1.heap.size W1 Y2 := by rw [hY2]; exact hB2.alloc hB2.size _
  have hsp : Y2.heap[W2.heap.size]? = some (.cells #[.pointer (some ⟨locL Ls d, 0, none⟩), .string (mkS p), .pointer (some ⟨locL Ls j, 0, none⟩)] 69 (0, 0)) := by rw [hY2]; exact blk_new W2 _
  have hw2Y : Below w.heap.size w Y2 := HBW.out.trans (hBw2.mono HBW.out.size)
  have HP2 := Hid.mk (HS2.out Y2 bo dd hw2Y (HSB.out.below hBw2) HD1.out HD2.out)
  go_upto_region 9 with fail
  rw [← hY2]
  clear hY2
  generalize W2.heap.size = sb at *
  have x0 := blk_cell hsp 2
  simp at x0
  have HSP := Hid.mk hsp
  have HY := Hid.mk hBw2
  have HWY := Hid.mk hw2Y
  clear hsp hBw2 hw2Y hB2 HP1
  go_upto_region 12 with (go_at_call 44; refine HP2.out.mono ?_; rintro e' W4 ⟨rfl, hB4⟩; have HB4 := Hid.mk hB4; clear hB4)
  obtain ⟨Y4, hY4⟩ : ∃ Y4, Y4 = W4.alloc (.cells #[.pointer (some ⟨locL Ls d2, 0, none⟩), .string (mkS q), .pointer x2] 69) := ⟨_, rfl⟩
  have hB4Y : Below Y2.heap.size Y2 Y4 := by rw [hY4]; exact HB4.out.alloc HB4.out.size _
  rw [← hY4]
  clear hY4
  have hsp4 := (hB4Y.block sb (lt_of_block HSP.out)).trans HSP.out
  have x4 := blk_cell hsp4 2
  simp at x4
  have hwY4 : Below w.heap.size w Y4 := HWY.out.trans (hB4Y.mono HWY.out.size)
  have HWW : Hid (∀ W, Below Y4.heap.size Y4 W → _) := Hid.mk (fun W (hB : Below Y4.heap.size Y4 W) => HWI.out W bo dd (hwY4.trans (hB.mono hwY4.size)) (((HSB.out.below HY.out).below hB4Y).below hB).front2)
  have HR4 : Hid (Y4.heap[w.heap.size + 1]? = some (.cells #[.int .i64 0, .slice none 0 0, .int .i64 0, .int .i64 0, .int .i64 0, .slice none 0 0, .int .i64 0] 31 (0, 0))) := Hid.mk ((hB4Y.block _ (Nat.lt_of_lt_of_le (lt_of_block HR1.out) HY.out.size)).trans ((HY.out.block _ (lt_of_block HR1.out)).trans HR1.out))
  have HW4 := Hid.mk hwY4
  unfold ptrV at HWW
  generalize hW4s : W4.heap.size = sb4 at *
  clear hB4Y hsp4 hwY4 HWI HSB HY HP2 HS2 hW4s
  go_upto_region 14 with fail
  have k4 := cell_regrown x4
  have cW : ∀ dd' os, Calls Tryz.prog 45 #[.pointer (some ⟨t, 0, none⟩), .slice bo nm dd, .pointer (some ⟨locL Ls j, 0, none⟩)] (grow (redrawn Y4 dd') os) fun e w'' => e = .returned (.bool true) ∧ ∃ p : Regrown, w'' = grow (redrawn Y4 p.d) p.os := fun dd' os => Calls.regrown_of (HWW.out _ (below_regrown _ _ _))
  refine wp_region_quiet_below mixed (by kernel_rfl) ?_
  repeat (go_big_quiet_step (first | (go_at_call 45; exact cW _ _)))
  refine wpQuiet_nil ?_
  intro W5 hw'
  obtain ⟨⟨dq, osq⟩, hw''⟩ := hw'
  have hB5 := below_regrown Y4 dq osq
  rw [← hw''] at hB5
  have HB1 : Hid (W5.heap[w.heap.size + 1]? = some (.cells #[.int .i64 0, .slice none 0 0, .int .i64 0, .int .i64 0, .int .i64 0, .slice none 0 0, .int .i64 0] 31 (0, 0))) := Hid.mk ((hB5.block _ (lt_of_block HR4.out)).trans HR4.out)
  have HBB : Hid (Below w.heap.size w W5) := Hid.mk (HW4.out.trans (hB5.mono HW4.out.size))
  clear hw'' hB5 cW k4 x4 HWW HR4 HW4
  go_wp2_with (go_at_call 19; refine (failed_any _ _).mono ?_; rintro e' W3 ⟨rfl, hb3⟩; have hbx := (hb3.block _ (lt_of_block HB1.out)).trans HB1.out; have z0 := blk_cell hbx 0; have y0 := blk_free hbx 0; have z1 := blk_cell hbx 1; have y1 := blk_free hbx 1; have z2 := blk_cell hbx 2; have y2 := blk_free hbx 2; have z3 := blk_cell hbx 3; have y3 := blk_free hbx 3; have z4 := blk_cell hbx 4; have y4 := blk_free hbx 4; have z5 := blk_cell hbx 5; have y5 := blk_free hbx 5; have z6 := blk_cell hbx 6; have y6 := blk_free hbx 6; simp at z0 z1 z2 z3 z4 z5 z6;  have BXX := Hid.mk hbx; have HB3 := Hid.mk hb3; unfold errV; clear hbx hb3)
  have hb7 := (box7 BXX.out (.int .i64 19) (.slice none 0 0) (.int .i64 0) (.int .i64 0) (.int .i64 0) (.slice none 0 0) (.int .i64 0)).1
  have ho7 := (box7 BXX.out (.int .i64 19) (.slice none 0 0) (.int .i64 0) (.int .i64 0) (.int .i64 0) (.slice none 0 0) (.int .i64 0)).2
  obtain ⟨Y, hY⟩ : ∃ Y, Y = (((((((W3.setCell ⟨w.heap.size + 1, 0, none⟩ (.int .i64 19)).setCell ⟨w.heap.size + 1, 1, none⟩ (.slice none 0 0)).setCell ⟨w.heap.size + 1, 2, none⟩ (.int .i64 0)).setCell ⟨w.heap.size + 1, 3, none⟩ (.int .i64 0)).setCell ⟨w.heap.size + 1, 4, none⟩ (.int .i64 0)).setCell ⟨w.heap.size + 1, 5, none⟩ (.slice none 0 0)).setCell ⟨w.heap.size + 1, 6, none⟩ (.int .i64 0)) := ⟨_, rfl⟩
  rw [← hY] at hb7 ho7 ⊢
  have k0 := blk_cell hb7 0
  have k1 := blk_cell hb7 1
  have k2 := blk_cell hb7 2
  have k3 := blk_cell hb7 3
  have k4 := blk_cell hb7 4
  have k5 := blk_cell hb7 5
  have k6 := blk_cell hb7 6
  simp at k0 k1 k2 k3 k4 k5 k6
  refine bodyPost_ret (v := errV 19) ?_ rfl ?_
  · simp [results, Tryz.results25, go_sem, errV, k0, k1, k2, k3, k4, k5, k6]
  · exact ⟨rfl, by have h1 := HBB.out.trans (HB3.out.mono HBB.out.size); exact ((Only.of_below (S := fun _ => False) h1 (fun k h1 h2 => by omega)).trans ho7 (fun i hi => .inr (by omega))).below (Nat.le_refl _) (fun _ h => h.elim)⟩
end Go.Proofs.YtehaoeclnmelhacGreat
