/-
  The reference's At and Find.
-/
import Derived.Test.YtbahbhaoimabdaaWkFind
import Derived.Test.YtbahbhaoimabdaaPtRef2
namespace Go.Proofs.Ytbahbhaoimabdaa
open Go Go.Proofs Go.RowKit Go.Shelf

def atS (m : Nat) (Nd : Nat → NoV) (ino : Int) : Int := match firstN m Nd ino with | some j => (j : Int) | none => -1
set_option maxRecDepth 100000 in
set_option maxHeartbeats 4000000 in
theorem at_any (w : World) (ao : Option Addr) (m cc : Nat) (Nd : Nat → NoV) (ino : Int) (hN : NoAt w ao m Nd) (hm : m ≤ 16777216) : Calls Try.prog 20 #[.slice ao m cc, .int .i64 ino] w fun e w' => e = .returned (.int .i64 (atS m Nd ino)) ∧ w' = w := by
  have HN := Hid.mk hN
  have HM := Hid.mk hm
  clear hN hm
  go_enter Try.func20, Try.ntmps20
  go_wp2
  go_loopw [5] (fun iv wr => ∃ j : Nat, j ≤ m ∧ iv = .int .i64 (j : Int) ∧ Hid (wr = w ∧ ∀ i, i < j → (decide ((Nd i).ino = ino)) = false)) (fun iv _ => ((m : Int) - Go.RowKit.intOf iv).toNat)
  case atStart => exact ⟨0, by omega, rfl, Hid.mk ⟨rfl, fun i hi => absurd hi (Nat.not_lt_zero i)⟩⟩
  case round =>
    obtain ⟨j, hj, rfl, HK⟩ := hrel
    have hwr := HK.out.1
    by_cases hlt : j < m
    · obtain ⟨f1, o1, rfl, -, ⟨z0, z1, z2, z3, z4, z5⟩, -, -, -⟩ := no_at HN.out hlt
      rw [← hwr] at z0
      have hj0 : (0 : Int) ≤ (j : Int) := by omega
      have hjs : (j : Int) < (m : Int) := by omega
      have hjj : IntKind.i64.wrap ((j : Int) + 1) = (j : Int) + 1 := by have := HM.out; rw [IntKind.wrap_i64]; omega
      have HW := Hid.mk hwr
      clear z1 z2 z3 z4 z5 hwr
      by_cases he : (Nd j).ino = ino
      · have heb : ((Nd j).ino == ino) = true := by simpa using he
        have hfin : atS m Nd ino = (j : Int) := by
          unfold atS firstN
          rw [range_hit hlt (by simpa using he) HK.out.2]
        have HFI := Hid.mk hfin
        clear hfin
        go_wp2
        refine bodyPost_ret (results_tmp rfl _ _ _) rfl ?_
        exact ⟨by rw [HFI.out]; rfl, HW.out⟩
      · have heb : ((Nd j).ino == ino) = false := by simpa using he
        go_wp2
        go_roundw
        case rel => exact ⟨j + 1, hlt, by push_cast; rfl, Hid.mk ⟨HW.out, fun i hi => (Nat.lt_succ_iff_lt_or_eq.1 hi).elim (HK.out.2 i) (fun q => by rw [q]; exact decide_eq_false he)⟩⟩
        case measure => simp [Go.RowKit.intOf]; omega
    · obtain rfl : j = m := by omega
      have hfin : atS j Nd ino = -1 := by
        unfold atS firstN
        rw [range_none HK.out.2]
      have HFI := Hid.mk hfin
      have HW := Hid.mk hwr
      clear hfin hwr
      go_wp2
      refine bodyPost_ret (results_tmp rfl _ _ _) rfl ?_
      exact ⟨by rw [HFI.out]; rfl, HW.out⟩
/-- Where the parts lead from a node on. -/
def refF (m : Nat) (Nd : Nat → NoV) : Nat → List ByteArray → Nat × Nat
  | a, [] => (a, 0)
  | a, p :: r => if (Nd a).kind ≠ 2 then (0, 12) else match slotN (Nd a) p with
    | none => (0, 10)
    | some k => match firstN m Nd ((Nd a).E k).ino with
      | none => (0, 10)
      | some t => refF m Nd t r
theorem lastP_cons (x : Nat × Nat) {L : List (Nat × Nat)} (h : L ≠ []) : lastP (x :: L) = lastP L := by
  unfold lastP
  cases L with
  | nil => exact absurd rfl h
  | cons a L => rw [List.getLast?_cons_cons]
theorem lastP_err (m : Nat) (Nd : Nat → NoV) (st : Nat × Nat) (h : st.2 ≠ 0) (P : List ByteArray) : lastP (wayW m Nd st P) = st := by
  cases P with
  | nil => rfl
  | cons p r => rw [wayW_err p r h]; rfl
theorem last_way (m : Nat) (Nd : Nat → NoV) (P : List ByteArray) : ∀ a, lastP (wayW m Nd (a, 0) P) = refF m Nd a P := by
  induction P with
  | nil => intro a; rfl
  | cons p r ih =>
    intro a
    by_cases hk : (Nd a).kind = 2
    · rw [wayW_dir (st := (a, 0)) p r rfl hk, lastP_cons _ (wayW_ne _ _ _ _), refF, if_neg (fun x => x hk)]
      dsimp only
      cases hq : slotN (Nd a) p with
      | none =>
        have e : placeS m Nd (namedS (Nd a) p) = (0, 10) := by unfold namedS; rw [hq]; rfl
        rw [e, lastP_err _ _ _ (by decide)]
      | some k =>
        have hB := List.find?_some hq
        have hne : ((Nd a).E k).ino ≠ 0 := by
          simp [slotB] at hB
          exact hB.1
        have e : namedS (Nd a) p = ((Nd a).E k).ino := by unfold namedS; rw [hq]
        rw [e]
        unfold placeS
        rw [if_neg hne]
        dsimp only
        cases hf : firstN m Nd ((Nd a).E k).ino with
        | none => exact lastP_err _ _ _ (by decide) _
        | some t => exact ih t
    · rw [wayW_file (st := (a, 0)) p r rfl hk, lastP_cons _ (by simp), refF, if_pos hk]
      rfl
theorem findS_ref (m : Nat) (Nd : Nat → NoV) (s : ByteArray) : findS m Nd s = match splitL (ofS s) with | none => (0, 15) | some P => match firstN m Nd 1 with | none => (0, 10) | some t => refF m Nd t (P.map mkS) := by
  unfold findS
  cases splitL (ofS s) with
  | none => rfl
  | some P =>
    dsimp only
    unfold findP placeS
    rw [if_neg (by decide)]
    cases firstN m Nd 1 with
    | none => exact lastP_err _ _ _ (by decide) _
    | some t => exact last_way _ _ _ _
set_option maxRecDepth 100000 in
set_option maxHeartbeats 4000000 in
theorem rfind_any (w : World) (ao : Option Addr) (m cc : Nat) (Nd : Nat → NoV) (s : ByteArray) (hN : NoAt w ao m Nd) (hm : m ≤ 16777216) (hs : s.size ≤ 16777216) : Calls Try.prog 12 #[.slice ao m cc, .string s] w fun e w' => e = .returned (.tuple #[.int .i64 ((findS m Nd s).1 : Nat), .int .i64 ((findS m Nd s).2 : Nat)]) ∧ Below w.heap.size w w' := by
  have HN := Hid.mk hN
  have HM := Hid.mk hm
  have HAT : Hid (∀ (W : World) (ino : Int), Below w.heap.size w W → Calls Try.prog 20 #[.slice ao m cc, .int .i64 ino] W fun e w' => e = .returned (.int .i64 (atS m Nd ino)) ∧ w' = W) := Hid.mk (fun W ino hB => at_any W ao m cc Nd ino (hN.blw hB) hm)
  have hsp := rsplit_any w s hs
  have hrf := findS_ref m Nd s
  cases hq : splitL (ofS s) with
  | none =>
    rw [hq] at hsp hrf
    dsimp only at hrf
    rw [hrf]
    have HSP := Hid.mk hsp
    clear hN hm hs hsp hq hrf
    go_enter Try.func12, Try.ntmps12
    go_wp2_with (go_at_call 24; refine HSP.out.mono ?_; rintro e w1 ⟨v, rfl, -, hB1⟩; simp only [Option.isSome])
    refine bodyPost_ret (results_tmp2 rfl _ _ _) rfl ?_
    exact ⟨rfl, hB1⟩
  | some P =>
    have hlen : P.length ≤ 16777216 := by
      have h1 := splitL_len hq
      rw [ofS_length] at h1
      omega
    rw [hq] at hsp hrf
    dsimp only at hrf
    have HSP := Hid.mk hsp
    clear hN hm hs hsp hq
    cases hf : firstN m Nd 1 with
    | none =>
      rw [hf] at hrf
      dsimp only at hrf
      rw [hrf]
      have hat : atS m Nd 1 = -1 := by unfold atS; rw [hf]
      have HAT1 := Hid.mk (fun (W : World) (hB : Below w.heap.size w W) => HAT.out W 1 hB)
      rw [hat] at HAT1
      clear hrf hf hat
      go_enter Try.func12, Try.ntmps12
      go_wp2_with (first
        | (go_at_call 24; refine HSP.out.mono ?_; rintro e w1 ⟨v, rfl, -, hB1⟩; simp only [Option.isSome])
        | (go_at_call 20; refine (HAT1.out _ hB1).mono ?_; rintro e w2 ⟨rfl, hw2⟩; subst hw2))
      refine bodyPost_ret (results_tmp2 rfl _ _ _) rfl ?_
      exact ⟨rfl, hB1⟩
    | some t =>
      rw [hf] at hrf
      dsimp only at hrf
      have hat : atS m Nd 1 = (t : Int) := by unfold atS; rw [hf]
      have htm := (firstN_some hf).1
      have HAT1 := Hid.mk (fun (W : World) (hB : Below w.heap.size w W) => HAT.out W 1 hB)
      rw [hat] at HAT1
      have HRF := Hid.mk hrf
      have HTM := Hid.mk htm
      have HLE := Hid.mk hlen
      clear hf hat hrf htm hlen
      go_enter Try.func12, Try.ntmps12
      go_upto_region 7 with (first
        | (go_at_call 24; refine HSP.out.mono ?_; rintro e w1 ⟨v, rfl, h1, hB1⟩; simp only [Option.isSome, splL, Option.getD] at h1 ⊢; obtain ⟨po, pc, rfl, hP⟩ := strAt_of h1; clear h1)
        | (go_at_call 20; refine (HAT1.out _ hB1).mono ?_; rintro e w2 ⟨rfl, hw2⟩; subst hw2))
      have HB1 := Hid.mk hB1
      have HP := Hid.mk hP
      generalize hPB : P.map mkS = PB at *
      generalize hnn : P.length = n at *
      clear hB1 hP HSP HAT1 hPB hnn
      go_wp2
      go_loopw [8, 9] (fun av iv wr => ∃ i a : Nat, i ≤ n ∧ a < m ∧ av = .int .i64 (a : Int) ∧ iv = .int .i64 (i : Int) ∧ Hid (Below w2.heap.size w2 wr ∧ refF m Nd a (PB.drop i) = refF m Nd t PB)) (fun _ iv _ => ((n : Int) - Go.RowKit.intOf iv).toNat)
      case atStart => exact ⟨0, t, by omega, HTM.out, rfl, rfl, Hid.mk ⟨Below.refl _ _, rfl⟩⟩
      case round =>
        obtain ⟨i, a, hi, ham, rfl, rfl, HK⟩ := hrel
        by_cases hlt : i < n
        · have hd0 : PB.drop i = PB.getD i ⟨#[]⟩ :: PB.drop (i + 1) := by
            rw [List.drop_eq_getElem_cons (by rw [HP.out.1]; exact hlt)]
            simp [List.getD, List.getElem?_eq_getElem (show i < PB.length by rw [HP.out.1]; exact hlt)]
          have hr1 := HK.out.2
          rw [hd0] at hr1
          generalize hpp : PB.getD i ⟨#[]⟩ = pp at *
          have hBw : Below w.heap.size w wr := HB1.out.trans (HK.out.1.mono HB1.out.size)
          obtain ⟨f1, o1, rfl, -, ⟨z0, z1, z2, z3, z4, z5⟩, -, hE, hwf⟩ := no_at (HN.out.blw hBw) ham
          have HE := Hid.mk hE
          have HWF := Hid.mk hwf
          have ha0 : (0 : Int) ≤ (a : Int) := by omega
          have ham2 : (a : Int) < (m : Int) := by omega
          have hi0 : (0 : Int) ≤ (i : Int) := by omega
          have hin : (i : Int) < (n : Int) := by omega
          have hii : IntKind.i64.wrap ((i : Int) + 1) = (i : Int) + 1 := by have := HLE.out; rw [IntKind.wrap_i64]; omega
          have HR1 := Hid.mk hr1
          have HBW := Hid.mk hBw
          clear hE hwf hd0 hr1 hBw
          by_cases hk : (Nd a).kind = 2
          · have hkb : ((Nd a).kind == 2) = true := by simpa using hk
            have hkc : ((Nd a).kind != 2) = false := by simpa using hk
            have hst : refF m Nd t PB = match slotN (Nd a) pp with
              | none => (0, 10)
              | some k => match firstN m Nd ((Nd a).E k).ino with
                | none => (0, 10)
                | some t => refF m Nd t (PB.drop (i + 1)) := by rw [← HR1.out, refF, if_neg (fun x => x hk)]
            have HST := Hid.mk hst
            clear hst HR1
            go_upto_region 14 with fail
            clear z0 z1 z2 z3 z4 z5
            go_loopw [10, 11] (fun nv kv wr2 => ∃ (k : Nat) (nx : Int), k ≤ (Nd a).sn ∧ kv = .int .i64 (k : Int) ∧ nv = .int .i64 nx ∧ Hid (Below w.heap.size w wr2) ∧ Hid (Below w2.heap.size w2 wr2) ∧ ((nx = -1 ∧ Hid (∀ i, i < k → slotB pp ((Nd a).E i) = false)) ∨ (∃ k0 : Nat, nx = (k0 : Int) ∧ Hid (k0 < (Nd a).sn ∧ slotN (Nd a) pp = some k0)))) (fun _ kv _ => (((Nd a).sn : Int) - Go.RowKit.intOf kv).toNat)
            case atStart => exact ⟨0, -1, by omega, rfl, rfl, HBW, Hid.mk HK.out.1, .inl ⟨rfl, Hid.mk (fun i hi => absurd hi (Nat.not_lt_zero i))⟩⟩
            case round =>
              obtain ⟨k, nx, hks, rfl, rfl, HB2, HB3, hnx⟩ := hrel
              obtain ⟨f2, o2, e2, -, ⟨z0, z1, z2, z3, z4, z5⟩, -, hE2, -⟩ := no_at (HN.out.blw HB2.out) ham
              cases e2
              have hk0' : (0 : Int) ≤ (k : Int) := by omega
              rcases hnx with ⟨rfl, HNM⟩ | ⟨k0, rfl, HK0⟩
              · by_cases hkl : k < (Nd a).sn
                · obtain ⟨eb, eo, hso, -, hec⟩ := hE2 (by omega)
                  obtain ⟨y0, y1⟩ := hec k hkl
                  obtain ⟨pg, po1, hpo, -, hpc⟩ := (HP.out.blw HB3.out).2 (by omega)
                  have y2 := hpc i hlt
                  rw [hpp] at y2
                  rw [hso] at z5
                  have hks2 : (k : Int) < ((Nd a).sn : Int) := by omega
                  have hkk : IntKind.i64.wrap ((k : Int) + 1) = (k : Int) + 1 := by have := HWF.out.2.1; rw [IntKind.wrap_i64]; omega
                  generalize he : (Nd a).E k = e at *
                  obtain ⟨ei, en⟩ := e
                  dsimp only at y0 y1
                  rw [hpo]
                  clear hec hpc hE2
                  go_upto_region 17 with fail
                  obtain ⟨X, hX⟩ : ∃ X, X = wr.alloc (.cells #[.int .i64 ei, .string en] 41) := ⟨_, rfl⟩
                  have hBX : Below wr.heap.size wr X := by rw [hX]; exact (Below.refl _ wr).alloc (Nat.le_refl _) _
                  have gX : X.heap[wr.heap.size]? = some (.cells #[.int .i64 ei, .string en] 41 (0, 0)) := by rw [hX]; exact blk_new wr _
                  have v0 := blk_cell gX 0
                  have v1 := blk_cell gX 1
                  simp at v0 v1
                  have hpl : pg < wr.heap.size := cell_ltA y2
                  have v2 := (World.cell?_of_block (w := wr) (w' := X) (a := ⟨pg, po1 + i, none⟩) (hBX.block pg hpl)).trans y2
                  have HX2 := Hid.mk (HB2.out.trans (hBX.mono HB2.out.size))
                  have HX3 := Hid.mk (HB3.out.trans (hBX.mono HB3.out.size))
                  rw [← hX]
                  clear hX hBX gX y0 y1 y2 hpl z0 z1 z2 z3 z4 z5
                  generalize wr.heap.size = bx at *
                  have hse := str_eq en pp
                  have HE0 := Hid.mk he
                  by_cases h0 : ei = 0
                  · subst h0
                    have hf : slotB pp ((Nd a).E k) = false := by rw [he]; simp [slotB]
                    have HF := Hid.mk hf
                    clear hf hse he
                    go_quiet (fail)
                    go_wp2
                    go_roundw
                    case rel => exact ⟨k + 1, -1, hkl, by push_cast; rfl, rfl, Hid.mk (HX2.out.trans ((blw_drewN (Below.refl X.heap.size X) _).mono HX2.out.size)), Hid.mk (HX3.out.trans ((blw_drewN (Below.refl X.heap.size X) _).mono HX3.out.size)), .inl ⟨rfl, Hid.mk (fun i hi => (Nat.lt_succ_iff_lt_or_eq.1 hi).elim (HNM.out i) (fun q => by rw [q]; exact HF.out))⟩⟩
                    case measure => simp [Go.RowKit.intOf]; omega
                  · have h0b : (ei == 0) = false := by simpa using h0
                    have h0c : (ei != 0) = true := by simpa using h0
                    by_cases hn : en = pp
                    · rw [decide_eq_true hn] at hse
                      have hf : slotB pp ((Nd a).E k) = true := by rw [he]; simp [slotB, h0, hn]
                      have hsl : slotN (Nd a) pp = some k := range_hit hkl hf HNM.out
                      have HSL := Hid.mk (And.intro hkl hsl)
                      clear hf hsl he
                      go_quiet (fail)
                      go_wp2
                      go_roundw
                      case rel => exact ⟨k + 1, (k : Int), hkl, by push_cast; rfl, rfl, Hid.mk (HX2.out.trans ((blw_drewN (Below.refl X.heap.size X) _).mono HX2.out.size)), Hid.mk (HX3.out.trans ((blw_drewN (Below.refl X.heap.size X) _).mono HX3.out.size)), .inr ⟨k, rfl, HSL⟩⟩
                      case measure => simp [Go.RowKit.intOf]; omega
                    · rw [decide_eq_false hn] at hse
                      have hf : slotB pp ((Nd a).E k) = false := by rw [he]; simp [slotB, hn]
                      have HF := Hid.mk hf
                      clear hf he
                      go_quiet (fail)
                      go_wp2
                      go_roundw
                      case rel => exact ⟨k + 1, -1, hkl, by push_cast; rfl, rfl, Hid.mk (HX2.out.trans ((blw_drewN (Below.refl X.heap.size X) _).mono HX2.out.size)), Hid.mk (HX3.out.trans ((blw_drewN (Below.refl X.heap.size X) _).mono HX3.out.size)), .inl ⟨rfl, Hid.mk (fun i hi => (Nat.lt_succ_iff_lt_or_eq.1 hi).elim (HNM.out i) (fun q => by rw [q]; exact HF.out))⟩⟩
                      case measure => simp [Go.RowKit.intOf]; omega
                · obtain rfl : k = (Nd a).sn := by omega
                  have hsl : slotN (Nd a) pp = none := range_none HNM.out
                  have hfin : refF m Nd t PB = (0, 10) := by rw [HST.out, hsl]
                  have HFI := Hid.mk hfin
                  clear hfin hsl HST
                  go_wp2
                  refine bodyPost_ret (results_tmp2 rfl _ _ _) rfl ?_
                  exact ⟨by rw [HRF.out, HFI.out]; rfl, HB2.out⟩
              · obtain ⟨eb, eo, hso, -, hec⟩ := hE2 (by have := HK0.out.1; omega)
                obtain ⟨y0, -⟩ := hec k0 HK0.out.1
                rw [hso] at z5
                have hkn : ¬ (k0 : Int) < 0 := by omega
                have hk00 : (0 : Int) ≤ (k0 : Int) := by omega
                have hk0s : (k0 : Int) < ((Nd a).sn : Int) := by have := HK0.out.1; omega
                have hs2 := HST.out
                rw [HK0.out.2] at hs2
                dsimp only at hs2
                have HAK := Hid.mk (HAT.out wr ((Nd a).E k0).ino HB2.out)
                clear hec hE2 HST
                generalize ((Nd a).E k0).ino = kn at *
                cases hf : firstN m Nd kn with
                | none =>
                  rw [hf] at hs2
                  dsimp only at hs2
                  have hat : atS m Nd kn = -1 := by unfold atS; rw [hf]
                  rw [hat] at HAK
                  have HFI := Hid.mk hs2
                  clear hs2 hf hat
                  go_wp2_with (go_at_call 20; refine HAK.out.mono ?_; rintro e w5 ⟨rfl, hw5⟩; subst hw5)
                  all_goals
                    refine bodyPost_ret (results_tmp2 rfl _ _ _) rfl ?_
                    exact ⟨by rw [HRF.out, HFI.out]; rfl, HB2.out⟩
                | some tt =>
                  rw [hf] at hs2
                  dsimp only at hs2
                  have hat : atS m Nd kn = (tt : Int) := by unfold atS; rw [hf]
                  have htt := (firstN_some hf).1
                  have HTT := Hid.mk htt
                  rw [hat] at HAK
                  have HFI := Hid.mk hs2
                  have htn : ¬ (tt : Int) < 0 := by omega
                  clear hs2 hf hat htt
                  go_wp2_with (go_at_call 20; refine HAK.out.mono ?_; rintro e w5 ⟨rfl, hw5⟩; subst hw5)
                  all_goals
                    go_roundw
                    case rel => exact ⟨i + 1, tt, hlt, HTT.out, rfl, by push_cast; rfl, Hid.mk ⟨HB3.out, HFI.out.symm⟩⟩
                    case measure => simp [Go.RowKit.intOf]; omega
          · have hkb : ((Nd a).kind == 2) = false := by simpa using hk
            have hkc : ((Nd a).kind != 2) = true := by simpa using hk
            have hfin : refF m Nd t PB = (0, 12) := by rw [← HR1.out, refF, if_pos hk]
            have HFI := Hid.mk hfin
            clear hfin
            go_wp2
            refine bodyPost_ret (results_tmp2 rfl _ _ _) rfl ?_
            exact ⟨by rw [HRF.out, HFI.out]; rfl, HBW.out⟩
        · obtain rfl : i = n := by omega
          have hfin : refF m Nd t PB = (a, 0) := by
            rw [← HK.out.2, show PB.drop i = [] by rw [← HP.out.1]; exact List.drop_length]
            rfl
          have HFI := Hid.mk hfin
          clear hfin
          go_wp2
          refine bodyPost_ret (results_tmp2 rfl _ _ _) rfl ?_
          exact ⟨by rw [HRF.out, HFI.out]; rfl, HB1.out.trans (HK.out.1.mono HB1.out.size)⟩
end Go.Proofs.Ytbahbhaoimabdaa
