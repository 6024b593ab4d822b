/-
  Are two rows of changes one: the statement's own same.
-/
import Derived.Test.YtjljklfahmjngaaPaSee
import Derived.BigQuiet
namespace Go.Proofs.Ytjljklfahmjngaa
open Go Go.Proofs Go.RowKit Go.Shelf
attribute [local go_sem] Oper.semAt_some
theorem see_at {L M : List Pt} (h : L.map Pt.see = M.map Pt.see) (k : Nat) (hk : k < L.length) : (L.getD k noP).id = (M.getD k noP).id ∧ (L.getD k noP).at' = (M.getD k noP).at' ∧ (L.getD k noP).xs = (M.getD k noP).xs := by
  have hl : L.length = M.length := by have := congrArg List.length h; simpa using this
  have e : (L.map Pt.see)[k]? = (M.map Pt.see)[k]? := by rw [h]
  rw [List.getElem?_map, List.getElem?_map, List.getElem?_eq_getElem hk, List.getElem?_eq_getElem (by omega : k < M.length)] at e
  have e2 : (L[k]).see = (M[k]'(by omega)).see := Option.some.inj e
  rw [List.getD_eq_getElem?_getD, List.getD_eq_getElem?_getD, List.getElem?_eq_getElem hk, List.getElem?_eq_getElem (by omega : k < M.length)]
  exact ⟨congrArg (fun x => x.1) e2, congrArg (fun x => x.2.1) e2, congrArg (fun x => x.2.2) e2⟩
set_option maxRecDepth 100000 in
set_option maxHeartbeats 4000000 in
theorem same_any (w : World) (ao bo : Option Addr) (n c d : Nat) (L M : List Pt) (h1 : PcAt w ao n L) (h2 : PnAt w L) (h3 : PcAt w bo n M) (h4 : PnAt w M) (hs : L.map Pt.see = M.map Pt.see) (hn : n ≤ 1000000) :
    Calls Try.prog 18 #[.slice ao n c, .slice bo n d] w fun e w' => e = .returned (.bool true) ∧ Below w.heap.size w w' := by
  have H1 := Hid.mk h1
  have H2 := Hid.mk h2
  have H3 := Hid.mk h3
  have H4 := Hid.mk h4
  have HS := Hid.mk hs
  have HM := Hid.mk hn
  have hnn : ¬ ¬ (n : Int) = (n : Int) := by simp
  clear h1 h2 h3 h4 hs hn
  go_enter Try.func18, Try.ntmps18
  go_wp2
  go_loopw [5] (fun kv wr => ∃ k q : Nat, kv = .int .i64 k ∧ wr = w.drewN q ∧ Hid (k ≤ n)) (fun kv _ => n - (Go.RowKit.intOf kv).toNat)
  case atStart => exact ⟨0, 0, rfl, rfl, Hid.mk (Nat.zero_le _)⟩
  case round =>
    obtain ⟨k, q, rfl, rfl, HK⟩ := hrel
    by_cases hlt : k < n
    · have hlt' : (k : Int) < (n : Int) := by omega
      have u1 : IntKind.i64.wrap ((k : Int) + 1) = ((k + 1 : Nat) : Int) := by have := HM.out; rw [IntKind.wrap_i64]; omega
      have hl1 := H1.out.1
      have hl3 := H3.out.1
      obtain ⟨a, rfl, x0, x1, x2⟩ := H1.out.load k hlt
      obtain ⟨b, rfl, y0, y1, y2⟩ := H3.out.load k hlt
      obtain ⟨e1, e2, e3⟩ := see_at HS.out k (by omega)
      have hp := H2.out _ (getP_mem (L := L) (k := k) (by omega))
      have hq := H4.out _ (getP_mem (L := M) (k := k) (by omega))
      have cv1 := fun j => conv_bytes (w.drewN j) _ _ (L.getD k noP).c _ (hp.1.drewN j)
      have cv2 := fun j => conv_bytes (w.drewN j) _ _ (M.getD k noP).c _ (hq.1.drewN j)
      rw [← e1] at y0
      rw [← e2] at y1
      rw [← e3] at cv2
      generalize (L.getD k noP).id = i1 at *
      generalize (L.getD k noP).at' = i2 at *
      generalize strOfNums (L.getD k noP).xs = s1 at *
      generalize (L.getD k noP).ao = a1 at *
      generalize (L.getD k noP).n = a2 at *
      generalize (L.getD k noP).c = a3 at *
      generalize (M.getD k noP).ao = b1 at *
      generalize (M.getD k noP).n = b2 at *
      generalize (M.getD k noP).c = b3 at *
      have HLT := Hid.mk hlt
      clear hp hq e1 e2 e3 hlt HK hl1 hl3
      go_wp2
      go_quiet (fail)
      go_wp2
      go_roundw
      case rel => exact ⟨k + 1, _, rfl, rfl, Hid.mk HLT.out⟩
      case measure => (have := HLT.out; simp [Go.RowKit.intOf]; omega)
    · have hlt' : ¬ (k : Int) < (n : Int) := by omega
      clear HK
      go_wp2
      go_ret
      exact ⟨rfl, ⟨rfl, rfl, rfl, Nat.le_refl _, fun _ _ => rfl⟩⟩
end Go.Proofs.Ytjljklfahmjngaa
