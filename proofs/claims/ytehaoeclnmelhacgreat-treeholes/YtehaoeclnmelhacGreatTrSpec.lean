/-
  A tree of names as lists: what the calls of names make of it. No program.
-/
import Derived.Test.YtehaoeclnmelhacGreatPtSpec
import Derived.Test.YtehaoeclnmelhacGreatBmSpec
namespace Go.Proofs.YtehaoeclnmelhacGreat
open Go Go.Proofs Go.RowKit

/-- A slot: free, or which node it names, and by what name. -/
abbrev Slt := Option (Nat × List UInt8)
/-- A node: a file (links, size, its blocks by number), or a directory (links, size, its slots). -/
inductive Nd where
  | file (l z : Int) (b : List (Int × List Int))
  | dir (l z : Int) (s : List Slt)
structure Tr where
  G : Int
  I : Int
  D : Int
  inodes : Int
  blocks : Int
  nodes : List Nd
abbrev w64 (x : Int) : Int := wrap64 x
def Nd.kind : Nd → Int
  | .file _ _ _ => 1
  | .dir _ _ _ => 2
def Nd.links : Nd → Int
  | .file l _ _ => l
  | .dir l _ _ => l
def Nd.size : Nd → Int
  | .file _ z _ => z
  | .dir _ z _ => z
def Nd.slots : Nd → List Slt
  | .file _ _ _ => []
  | .dir _ _ s => s
def Nd.parts : Nd → List (Int × List Int)
  | .file _ _ b => b
  | .dir _ _ _ => []
def Nd.isDir : Nd → Bool
  | .file _ _ _ => false
  | .dir _ _ _ => true
/-- Has a slot that name? -/
def hasB (p : List UInt8) : Slt → Bool
  | none => false
  | some q => decide (q.2 = p)
/-- Where a name stands; how many slots there are, if it does not. -/
def nameAt (s : List Slt) (p : List UInt8) : Nat := s.findIdx (hasB p)
def freeAt (s : List Slt) : Nat := s.findIdx (fun o => o.isNone)
/-- What a name names. -/
def lookS (s : List Slt) (p : List UInt8) : Option Nat := ((s.getD (nameAt s p) none).map (·.1))
/-- The numbers of a node's blocks. -/
def Nd.nos : Nd → List Int
  | .file _ _ b => b.map (·.1)
  | .dir _ z _ => upto (z / 1024).toNat
/-- How many data blocks a node of these blocks takes. -/
def roomL (l : List Int) : Int := (l.length : Int) + (mtN l : Int)
/-- How many more a directory takes for one name more. -/
def Nd.growth (d : Nd) : Int := if freeAt d.slots < d.slots.length then 0 else roomL (d.nos ++ [(d.nos.length : Int)]) - roomL d.nos
def Nd.add (p : List UInt8) (j : Nat) : Nd → Nd
  | .file l z b => .file l z b
  | .dir l z s => if freeAt s < s.length then .dir l z (s.set (freeAt s) (some (j, p))) else .dir l (w64 (z + 1024)) ((s ++ List.replicate 32 none).set s.length (some (j, p)))
def Nd.put (p : List UInt8) (j : Nat) : Nd → Nd
  | .file l z b => .file l z b
  | .dir l z s => .dir l z (s.set (nameAt s p) (some (j, p)))
def Nd.del (p : List UInt8) : Nd → Nd
  | .file l z b => .file l z b
  | .dir l z s => .dir l z (s.set (nameAt s p) none)
def Nd.more (n : Int) : Nd → Nd
  | .file l z b => .file (w64 (l + n)) z b
  | .dir l z s => .dir (w64 (l + n)) z s
def newF : Nd := .file 1 0 []
def newD : Nd := .dir 2 1024 (List.replicate 30 none)
/-- The node to which parts lead, from one on; or what is wrong. -/
def downS (N : List Nd) : Nat → List (List UInt8) → Int × Nat
  | at_, [] => (0, at_)
  | at_, p :: r => match N[at_]? with
    | some (.dir _ _ s) => (match lookS s p with
      | some j => downS N j r
      | none => (10, 0))
    | _ => (12, 0)
/-- The nodes on the way (the last one too, where the way ends well). -/
def wayS (N : List Nd) : Nat → List (List UInt8) → List Nat
  | at_, [] => [at_]
  | at_, p :: r => at_ :: (match N[at_]? with
    | some (.dir _ _ s) => (match lookS s p with
      | some j => wayS N j r
      | none => [])
    | _ => [])
/-- A place: the directory, the name, what it names. -/
structure Sp where
  dir : Nat
  name : List UInt8
  named : Option Nat
def spotS (N : List Nd) (L : List (List UInt8)) : Int × Sp :=
  match downS N 0 L.dropLast with
  | (0, d) => (match N[d]? with
    | some (.dir _ _ s) => (0, ⟨d, L.getLastD [], lookS s (L.getLastD [])⟩)
    | _ => (12, ⟨0, [], none⟩))
  | (e, _) => (e, ⟨0, [], none⟩)
def unnamedS (N : List Nd) (L : List (List UInt8)) : Int × Sp :=
  if L = [] then (11, ⟨0, [], none⟩) else match spotS N L with
    | (0, sp) => (if sp.named = none then (0, sp) else (11, sp))
    | (e, sp) => (e, sp)
def namedS (N : List Nd) (s : List UInt8) : Int × Sp :=
  match splitL s with
  | none => (15, ⟨0, [], none⟩)
  | some [] => (18, ⟨0, [], none⟩)
  | some (a :: L) => match spotS N (a :: L) with
    | (0, sp) => (if sp.named = none then (10, sp) else (0, sp))
    | (e, sp) => (e, sp)
def nodeS (N : List Nd) (s : List UInt8) : Int × Nat :=
  match splitL s with
  | none => (15, 0)
  | some L => downS N 0 L
def nodeAt (N : List Nd) (i : Nat) : Nd := N.getD i newF
def fileS (N : List Nd) (s : List UInt8) : Int × Nat :=
  match nodeS N s with
  | (0, i) => (if (nodeAt N i).isDir = true then (13, 0) else (0, i))
  | (e, _) => (e, 0)
/-- One node is another one now. -/
def turnN (N : List Nd) (i : Nat) (f : Nd → Nd) : List Nd := N.modify i f
end Go.Proofs.YtehaoeclnmelhacGreat
