/- Texts that the others lean on. -/
import Derived.Test.YtjgckfcocmhnhaaGreatDoorKLPlain
import Derived.Lib.Replace
import Derived.Lib.SplitLaws
import Derived.Lib.IndexLaws
import Derived.Lib.Join
import Derived.Lib.Strings
import Derived.Test.YtjgckfcocmhnhaaGreatDoorKMC
namespace Go.Proofs.YtjgckfcocmhnhaaGreatDoor.Lb
/-! ### Escaped -/
def escC (c : UInt8) : Str := if c = 92 ∨ c = 34 then [92, c] else [c]
def esc (v : Str) : Str := v.flatMap escC
/-! ### Printed -/
def metric (l : List Pr) : Str := if fName (fGet l nm) = true then fGet l nm else []
def others (l : List Pr) : List Pr := if fName (fGet l nm) = true then fWithout l [] else l
def pairT (p : Pr) : Str := p.1 ++ [61, 34] ++ esc p.2 ++ [34]
def inner (l : List Pr) : Str := Lib.join (l.map pairT) [44]
def fPrint (l : List Pr) : Str := if fIs l = true then (if metric l ≠ [] ∧ others l = [] then metric l else metric l ++ [123] ++ inner (others l) ++ [125]) else []
/-! ### Read -/
def rdVal : Str → Str × Str
 | [] => ([], [])
 | c :: r => if c = 34 then ([], r) else if c = 92 then (match r with
   | [] => ([92], [])
   | d :: t => (d :: (rdVal t).1, (rdVal t).2)) else (c :: (rdVal r).1, (rdVal r).2)
def rdPairs : Nat → Str → List Pr
 | 0, _ => []
 | k + 1, s => if (Lib.cut s [61, 34]).2.2 = true then ((Lib.cut s [61, 34]).1, (rdVal (Lib.cut s [61, 34]).2.1).1) :: rdPairs k (Lib.trimPrefix (rdVal (Lib.cut s [61, 34]).2.1).2 [44]) else []
def rdAll (s : Str) : List Pr := (if (Lib.cut s [123]).1 = [] then [] else [(nm, (Lib.cut s [123]).1)]) ++ rdPairs ((Lib.cut s [123]).2.1.length + 1) (Lib.cut s [123]).2.1
def okParse (s : Str) : Bool := decide (makeE (rdAll s) = 0) && decide (fPrint (makeL (rdAll s)) = s)
def parseE (s : Str) : Int := if okParse s = true then 0 else 30
def parseL (s : Str) : List Pr := if okParse s = true then makeL (rdAll s) else []
/-! ### Cut at the first sign -/
/-! ### What is printed is read -/
end Go.Proofs.YtjgckfcocmhnhaaGreatDoor.Lb
namespace Go.Proofs.YtjgckfcocmhnhaaGreatDoor.Lb
/-- A rule: what it does, its matcher, its target, its text. -/
structure Rl where
 act : Int
 frm : Mat
 tgt : Str
 txt : Str
def rl0 : Rl := ⟨0, mat0, [], []⟩
def fText (s : Str) : Bool := decide (s.length ≤ 30) && !s.contains 10
def bare (r : Rl) : Bool := (r.tgt == []) && (r.txt == [])
def fRule (r : Rl) : Bool :=
 if r.act = 1 then fMat r.frm && bare r else if r.act = 2 then fMat r.frm && bare r
 else if r.act = 3 then fMat r.frm && fName r.tgt && fText r.txt
 else if r.act = 4 then (r.frm.name == []) && decide (r.frm.kind = 0) && fText r.frm.text && bare r else false
def dol (t v : Str) : Str := t.flatMap fun c => if c = 36 then v else [c]
def hit (l : List Pr) (r : Rl) : Bool := fOne r.frm (fGet l r.frm.name)
def setP (l : List Pr) (r : Rl) : List Pr := [(r.tgt, dol r.txt (fGet l r.frm.name))]
def stays (r : Rl) (p : Pr) : Bool := decide (p.1 = nm) || !gm r.frm.text p.1
def thin (l : List Pr) (r : Rl) : List Pr := l.filter (stays r)
/-- What one rule makes of a set; whether it is kept; the error. -/
def ap1S (l : List Pr) (r : Rl) : List Pr :=
 if r.act = 1 then l else if r.act = 2 then l else if r.act = 3 then (if hit l r = true then withL l (setP l r) else l) else thin l r
def ap1K (l : List Pr) (r : Rl) : Bool :=
 if r.act = 1 then hit l r else if r.act = 2 then !hit l r else if r.act = 3 then (if hit l r = true then decide (withE l (setP l r) = 0) else true) else true
def ap1E (l : List Pr) (r : Rl) : Int :=
 if r.act = 3 then (if hit l r = true then withE l (setP l r) else 0) else 0
def apAll : List Pr → List Rl → List Pr × Bool × Int
 | l, [] => (l, true, 0)
 | l, r :: rs => if ap1K l r = true then apAll (ap1S l r) rs else ([], false, ap1E l r)
def rulesOk (rs : List Rl) : Bool := rs.all fRule
def fApply (l : List Pr) (rs : List Rl) : List Pr × Bool × Int :=
 if rulesOk rs = true then (if fIs l = true then apAll l rs else ([], false, 30)) else ([], false, 12)
/-! ### Nothing but sets comes out -/
/-! ### What stays, by names -/
/-! ### Filled -/
/-! ### Printed -/
def quo (s : Str) : Str := [34] ++ esc s ++ [34]
def signT (k : Int) : Str := if k = 1 then [61] else if k = 2 then [33, 61] else if k = 3 then [94, 61] else [42, 61]
def condT (m : Mat) : Str := m.name ++ [32] ++ signT m.kind ++ [32] ++ quo m.text
def keepT : Str := [107, 101, 101, 112, 32]
def dropT : Str := [100, 114, 111, 112, 32]
def replT : Str := [114, 101, 112, 108, 97, 99, 101, 32]
def ldropT : Str := [108, 97, 98, 101, 108, 100, 114, 111, 112, 32]
def lineT (r : Rl) : Str :=
 if r.act = 1 then keepT ++ condT r.frm else if r.act = 2 then dropT ++ condT r.frm
 else if r.act = 3 then replT ++ condT r.frm ++ [32] ++ r.tgt ++ [32] ++ quo r.txt else ldropT ++ quo r.frm.text
def fPrintR (r : Rl) : Str := if fRule r = true then lineT r else []
end Go.Proofs.YtjgckfcocmhnhaaGreatDoor.Lb
namespace Go.Proofs.YtjgckfcocmhnhaaGreatDoor.Lb
open Go.RowKit
/-- A rule as the callers have it, and as the package has it. -/
abbrev rv (r : Rl) : Value := .agg #[.int .i64 r.act, tx r.frm.name, .int .i64 r.frm.kind, tx r.frm.text, tx r.tgt, tx r.txt]
abbrev qv (r : Rl) : Value := .agg #[tx r.frm.name, .int .i64 r.frm.kind, tx r.frm.text, .int .i64 r.act, tx r.tgt, tx r.txt]
def FitR (r : Rl) : Prop := Big r.frm.name ∧ Big r.frm.text ∧ Big r.tgt ∧ Big r.txt
/-- A rule that lies in a block of its own, as the package has it. -/
structure BoxQ (w : World) (b : Nat) (r : Rl) : Prop where
 c0 : w.cell? ⟨b, 0, none⟩ = some (tx r.frm.name)
 c1 : w.cell? ⟨b, 1, none⟩ = some (.int .i64 r.frm.kind)
 c2 : w.cell? ⟨b, 2, none⟩ = some (tx r.frm.text)
 c3 : w.cell? ⟨b, 3, none⟩ = some (.int .i64 r.act)
 c4 : w.cell? ⟨b, 4, none⟩ = some (tx r.tgt)
 c5 : w.cell? ⟨b, 5, none⟩ = some (tx r.txt)
theorem BoxQ.later {w w' : World} {b : Nat} {r : Rl} (h : BoxQ w b r) (hb : Below w.heap.size w w') : BoxQ w' b r := by
 have hl : b < w.heap.size := World.block_lt_of_cell? _ _ h.c0
 exact ⟨(hb.cell (p := ⟨b, 0, none⟩) hl).trans h.c0, (hb.cell (p := ⟨b, 1, none⟩) hl).trans h.c1, (hb.cell (p := ⟨b, 2, none⟩) hl).trans h.c2, (hb.cell (p := ⟨b, 3, none⟩) hl).trans h.c3, (hb.cell (p := ⟨b, 4, none⟩) hl).trans h.c4, (hb.cell (p := ⟨b, 5, none⟩) hl).trans h.c5⟩
end Go.Proofs.YtjgckfcocmhnhaaGreatDoor.Lb
namespace Go.Proofs.YtjgckfcocmhnhaaGreatDoor.Lb
open Go.RowKit
/-- A cut behind a piece of code. -/
theorem region_mid {P : Program} {c : Code} {K : Act → World → Prop} {Q : Exit → Act → World → Prop} {a : Act} {w : World} (R : Act → World → Prop) (h1 : c.wp P (Exit.then R Q) a w) (h2 : ∀ a' w', R a' w' → K a' w') : c.wp P (Exit.then K Q) a w := by
 refine Code.wp_mono ?_ h1
 intro e a' w' h
 cases e <;> first | exact h2 _ _ h | exact h
/-! ### Texts one behind the other -/
end Go.Proofs.YtjgckfcocmhnhaaGreatDoor.Lb
namespace Go.Proofs.YtjgckfcocmhnhaaGreatDoor.Lb
open Go.RowKit
/-- Texts that are short. -/
def Short (r : Rl) : Prop := r.frm.name.length ≤ 100 ∧ r.frm.text.length ≤ 100 ∧ r.tgt.length ≤ 100 ∧ r.txt.length ≤ 100
end Go.Proofs.YtjgckfcocmhnhaaGreatDoor.Lb
