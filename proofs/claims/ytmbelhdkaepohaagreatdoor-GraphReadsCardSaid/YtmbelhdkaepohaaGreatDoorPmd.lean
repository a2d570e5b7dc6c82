/- The package's parser, and the reference's, as machines over tokens. Plain mathematics. -/
import Derived.Test.YtmbelhdkaepohaaGreatDoorVlp
namespace Go.Proofs.YtmbelhdkaepohaaGreatDoor
set_option maxRecDepth 20000
set_option linter.unusedVariables false
set_option linter.unusedSimpArgs false
open Go.ChangeShapes Go.WideShapes Go.ChangeAt Go.RowKit

def eqB (a b : ByteArray) : Bool := a.toList == b.toList
def noB : ByteArray := ⟨#[]⟩
def zTok : Tok := ⟨0, noB, 0, 0⟩
def nxt (l : List Tok) : Tok := match l with | [] => zTok | t :: _ => t
def kwUse : ByteArray := ⟨#[117, 115, 101]⟩
def kwCall : ByteArray := ⟨#[99, 97, 108, 108]⟩
def kwSource : ByteArray := ⟨#[115, 111, 117, 114, 99, 101]⟩
def kwSink : ByteArray := ⟨#[115, 105, 110, 107]⟩
def kwSanitize : ByteArray := ⟨#[115, 97, 110, 105, 116, 105, 122, 101]⟩
def kwGoto : ByteArray := ⟨#[103, 111, 116, 111]⟩
def kwBranch : ByteArray := ⟨#[98, 114, 97, 110, 99, 104]⟩
def kwReturn : ByteArray := ⟨#[114, 101, 116, 117, 114, 110]⟩
def kwFunc : ByteArray := ⟨#[102, 117, 110, 99]⟩
def kwBlock : ByteArray := ⟨#[98, 108, 111, 99, 107]⟩
def kwEnd : ByteArray := ⟨#[101, 110, 100]⟩
def kwEq : ByteArray := ⟨#[61]⟩

/-- The package's parser: the tokens that are left, and the first error. -/
structure Ds where
  l : List Tok
  line : Nat
  col : Nat
  e : Int
def failS (e : Int) (σ : Ds) : Ds := if σ.e == 0 then ⟨[], (nxt σ.l).line, (nxt σ.l).col, e⟩ else σ
def takeS (b : Bool) (σ : Ds) : ByteArray × Ds := if b then ((nxt σ.l).text, ⟨σ.l.tail, σ.line, σ.col, σ.e⟩) else (noB, failS 4 σ)
def nameS (σ : Ds) : ByteArray × Ds := takeS (nameB (nxt σ.l).text) σ
def wordS (k : ByteArray) (σ : Ds) : Ds := (takeS (eqB (nxt σ.l).text k) σ).2
def endS (σ : Ds) : Ds := (takeS ((nxt σ.l).kind == 3) σ).2
/-- The operation of the statements that begin with a word. -/
def opW (x : ByteArray) : Int :=
  if nameB x then 1 else if eqB kwUse x then 2 else if eqB kwCall x then 3 else if eqB kwSource x then 4 else if eqB kwSink x then 5
  else if eqB kwSanitize x then 6 else if eqB kwGoto x then 7 else if eqB kwBranch x then 8 else if eqB kwReturn x then 9 else 0
def begS (x : ByteArray) : Bool := opW x != 0
def begF (x : ByteArray) : Bool := eqB x kwFunc
def begB (x : ByteArray) : Bool := eqB x kwBlock
def listS {α : Type} (b : ByteArray → Bool) (part : Ds → α × Ds) : Nat → Ds → List α × Ds
  | 0, σ => if b (nxt σ.l).text then ([], failS 7 σ) else ([], σ)
  | n + 1, σ => if b (nxt σ.l).text then ((part σ).1 :: (listS b part n (part σ).2).1, (listS b part n (part σ).2).2) else ([], σ)
def someS {α : Type} (b : ByteArray → Bool) (part : Ds → α × Ds) (n : Nat) (σ : Ds) : List α × Ds :=
  ((listS b part n σ).1, if (listS b part n σ).1.isEmpty then failS 4 (listS b part n σ).2 else (listS b part n σ).2)
def opS (o : Int) (x : ByteArray) (σ : Ds) : Stm × Ds :=
  if o = 1 then (⟨1, x, (listS nameB nameS 4 (wordS kwEq σ)).1, []⟩, (listS nameB nameS 4 (wordS kwEq σ)).2)
  else if o = 2 then (⟨2, noB, (someS nameB nameS 4 σ).1, []⟩, (someS nameB nameS 4 σ).2)
  else if o = 5 then (⟨5, noB, [(nameS σ).1], []⟩, (nameS σ).2)
  else if o = 4 then (⟨4, (nameS σ).1, [], []⟩, (nameS σ).2)
  else if o = 6 then (⟨6, (nameS σ).1, [], []⟩, (nameS σ).2)
  else if o = 8 then (⟨8, noB, [(nameS σ).1], [(nameS (nameS σ).2).1, (nameS (nameS (nameS σ).2).2).1]⟩, (nameS (nameS (nameS σ).2).2).2)
  else if o = 3 then (⟨3, noB, [], [(nameS σ).1]⟩, (nameS σ).2)
  else if o = 7 then (⟨7, noB, [], [(nameS σ).1]⟩, (nameS σ).2)
  else (⟨o, noB, [], []⟩, σ)
def stmtS (σ : Ds) : Stm × Ds :=
  let r := takeS (begS (nxt σ.l).text) σ
  ((opS (opW r.1) r.1 r.2).1, endS (opS (opW r.1) r.1 r.2).2)
def blockS (σ : Ds) : Blk × Ds :=
  let q := nameS (wordS kwBlock σ)
  let r := someS begS stmtS 32 (endS q.2)
  (⟨q.1, r.1⟩, r.2)
def funcS (σ : Ds) : Fnc × Ds :=
  let q := nameS (wordS kwFunc σ)
  let r := someS begB blockS 16 (endS q.2)
  (⟨q.1, r.1⟩, endS (wordS kwEnd r.2))
def progS (σ : Ds) : List Fnc × Ds :=
  let r := someS begF funcS 8 σ
  (r.1, if r.2.l.isEmpty then r.2 else failS 4 r.2)
abbrev Par := List Fnc × Nat × Nat × Int
/-- P5.1. -/
def parseS (s : ByteArray) : Par :=
  if (scanR s).2.2.2 == 0 then
    let r := progS ⟨(scanR s).1, 0, 0, 0⟩
    if r.2.e == 0 then (r.1, 0, 0, 0) else ([], r.2.line, r.2.col, r.2.e)
  else ([], (scanR s).2.1, (scanR s).2.2.1, (scanR s).2.2.2)

/-- The reference's parser: the tokens that are left, and the first error. -/
structure Rs where
  l : List Tok
  e : Int
def isK (k : ByteArray) (σ : Rs) : Bool := σ.e == 0 && (nxt σ.l).kind == 1 && eqB (nxt σ.l).text k
def isN (σ : Rs) : Bool := σ.e == 0 && (nxt σ.l).kind == 1 && nameB (nxt σ.l).text
def isD (k : Int) (σ : Rs) : Bool := σ.e == 0 && (nxt σ.l).kind == k
def failR (e : Int) (σ : Rs) : Rs := if σ.e == 0 then ⟨σ.l, e⟩ else σ
def stepR (σ : Rs) : Rs := ⟨σ.l.tail, σ.e⟩
def nameR (σ : Rs) : ByteArray × Rs := if isN σ then ((nxt σ.l).text, stepR σ) else (noB, failR 4 σ)
def wordR (k : ByteArray) (σ : Rs) : Rs := if isK k σ then stepR σ else failR 4 σ
def endR (σ : Rs) : Rs := if isD 3 σ then stepR σ else failR 4 σ
def namesL : Nat → Rs → Option (List ByteArray) × Rs
  | 0, σ => if isN σ then (none, failR 7 σ) else (some [], σ)
  | n + 1, σ => if isN σ then ((namesL n (nameR σ).2).1.map ((nameR σ).1 :: ·), (namesL n (nameR σ).2).2) else (some [], σ)
def namesR (n : Nat) (σ : Rs) : List ByteArray × Rs := ((namesL n σ).1.getD [], (namesL n σ).2)
def begR (σ : Rs) : Bool :=
  isK kwUse σ || isK kwCall σ || isK kwSource σ || isK kwSink σ || isK kwSanitize σ || isK kwGoto σ || isK kwBranch σ || isK kwReturn σ || isN σ
def listR {α : Type} (b : Rs → Bool) (part : Rs → α × Rs) : Nat → Rs → List α × Rs
  | 0, σ => if b σ then ([], failR 7 σ) else ([], σ)
  | n + 1, σ => if b σ then ((part σ).1 :: (listR b part n (part σ).2).1, (listR b part n (part σ).2).2) else ([], σ)
/-- What a statement is whose first word, if it is no name, is taken. -/
def opR (x : ByteArray) (σ : Rs) : Stm × Rs :=
  if eqB x kwUse then (⟨2, noB, (nameR σ).1 :: (namesR 3 (nameR σ).2).1, []⟩, endR (namesR 3 (nameR σ).2).2)
  else if eqB x kwCall then (⟨3, noB, [], [(nameR σ).1]⟩, endR (nameR σ).2)
  else if eqB x kwSource then (⟨4, (nameR σ).1, [], []⟩, endR (nameR σ).2)
  else if eqB x kwSink then (⟨5, noB, [(nameR σ).1], []⟩, endR (nameR σ).2)
  else if eqB x kwSanitize then (⟨6, (nameR σ).1, [], []⟩, endR (nameR σ).2)
  else if eqB x kwGoto then (⟨7, noB, [], [(nameR σ).1]⟩, endR (nameR σ).2)
  else if eqB x kwBranch then (⟨8, noB, [(nameR σ).1], [(nameR (nameR σ).2).1, (nameR (nameR (nameR σ).2).2).1]⟩, endR (nameR (nameR (nameR σ).2).2).2)
  else if eqB x kwReturn then (⟨9, noB, [], []⟩, endR σ)
  else if isD 2 (nameR σ).2 then (⟨1, (nameR σ).1, (namesR 4 (stepR (nameR σ).2)).1, []⟩, endR (namesR 4 (stepR (nameR σ).2)).2)
  else (⟨1, (nameR σ).1, [], []⟩, failR 4 (nameR σ).2)
def stmtR (σ : Rs) : Stm × Rs := if isN σ then opR noB σ else opR (nxt σ.l).text (stepR σ)
def needR (b : Rs → Bool) (σ : Rs) : Rs := if b σ then σ else failR 4 σ
def blockR (σ : Rs) : Blk × Rs :=
  let q := nameR (wordR kwBlock σ)
  let r := listR begR stmtR 32 (needR begR (endR q.2))
  (⟨q.1, r.1⟩, r.2)
def funcR (σ : Rs) : Fnc × Rs :=
  let q := nameR (wordR kwFunc σ)
  let r := listR (isK kwBlock) blockR 16 (needR (isK kwBlock) (endR q.2))
  (⟨q.1, r.1⟩, endR (wordR kwEnd r.2))
def progR (σ : Rs) : List Fnc × Rs :=
  let r := listR (isK kwFunc) funcR 8 (needR (isK kwFunc) σ)
  (r.1, if r.2.e == 0 && !r.2.l.isEmpty then failR 4 r.2 else r.2)
def parseR (s : ByteArray) : Par :=
  if (scanR s).2.2.2 == 0 then
    let r := progR ⟨(scanR s).1, 0⟩
    if r.2.e == 0 then (r.1, 0, 0, 0) else ([], (nxt r.2.l).line, (nxt r.2.l).col, r.2.e)
  else ([], (scanR s).2.1, (scanR s).2.2.1, (scanR s).2.2.2)
end Go.Proofs.YtmbelhdkaepohaaGreatDoor
