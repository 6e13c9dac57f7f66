/- A closed call is worked out by a program of its own: regions, code, calls. -/
import Derived.Test.YtopjcpdhfohccaaEvE
namespace Go.Ev

noncomputable def putC (T : Fr) (dst : Option Tmp) (v : CV) : Fr :=
  match dst with
  | some d => T.put d v
  | none => T

noncomputable def yieldC (ops : Array Oper) (T : Fr) (j : Nat) : Option Bool :=
  match (ops[j]?).bind (·.dst) with
  | none => none
  | some d => cond (Nat.blt d T.n) (isTrueC (T.get d)) none

noncomputable def opsPut (k : Fr → Mem → Option (Fr × Mem)) (T : Fr) (dst : Option Tmp) (r : Option (CV × Mem)) : Option (Fr × Mem) :=
  match r with
  | none => none
  | some r => k (putC T dst r.1) r.2

noncomputable def evalOps [Ctxt] (P : Program) (call : CallFn) (lim : Nat) (ops : Array Oper) : List Oper → Fr → Mem → Option (Fr × Mem)
  | [], T, M => some (T, M)
  | o :: r, T, M =>
    cond (Region.wanted o (yieldC ops T)) (opsPut (evalOps P call lim ops r) T o.dst (evalOp P call lim T M o)) (evalOps P call lim ops r (putC T o.dst (.clo undef)) M)

/-! ### A region that draws its order -/
abbrev Rec := CV × Nat × Nat

noncomputable def inIv (recs : List Rec) (k i : Nat) : Bool :=
  match recs[i]? with
  | some r => Nat.ble r.2.1 k && Nat.blt k r.2.2
  | none => false

noncomputable def maskI (a0 a : Nat) (recs : List Rec) (cl : List Nat) (k : Nat) : Bool := Nat.blt k a && (Nat.blt k a0 || cl.any (inIv recs k))

/-- Operations that look at no block. -/
noncomputable def noRead : Op → Bool
  | .move _ | .assign _ | .pick .. | .nilCheck _ | .makeFunc .. | .fieldAddr .. | .indexAddr .. | .extract .. | .binOp .. | .unOp .. | .build .. | .field .. | .index .. | .alloc _ | .box .. | .makeSlice .. | .buildSlice .. => true
  | .call { callee := .builtin .len, .. } => true
  | _ => false

noncomputable def memN (x : Nat) (l : List Nat) : Bool := l.any (Nat.beq x)

/-- The block is written by a store that this operation does not come before (the list: pairs of an operation and the block that it writes). -/
noncomputable def hid (cls : List (List Nat)) (i k : Nat) : List Nat → Bool
  | j :: nm :: r => (Nat.beq nm k && !memN i (cls.getD j [])) || hid cls i k r
  | _ => false
noncomputable def maskX (a0 a : Nat) (recs : List Rec) (cls : List (List Nat)) (i k : Nat) : Bool := maskI a0 a recs (cls.getD i []) k && !(hid cls i k (cls.getLastD []))

noncomputable def footM (op : Op) (a0 : Nat) (recs : List Rec) (cls : List (List Nat)) (i : Nat) (M : Mem) : Mem := cond (noRead op) ⟨M.next, []⟩ (M.keep (maskX a0 M.next recs cls i))

noncomputable def joinM (M M' : Mem) : Mem := ⟨M'.next, keepL (fun k => Nat.ble M.next k && Nat.blt k M'.next) M'.l ++ keepL (fun k => Nat.blt k M.next) M.l⟩

noncomputable def ons (o : Oper) : List Nat := o.after.toList.filterMap fun e => cond (Region.binds .any e) (some e.on) none

/-- The bits of those that come before: the listed ones and what comes before them. -/
noncomputable def maskOf (acc : List Nat) (l : List Nat) : Nat := List.rec (motive := fun _ => Nat) 0 (fun j _ m => Nat.lor m (Nat.lor (Nat.pow 2 j) (acc.getD j 0))) l

noncomputable def masks : List Oper → List Nat → List Nat
  | [], acc => acc
  | o :: r, acc => masks r (acc ++ [maskOf acc (ons o)])

noncomputable def bitOf (m j : Nat) : Bool := Nat.beq (Nat.land (Nat.shiftRight m j) 1) 1

noncomputable def closures (l : List Oper) : List (List Nat) := (masks l []).map fun m => (List.range l.length).filter (bitOf m)

/-- A store that waits: the operation's number, the type, the block, the place, the cells. -/
structure Sto where
  ix : Nat
  ty : TypeId
  nm : Nat
  off : Nat
  cs : List CV

abbrev DrawF := Fr → Mem → List Rec → List Sto → Option (Fr × Mem × List Rec × List Sto)

noncomputable def drawSkip (k : DrawF) (dst : Option Tmp) (T : Fr) (M : Mem) (recs : List Rec) (sts : List Sto) : Option (Fr × Mem × List Rec × List Sto) :=
  k (putC T dst (.clo undef)) M (recs ++ [(.clo undef, M.next, M.next)]) sts
noncomputable def drawStore (k : DrawF) (dst : Option Tmp) (t : TypeId) (x y : CV) (T : Fr) (M : Mem) (recs : List Rec) (sts : List Sto) : Option (Fr × Mem × List Rec × List Sto) :=
  match asPtr x with
  | some p => k (putC T dst (.clo undef)) M (recs ++ [(.clo undef, M.next, M.next)]) (sts ++ [⟨recs.length, t, p.1, p.2, y.cells⟩])
  | none => none
noncomputable def drawPut (k : DrawF) (dst : Option Tmp) (r : Option (CV × Mem)) (T : Fr) (M : Mem) (recs : List Rec) (sts : List Sto) : Option (Fr × Mem × List Rec × List Sto) :=
  match r with
  | none => none
  | some r => cond (Nat.ble M.next r.2.next) (k (putC T dst r.1) (joinM M r.2) (recs ++ [(r.1, M.next, r.2.next)]) sts) none
noncomputable def drawOp [Ctxt] (P : Program) (call : CallFn) (cls : List (List Nat)) (a0 : Nat) (k : DrawF) (o : Oper) (T : Fr) (M : Mem) (recs : List Rec) (sts : List Sto) : Option (Fr × Mem × List Rec × List Sto) :=
  match o.op with
  | .store t x y => drawStore k o.dst t (opd T x) (opd T y) T M recs sts
  | _ => drawPut k o.dst (evalOp P call M.next T (footM o.op a0 recs cls recs.length M) o) T M recs sts

noncomputable def evalDraw [Ctxt] (P : Program) (call : CallFn) (ops : Array Oper) (cls : List (List Nat)) (a0 : Nat) : List Oper → DrawF
  | [], T, M, recs, sts => some (T, M, recs, sts)
  | o :: r, T, M, recs, sts =>
    cond (Region.wanted o (yieldC ops T)) (drawOp P call cls a0 (evalDraw P call ops cls a0 r) o T M recs sts) (drawSkip (evalDraw P call ops cls a0 r) o.dst T M recs sts)

noncomputable def indexed (i : Nat) : List Oper → List (Nat × Oper)
  | [] => []
  | o :: r => (i, o) :: indexed (i + 1) r

/-- Two operations that are not ordered leave each other's temporaries alone. -/
noncomputable def apartOK (ops : Array Oper) (cls : List (List Nat)) (x y : Nat × Oper) : Bool :=
  Nat.beq x.1 y.1 || memN y.1 (cls.getD x.1 []) || memN x.1 (cls.getD y.1 []) ||
    (match y.2.dst with
    | none => true
    | some d => !memN d (x.2.looksAt ops) && (match x.2.dst with | none => true | some d' => !Nat.beq d d'))

noncomputable def isStore : Op → Bool
  | .store .. => true
  | _ => false

noncomputable def drawOK (ops : Array Oper) (cls : List (List Nat)) (l : List (Nat × Oper)) : Bool :=
  l.all fun x => (ons x.2).all (fun j => Nat.blt j x.1) && l.all fun y => apartOK ops cls x y

noncomputable def spliceC (l : List CV) (off : Nat) (v : List CV) : List CV := l.take off ++ v ++ l.drop (off + v.length)

noncomputable def stTo (s : Sto) (M : Mem) : Mem :=
  match M.at s.nm with
  | none => M
  | some b => M.set s.nm ⟨spliceC b.cs s.off s.cs, b.ty, b.row⟩

noncomputable def stOK (P : Program) (lim : Nat) (M : Mem) (s : Sto) : Bool :=
  match M.at s.nm, P.info? s.ty with
  | some b, some inf => Nat.ble lim s.nm && Nat.beq s.cs.length inf.size && Nat.ble (s.off + s.cs.length) b.cs.length && s.cs.all oneCellC && rowOK b.row
  | _, _ => false

noncomputable def stApart (cls : List (List Nat)) (s t : Sto) : Bool :=
  Nat.beq s.ix t.ix || memN s.ix (cls.getD t.ix []) || memN t.ix (cls.getD s.ix []) || !Nat.beq s.nm t.nm || Nat.ble (s.off + s.cs.length) t.off || Nat.ble (t.off + t.cs.length) s.off

/-- The block of a store is there when the store comes. -/
noncomputable def stHere (a0 : Nat) (recs : List Rec) (cls : List (List Nat)) (s : Sto) : Bool := Nat.blt s.nm a0 || (cls.getD s.ix []).any (inIv recs s.nm)

noncomputable def stAll : List Sto → Mem → Mem
  | [], M => M
  | s :: r, M => stAll r (stTo s M)

noncomputable def maskAll (a0 : Nat) (recs : List Rec) (k : Nat) : Bool := Nat.blt k a0 || (List.range recs.length).any (inIv recs k)

/-- Whoever may look at a block that a store writes comes before the store. -/
noncomputable def lateOK (a0 : Nat) (cls : List (List Nat)) (recs : List Rec) (s : Sto) (y : Nat × Oper) : Bool :=
  noRead y.2.op || isStore y.2.op || memN y.1 (cls.getD s.ix []) ||
    (match recs[y.1]? with
    | some r => !maskX a0 r.2.1 recs cls y.1 s.nm
    | none => false)

noncomputable def stGood (P : Program) (lim a0 : Nat) (cls : List (List Nat)) (l : List (Nat × Oper)) (MA : Mem) (recs : List Rec) (sts : List Sto) (s : Sto) : Bool :=
  stOK P lim MA s && stHere a0 recs cls s && sts.all (stApart cls s) && l.all (lateOK a0 cls recs s)

noncomputable def regionEnd (P : Program) (lim a0 : Nat) (cls : List (List Nat)) (l : List (Nat × Oper)) (r : Fr × Mem × List Rec × List Sto) : Option (Fr × Mem) :=
  cond (r.2.2.2.all (stGood P lim a0 cls l (r.2.1.keep (maskAll a0 r.2.2.1)) r.2.2.1 r.2.2.2)) (some (r.1, stAll r.2.2.2 (r.2.1.keep (maskAll a0 r.2.2.1)))) none

noncomputable def regionGo [Ctxt] (P : Program) (call : CallFn) (lim : Nat) (ops : Array Oper) (cls : List (List Nat)) (T : Fr) (M : Mem) : Option (Fr × Mem) :=
  match evalDraw P call ops cls M.next ops.toList T M [] [] with
  | none => none
  | some r => regionEnd P lim M.next cls (indexed 0 ops.toList) r

/-- The stores into blocks that are there when the region begins: the operation, the block. -/
noncomputable def stNames (T : Fr) : List (Nat × Oper) → List Nat
  | [] => []
  | x :: r =>
    match x.2.op with
    | .store _ p _ => match asPtr (opd T p) with | some q => x.1 :: q.1 :: stNames T r | none => stNames T r
    | _ => stNames T r

noncomputable def evalRegion [Ctxt] (P : Program) (call : CallFn) (lim : Nat) (ops : Array Oper) (T : Fr) (M : Mem) : Option (Fr × Mem) :=
  cond (drawOK ops (closures ops.toList) (indexed 0 ops.toList)) (regionGo P call lim ops (closures ops.toList ++ [stNames T (indexed 0 ops.toList)]) T M) none

/-! ### Code -/
inductive Ex where
  | normal
  | exit (id : Nat)
  | ret

abbrev Ev1 := Fr → Mem → Option (Ex × Fr × Mem)

noncomputable def loopThen (k : Ev1) (r : Option (Ex × Fr × Mem)) : Option (Ex × Fr × Mem) :=
  match r with
  | some (.normal, T, M) => k T M
  | r => r

noncomputable def evalLoop (f : Ev1) (n : Nat) : Ev1 := Nat.rec (fun _ _ => none) (fun _ ih T M => loopThen ih (f T M)) n

noncomputable def evalRes (P : Program) (M : Mem) (T : Fr) : List ResultVar → Option (List CV)
  | [] => some []
  | .tmp t :: r => match evalRes P M T r with | some vs => some (T.get t :: vs) | none => none
  | .cell a ty :: r =>
    match T.get a with
    | .ptr i off =>
      match evalLoad P M ty i off with
      | none => none
      | some v => match evalRes P M T r with | some vs => some (v :: vs) | none => none
    | _ => none

noncomputable def oneOrTup : List CV → CV
  | [v] => v
  | l => mkTup l

mutual
/-- The names in a value. -/
noncomputable def namesOf : CV → List Nat
  | .clo _ => []
  | .sy _ => []
  | .ptr i _ => [i]
  | .sl i _ _ _ _ => [i]
  | .fn _ a b => namesOfL a ++ namesOfL b
  | .agg l => namesOfL l
  | .tup l => namesOfL l
noncomputable def namesOfL : List CV → List Nat
  | [] => []
  | v :: r => namesOf v ++ namesOfL r
end

noncomputable def reach (M : Mem) : Nat → List Nat → List Nat → List Nat
  | 0, _, acc => acc
  | _ + 1, [], acc => acc
  | n + 1, x :: r, acc =>
    cond (memN x acc) (reach M n r acc)
      (match M.at x with
      | none => reach M n r acc
      | some b => reach M n (namesOfL b.cs ++ r) (x :: acc))

noncomputable def oldNames (a : Nat) : List (Nat × Blk) → List Nat
  | [] => []
  | x :: r => cond (Nat.blt x.1 a) (namesOfL x.2.cs ++ oldNames a r) (oldNames a r)

/-- What a call leaves is kept only as far as something leads to it. -/
noncomputable def collect (a : Nat) (v : CV) (M : Mem) : Mem :=
  let keep := reach M 200 (namesOf v ++ (oldNames a M.l).filter fun k => Nat.ble a k) []
  M.keep fun k => Nat.blt k a || memN k keep

noncomputable def indexedFrom (i : Nat) : List CV → List (Nat × CV)
  | [] => []
  | v :: r => (i, v) :: indexedFrom (i + 1) r

noncomputable def mkFr (n : Nat) (args : List CV) : Fr := Nat.rec ⟨0, indexedFrom 0 args⟩ (fun m _ => ⟨Nat.succ m, indexedFrom 0 args⟩) n

noncomputable def fnEnd (P : Program) (fn : Func) (a : Nat) (T : Fr) (M : Mem) : Option (CV × Mem) :=
  match evalRes P M T fn.results.toList with
  | none => none
  | some vs => some (oneOrTup vs, collect a (oneOrTup vs) M)

noncomputable def fnPost (P : Program) (fn : Func) (a : Nat) (r : Option (Ex × Fr × Mem)) : Option (CV × Mem) :=
  match r with
  | some (.normal, T, M) => fnEnd P fn a T M
  | some (.ret, T, M) => fnEnd P fn a T M
  | _ => none

noncomputable def fnBody (P : Program) (self : Nat → Code → Ev1) (lim : Nat) (fn : Func) (args : List CV) (M : Mem) : Option (CV × Mem) :=
  match fn.body with
  | none => none
  | some c => fnPost P fn M.next (self lim c (mkFr (max fn.ntmps args.length) args) M)

noncomputable def evalFn0 (P : Program) (self : Nat → Code → Ev1) : CallFn := fun lim f args M =>
  match P.funcs[f]? with
  | none => none
  | some fn => fnBody P self lim fn args M

noncomputable def evalFn [Ctxt] (P : Program) (self : Nat → Code → Ev1) : CallFn := fun lim f args M =>
  match Ctxt.kc f args with
  | some v => some (v, M)
  | none => evalFn0 P self lim f args M

noncomputable def seqThen (k : Ev1) (r : Option (Ex × Fr × Mem)) : Option (Ex × Fr × Mem) :=
  match r with
  | some (.normal, T, M) => k T M
  | r => r
noncomputable def condGo (self : Nat → Code → Ev1) (lim : Nat) (a b : Code) (t : Option Bool) : Ev1 := fun T M =>
  match t with
  | some t => self lim (cond t a b) T M
  | none => none
noncomputable def blockEnd (id : Nat) (r : Option (Ex × Fr × Mem)) : Option (Ex × Fr × Mem) :=
  match r with
  | some (.exit j, T, M) => some (cond (Nat.beq j id) .normal (.exit j), T, M)
  | r => r
noncomputable def asNormal (r : Option (Fr × Mem)) : Option (Ex × Fr × Mem) :=
  match r with
  | some r => some (.normal, r)
  | none => none

noncomputable def stepC [Ctxt] (P : Program) (self : Nat → Code → Ev1) (lim : Nat) (c : Code) : Ev1 :=
  match c with
  | .skip => fun T M => some (.normal, T, M)
  | .label _ => fun T M => some (.normal, T, M)
  | .seq a b => fun T M => seqThen (self lim b) (self lim a T M)
  | .cond c a b => fun T M => condGo self lim a b (isTrueC (opd T c)) T M
  | .block id b => fun T M => blockEnd id (self lim b T M)
  | .loop b => evalLoop (self lim b) 100000
  | .exit id => fun T M => some (.exit id, T, M)
  | .ret => fun T M => some (.ret, T, M)
  | .region _ ops true => fun T M => asNormal (evalRegion P (evalFn P self) lim ops T M)
  | .region _ ops false => fun T M => asNormal (evalOps P (evalFn P self) lim ops ops.toList T M)
  | .scope b => self lim b
  | _ => fun _ _ => none

noncomputable def evalC [Ctxt] (P : Program) (n : Nat) : Nat → Code → Ev1 := Nat.rec (fun _ _ _ _ => none) (fun _ self => stepC P self) n

/-- A call in a memory that holds what is known of package variables. -/
noncomputable def evalBeside [Ctxt] (P : Program) (n : Nat) (f : FuncId) (args : List CV) (g : List (Nat × Blk)) : Option Value :=
  match evalFn0 P (evalC P n) Ctxt.pin f args ⟨Ctxt.pin, g⟩ with
  | some (.clo v, _) => some v
  | _ => none

end Go.Ev
