/- A closed call is worked out by a program of its own: regions, code, calls. -/
import Derived.Test.YtllnglofbhmcgaaGreatEvE
namespace Go.Ev

noncomputable def putC (T : Fr) (dst : Option Tmp) (v : CV) : Fr :=
  match dst with
  | some d => T.put d v
  | none => T

noncomputable def yieldC (ops : Array Oper) (T : Fr) (j : Nat) : Option Bool :=
  match (ops[j]?).bind (·.dst) with
  | none => none
  | some d => cond (Nat.blt d T.n) (isTrueC (T.get d)) none

noncomputable def opsPut (k : Fr → Mem → Option (Fr × Mem)) (T : Fr) (dst : Option Tmp) (r : Option (CV × Mem)) : Option (Fr × Mem) :=
  match r with
  | none => none
  | some r => k (putC T dst r.1) r.2

/-- A call of a loop's yield: the loop, the arguments. -/
noncomputable def yieldOf (T : Fr) (o : Oper) : Option (Nat × List Operand) :=
  match o.op with
  | .call c =>
    match c.callee with
    | .value f => match opd T f with | .yl l => some (l, c.args.toList) | _ => none
    | _ => none
  | _ => none
abbrev YldFn := Nat → Nat → List CV → Mem → Option (CV × Mem)
noncomputable def evalOpY [Ctxt] (P : Program) (call : CallFn) (yld : YldFn) (lim : Nat) (T : Fr) (M : Mem) (o : Oper) : Option (CV × Mem) :=
  match yieldOf T o with
  | some q => yld lim q.1 (q.2.map (opd T)) M
  | none => evalOp P call lim T M o

noncomputable def evalOps [Ctxt] (P : Program) (call : CallFn) (yld : YldFn) (lim : Nat) (ops : Array Oper) : List Oper → Fr → Mem → Option (Fr × Mem)
  | [], T, M => some (T, M)
  | o :: r, T, M =>
    cond (Region.wanted o (yieldC ops T)) (opsPut (evalOps P call yld lim ops r) T o.dst (evalOpY P call yld lim T M o)) (evalOps P call yld lim ops r (putC T o.dst (.clo undef)) M)

/-! ### A region that draws its order -/
abbrev Rec := CV × Nat × Nat

noncomputable def inIv (recs : List Rec) (k i : Nat) : Bool :=
  match recs[i]? with
  | some r => Nat.ble r.2.1 k && Nat.blt k r.2.2
  | none => false

noncomputable def maskI (a0 a : Nat) (recs : List Rec) (cl : List Nat) (k : Nat) : Bool := Nat.blt k a && (Nat.blt k a0 || cl.any (inIv recs k))

/-- Operations that look at no block. -/
noncomputable def noRead : Op → Bool
  | .move _ | .assign _ | .pick .. | .nilCheck _ | .makeFunc .. | .fieldAddr .. | .indexAddr .. | .extract .. | .binOp .. | .unOp .. | .build .. | .field .. | .index .. | .alloc _ | .box .. | .makeSlice .. | .buildSlice .. => true
  | .call { callee := .builtin .len, .. } => true
  | _ => false

noncomputable def memN (x : Nat) (l : List Nat) : Bool := l.any (Nat.beq x)

/-- The block is written by a store that this operation does not come before (the list: pairs of an operation and the block that it writes). -/
noncomputable def hid (cls : List (List Nat)) (i k : Nat) : List Nat → Bool
  | j :: nm :: r => (Nat.beq nm k && !memN i (cls.getD j [])) || hid cls i k r
  | _ => false
noncomputable def maskX (a0 a : Nat) (recs : List Rec) (cls : List (List Nat)) (i k : Nat) : Bool := maskI a0 a recs (cls.getD i []) k && !(hid cls i k (cls.getLastD []))

noncomputable def footM (op : Op) (a0 : Nat) (recs : List Rec) (cls : List (List Nat)) (i : Nat) (M : Mem) : Mem := cond (noRead op) ⟨M.next, []⟩ (M.keep (maskX a0 M.next recs cls i))

noncomputable def joinM (M M' : Mem) : Mem := ⟨M'.next, keepL (fun k => Nat.ble M.next k && Nat.blt k M'.next) M'.l ++ keepL (fun k => Nat.blt k M.next) M.l⟩

noncomputable def ons (o : Oper) : List Nat := o.after.toList.filterMap fun e => cond (Region.binds .any e) (some e.on) none

/-- The bits of those that come before: the listed ones and what comes before them. -/
noncomputable def maskOf (acc : List Nat) (l : List Nat) : Nat := List.rec (motive := fun _ => Nat) 0 (fun j _ m => Nat.lor m (Nat.lor (Nat.pow 2 j) (acc.getD j 0))) l

noncomputable def masks : List Oper → List Nat → List Nat
  | [], acc => acc
  | o :: r, acc => masks r (acc ++ [maskOf acc (ons o)])

noncomputable def bitOf (m j : Nat) : Bool := Nat.beq (Nat.land (Nat.shiftRight m j) 1) 1

noncomputable def closures (l : List Oper) : List (List Nat) := (masks l []).map fun m => (List.range l.length).filter (bitOf m)

/-- A store that waits: the operation's number, the type, the block, the place, the cells. -/
structure Sto where
  ix : Nat
  ty : TypeId
  nm : Nat
  off : Nat
  cs : List CV

abbrev DrawF := Fr → Mem → List Rec → List Sto → Option (Fr × Mem × List Rec × List Sto)

noncomputable def drawSkip (k : DrawF) (dst : Option Tmp) (T : Fr) (M : Mem) (recs : List Rec) (sts : List Sto) : Option (Fr × Mem × List Rec × List Sto) :=
  k (putC T dst (.clo undef)) M (recs ++ [(.clo undef, M.next, M.next)]) sts
noncomputable def drawStore (k : DrawF) (dst : Option Tmp) (t : TypeId) (x y : CV) (T : Fr) (M : Mem) (recs : List Rec) (sts : List Sto) : Option (Fr × Mem × List Rec × List Sto) :=
  match asPtr x with
  | some p => k (putC T dst (.clo undef)) M (recs ++ [(.clo undef, M.next, M.next)]) (sts ++ [⟨recs.length, t, p.1, p.2, y.cells⟩])
  | none => none
noncomputable def drawPut (k : DrawF) (dst : Option Tmp) (r : Option (CV × Mem)) (T : Fr) (M : Mem) (recs : List Rec) (sts : List Sto) : Option (Fr × Mem × List Rec × List Sto) :=
  match r with
  | none => none
  | some r => cond (Nat.ble M.next r.2.next) (k (putC T dst r.1) (joinM M r.2) (recs ++ [(r.1, M.next, r.2.next)]) sts) none
noncomputable def drawOp [Ctxt] (P : Program) (call : CallFn) (cls : List (List Nat)) (a0 : Nat) (k : DrawF) (o : Oper) (T : Fr) (M : Mem) (recs : List Rec) (sts : List Sto) : Option (Fr × Mem × List Rec × List Sto) :=
  match o.op with
  | .store t x y => drawStore k o.dst t (opd T x) (opd T y) T M recs sts
  | _ => drawPut k o.dst (evalOp P call M.next T (footM o.op a0 recs cls recs.length M) o) T M recs sts

noncomputable def evalDraw [Ctxt] (P : Program) (call : CallFn) (ops : Array Oper) (cls : List (List Nat)) (a0 : Nat) : List Oper → DrawF
  | [], T, M, recs, sts => some (T, M, recs, sts)
  | o :: r, T, M, recs, sts =>
    cond (Region.wanted o (yieldC ops T)) (drawOp P call cls a0 (evalDraw P call ops cls a0 r) o T M recs sts) (drawSkip (evalDraw P call ops cls a0 r) o.dst T M recs sts)

noncomputable def indexed (i : Nat) : List Oper → List (Nat × Oper)
  | [] => []
  | o :: r => (i, o) :: indexed (i + 1) r

/-- Two operations leave each other's temporaries alone. -/
noncomputable def dstOff (ops : Array Oper) (o o' : Oper) : Bool := match o'.dst with | none => true | some d => !memN d (o.looksAt ops)
noncomputable def dstNe (o o' : Oper) : Bool := match o.dst, o'.dst with | some d, some d' => !Nat.beq d d' | _, _ => true
noncomputable def apart2 (ops : Array Oper) (o o' : Oper) : Bool := dstOff ops o o' && dstOff ops o' o && dstNe o o'
/-- What an operation waits for comes before it; those that are not ordered leave each other's temporaries alone. -/
noncomputable def drawGo (ops : Array Oper) : Nat → List Oper → List Nat → List (Nat × Oper) → Bool
  | _, [], _, _ => true
  | _, _ :: _, [], _ => false
  | i, o :: r, m :: ms, acc => (ons o).all (fun j => Nat.blt j i) && acc.all (fun y => bitOf m y.1 || apart2 ops o y.2) && drawGo ops (i + 1) r ms ((i, o) :: acc)
noncomputable def drawOK (ops : Array Oper) : Bool := drawGo ops 0 ops.toList (masks ops.toList []) []

noncomputable def isStore : Op → Bool
  | .store .. => true
  | _ => false

noncomputable def spliceC (l : List CV) (off : Nat) (v : List CV) : List CV := l.take off ++ v ++ l.drop (off + v.length)

noncomputable def stTo (s : Sto) (M : Mem) : Mem :=
  match M.at s.nm with
  | none => M
  | some b => M.set s.nm ⟨spliceC b.cs s.off s.cs, b.ty, b.row⟩

noncomputable def stOK (P : Program) (lim : Nat) (M : Mem) (s : Sto) : Bool :=
  match M.at s.nm, P.info? s.ty with
  | some b, some inf => Nat.ble lim s.nm && Nat.beq s.cs.length inf.size && Nat.ble (s.off + s.cs.length) b.cs.length && s.cs.all oneCellC && rowOK b.row
  | _, _ => false

noncomputable def stApart (cls : List (List Nat)) (s t : Sto) : Bool :=
  Nat.beq s.ix t.ix || memN s.ix (cls.getD t.ix []) || memN t.ix (cls.getD s.ix []) || !Nat.beq s.nm t.nm || Nat.ble (s.off + s.cs.length) t.off || Nat.ble (t.off + t.cs.length) s.off

/-- The block of a store is there when the store comes. -/
noncomputable def stHere (a0 : Nat) (recs : List Rec) (cls : List (List Nat)) (s : Sto) : Bool := Nat.blt s.nm a0 || (cls.getD s.ix []).any (inIv recs s.nm)

noncomputable def stAll : List Sto → Mem → Mem
  | [], M => M
  | s :: r, M => stAll r (stTo s M)

noncomputable def maskAll (a0 : Nat) (recs : List Rec) (k : Nat) : Bool := Nat.blt k a0 || (List.range recs.length).any (inIv recs k)

/-- Whoever may look at a block that a store writes comes before the store. -/
noncomputable def lateOK (a0 : Nat) (cls : List (List Nat)) (recs : List Rec) (s : Sto) (y : Nat × Oper) : Bool :=
  noRead y.2.op || isStore y.2.op || memN y.1 (cls.getD s.ix []) ||
    (match recs[y.1]? with
    | some r => !maskX a0 r.2.1 recs cls y.1 s.nm
    | none => false)

noncomputable def stGood (P : Program) (lim a0 : Nat) (cls : List (List Nat)) (l : List (Nat × Oper)) (MA : Mem) (recs : List Rec) (sts : List Sto) (s : Sto) : Bool :=
  stOK P lim MA s && stHere a0 recs cls s && sts.all (stApart cls s) && l.all (lateOK a0 cls recs s)

noncomputable def regionEnd (P : Program) (lim a0 : Nat) (cls : List (List Nat)) (l : List (Nat × Oper)) (r : Fr × Mem × List Rec × List Sto) : Option (Fr × Mem) :=
  cond (r.2.2.2.all (stGood P lim a0 cls l (r.2.1.keep (maskAll a0 r.2.2.1)) r.2.2.1 r.2.2.2)) (some (r.1, stAll r.2.2.2 (r.2.1.keep (maskAll a0 r.2.2.1)))) none

noncomputable def regionGo [Ctxt] (P : Program) (call : CallFn) (lim : Nat) (ops : Array Oper) (cls : List (List Nat)) (T : Fr) (M : Mem) : Option (Fr × Mem) :=
  match evalDraw P call ops cls M.next ops.toList T M [] [] with
  | none => none
  | some r => regionEnd P lim M.next cls (indexed 0 ops.toList) r

/-- The block that an address is in: of a field of a block, or known before. -/
noncomputable def nmOf (T : Fr) (p : Operand) : List Nat → Option Nat
  | d :: nm :: r => match p with | .tmp t => cond (Nat.beq t d) (some nm) (nmOf T p r) | _ => nmOf T p r
  | _ => match asPtr (opd T p) with | some q => some q.1 | none => none
/-- The stores into blocks that are there when the region begins: the operation, the block. -/
noncomputable def stNamesE (T : Fr) : List Nat → List (Nat × Oper) → List Nat
  | _, [] => []
  | env, x :: r =>
    match x.2.op with
    | .store _ p _ => match nmOf T p env with | some q => x.1 :: q :: stNamesE T env r | none => stNamesE T env r
    | .fieldAddr _ p _ => match x.2.dst, nmOf T p env with | some d, some q => stNamesE T (d :: q :: env) r | _, _ => stNamesE T env r
    | _ => stNamesE T env r
noncomputable def stNames (T : Fr) (l : List (Nat × Oper)) : List Nat := stNamesE T [] l

/-! ### A region whose operations stand in a chain, but for those that only look -/
/-- 0: looks at no block and makes none; 1: only looks; 2: only makes a block; 4: calls; 5: stores; 3: any other. -/
noncomputable def opClass : Op → Nat
  | .move _ | .assign _ | .pick .. | .nilCheck _ | .makeFunc .. | .fieldAddr .. | .indexAddr .. | .extract .. | .binOp .. | .unOp .. | .build .. | .field .. | .index .. => 0
  | .call { callee := .builtin .len, .. } => 0
  | .call { callee := .value _, .. } => 4
  | .load .. | .slice .. | .lookup .. => 1
  | .alloc _ | .box .. | .makeSlice .. | .buildSlice .. | .makeMap .. | .range .. => 2
  | .store .. => 5
  | _ => 3
/-- Number, class, what comes before. -/
noncomputable def rawI : Nat → List Oper → List Nat → List (Nat × Nat × Nat)
  | i, o :: r, m :: ms => (i, opClass o.op, m) :: rawI (i + 1) r ms
  | _, _, _ => []
noncomputable def unord (x y : Nat × Nat × Nat) : Bool := !Nat.beq x.1 y.1 && !bitOf x.2.2 y.1 && !bitOf y.2.2 x.1
/-- Everything that touches memory and is no store comes before. -/
noncomputable def lastS (l : List (Nat × Nat × Nat)) (x : Nat × Nat × Nat) : Bool := l.all fun y => Nat.beq y.2.1 0 || Nat.beq y.2.1 5 || bitOf x.2.2 y.1
/-- A call beside which something only looks may only make blocks; a store waits if it may come last. -/
noncomputable def refineI (l : List (Nat × Nat × Nat)) (x : Nat × Nat × Nat) : Nat × Nat × Nat :=
  (x.1, cond (Nat.beq x.2.1 4) (cond (l.any fun y => Nat.beq y.2.1 1 && unord x y) 2 3) (cond (Nat.beq x.2.1 5) (cond (lastS l x && l.any fun y => Nat.beq y.2.1 5 && !Nat.beq y.1 x.1) 5 3) x.2.1), x.2.2)
/-- Number, class, what comes before, whether something makes blocks beside it. -/
abbrev Inf := Nat × Nat × Nat × Bool
noncomputable def flagI (l : List (Nat × Nat × Nat)) (x : Nat × Nat × Nat) : Inf := (x.1, x.2.1, x.2.2, cond (Nat.beq x.2.1 1) (l.any fun y => Nat.beq y.2.1 2 && unord x y) false)
noncomputable def flags (l : List (Nat × Nat × Nat)) : List Inf := l.map (flagI l)
noncomputable def refines (l : List (Nat × Nat × Nat)) : List (Nat × Nat × Nat) := l.map (refineI l)
noncomputable def infos (l : List Oper) : List Inf := flags (refines (rawI 0 l (masks l [])))
noncomputable def pairOK (x y : Inf) : Bool := cond (Nat.beq y.2.1 5) (Nat.beq x.2.1 5) (Nat.ble (x.2.1 + y.2.1) 3 || bitOf x.2.2.1 y.1)
noncomputable def chainGo : List Inf → List Inf → Bool
  | [], _ => true
  | x :: r, acc => cond (Nat.beq x.2.1 0) (chainGo r acc) (acc.all (pairOK x) && chainGo r (x :: acc))
noncomputable def hidA (m k : Nat) (x : Nat × Nat × Nat) : Bool := Nat.ble x.2.1 k && Nat.blt k x.2.2 && !bitOf m x.1
noncomputable def readMem (q : Inf) (as : List (Nat × Nat × Nat)) (M : Mem) : Mem := cond q.2.2.2 (M.keep fun k => Nat.blt k M.next && !(as.any (hidA q.2.2.1 k))) M
noncomputable def keepMem (M : Mem) (r : Option (CV × Mem)) : Option (CV × Mem) :=
  match r with
  | none => none
  | some r => cond (Nat.beq r.2.next M.next) (some (r.1, M)) none
noncomputable def joinMem (M : Mem) (r : Option (CV × Mem)) : Option (CV × Mem) :=
  match r with
  | none => none
  | some r => cond (Nat.ble M.next r.2.next) (some (r.1, joinM M r.2)) none
noncomputable def chainOp [Ctxt] (P : Program) (call : CallFn) (yld : YldFn) (lim : Nat) (q : Inf) (as : List (Nat × Nat × Nat)) (T : Fr) (M : Mem) (o : Oper) : Option (CV × Mem) :=
  match q.2.1 with
  | 0 => keepMem M (evalOp P call M.next T ⟨M.next, []⟩ o)
  | 1 => keepMem M (evalOp P call M.next T (readMem q as M) o)
  | 2 => joinMem M (evalOp P call M.next T M o)
  | _ => evalOpY P call yld lim T M o
noncomputable def putAs (q : Inf) (a b : Nat) (as : List (Nat × Nat × Nat)) : List (Nat × Nat × Nat) := cond (Nat.beq q.2.1 2) ((q.1, a, b) :: as) as
noncomputable def finSto (q : Inf) (T : Fr) (o : Oper) : Option Sto :=
  match o.op with
  | .store t x y => match asPtr (opd T x) with | some p => some ⟨q.1, t, p.1, p.2, (opd T y).cells⟩ | none => none
  | _ => none
abbrev ChainR := Option (Fr × Mem × List Sto)
noncomputable def stoThen (k : Sto → ChainR) (r : Option Sto) : ChainR := match r with | some s => k s | none => none
noncomputable def putThen (k : CV → Mem → ChainR) (r : Option (CV × Mem)) : ChainR := match r with | some r => k r.1 r.2 | none => none
noncomputable def evalChain [Ctxt] (P : Program) (call : CallFn) (yld : YldFn) (lim : Nat) (ops : Array Oper) : List Oper → List Inf → List (Nat × Nat × Nat) → Fr → Mem → List Sto → ChainR
  | [], _, _, T, M, sts => some (T, M, sts)
  | _ :: _, [], _, _, _, _ => none
  | o :: r, q :: qs, as, T, M, sts =>
    cond (Region.wanted o (yieldC ops T))
      (cond (Nat.beq q.2.1 5) (stoThen (fun s => evalChain P call yld lim ops r qs as (putC T o.dst (.clo undef)) M (sts ++ [s])) (finSto q T o))
        (putThen (fun v M' => evalChain P call yld lim ops r qs (putAs q M.next M'.next as) (putC T o.dst v) M' sts) (chainOp P call yld lim q as T M o)))
      (evalChain P call yld lim ops r qs as (putC T o.dst (.clo undef)) M sts)
noncomputable def stoApart (s t : Sto) : Bool := Nat.beq s.ix t.ix || !Nat.beq s.nm t.nm || Nat.ble (s.off + s.cs.length) t.off || Nat.ble (t.off + t.cs.length) s.off
noncomputable def chainEnd (P : Program) (lim : Nat) (r : ChainR) : Option (Fr × Mem) :=
  match r with
  | some r => cond (r.2.2.all fun s => stOK P lim r.2.1 s && r.2.2.all (stoApart s)) (some (r.1, stAll r.2.2 r.2.1)) none
  | none => none

noncomputable def regionBy [Ctxt] (P : Program) (call : CallFn) (yld : YldFn) (lim : Nat) (ops : Array Oper) (qs : List Inf) (T : Fr) (M : Mem) : Option (Fr × Mem) :=
  cond (chainGo qs []) (chainEnd P lim (evalChain P call yld lim ops ops.toList qs [] T M [])) (regionGo P call lim ops (closures ops.toList ++ [stNames T (indexed 0 ops.toList)]) T M)
noncomputable def evalRegion [Ctxt] (P : Program) (call : CallFn) (yld : YldFn) (lim : Nat) (ops : Array Oper) (T : Fr) (M : Mem) : Option (Fr × Mem) :=
  cond (drawOK ops) (regionBy P call yld lim ops (infos ops.toList) T M) none

/-! ### Code -/
inductive Ex where
  | normal
  | exit (id : Nat)
  | ret

abbrev Ev1 := Fr → Mem → Option (Ex × Fr × Mem)

noncomputable def loopThen (k : Ev1) (r : Option (Ex × Fr × Mem)) : Option (Ex × Fr × Mem) :=
  match r with
  | some (.normal, T, M) => k T M
  | r => r

noncomputable def evalLoop (f : Ev1) (n : Nat) : Ev1 := Nat.rec (fun _ _ => none) (fun _ ih T M => loopThen ih (f T M)) n

noncomputable def evalRes (P : Program) (M : Mem) (T : Fr) : List ResultVar → Option (List CV)
  | [] => some []
  | .tmp t :: r => match evalRes P M T r with | some vs => some (T.get t :: vs) | none => none
  | .cell a ty :: r =>
    match T.get a with
    | .ptr i off =>
      match evalLoad P M ty i off with
      | none => none
      | some v => match evalRes P M T r with | some vs => some (v :: vs) | none => none
    | _ => none

noncomputable def oneOrTup : List CV → CV
  | [v] => v
  | l => mkTup l

mutual
/-- The names in a value. -/
noncomputable def namesOf : CV → List Nat
  | .clo _ => []
  | .sy _ => []
  | .yl i => [i]
  | .lp _ _ tmps _ _ _ d => d :: namesOfL tmps
  | .df => []
  | .mp i => [i]
  | .mo ks vs => namesOfL ks ++ namesOfL vs
  | .si .. => []
  | .as i _ => [i]
  | .pa i k _ _ => i :: namesOf k
  | .ab .. => []
  | .ptr i _ => [i]
  | .sl i _ _ _ _ => [i]
  | .fn _ a b => namesOfL a ++ namesOfL b
  | .agg l => namesOfL l
  | .tup l => namesOfL l
noncomputable def namesOfL : List CV → List Nat
  | [] => []
  | v :: r => namesOf v ++ namesOfL r
end

noncomputable def reach (M : Mem) : Nat → List Nat → List Nat → List Nat
  | 0, _, acc => acc
  | _ + 1, [], acc => acc
  | n + 1, x :: r, acc =>
    cond (memN x acc) (reach M n r acc)
      (match M.at x with
      | none => reach M n r acc
      | some b => reach M n (namesOfL b.cs ++ r) (x :: acc))

noncomputable def oldNames (a : Nat) : List (Nat × Blk) → List Nat
  | [] => []
  | x :: r => cond (Nat.blt x.1 a) (namesOfL x.2.cs ++ oldNames a r) (oldNames a r)

/-- What a call leaves is kept only as far as something leads to it. -/
noncomputable def collect (a : Nat) (v : CV) (M : Mem) : Mem :=
  let keep := reach M 200 (namesOf v ++ (oldNames a M.l).filter fun k => Nat.ble a k) []
  M.keep fun k => Nat.blt k a || memN k keep

noncomputable def indexedFrom (i : Nat) : List CV → List (Nat × CV)
  | [] => []
  | v :: r => (i, v) :: indexedFrom (i + 1) r

noncomputable def mkFr (n : Nat) (args : List CV) : Fr := Nat.rec ⟨0, indexedFrom 0 args, []⟩ (fun m _ => ⟨Nat.succ m, indexedFrom 0 args, []⟩) n

/-- The marks' blocks are there, each once. -/
noncomputable def marksOK (a : Nat) (M : Mem) : List Nat → Bool
  | [] => true
  | i :: r => Nat.ble a i && !memN i r && (match M.at i with | some ⟨[.df], _, _⟩ => true | _ => false) && marksOK a M r
noncomputable def dropAll : List Nat → Mem → Mem
  | [], M => M
  | i :: r, M => dropAll r (M.keep fun k => !Nat.beq k i)
noncomputable def fnEnd (P : Program) (fn : Func) (a : Nat) (T : Fr) (M : Mem) : Option (CV × Mem) :=
  cond (marksOK a M T.ms)
    (match evalRes P (dropAll T.ms M) T fn.results.toList with
    | none => none
    | some vs => some (oneOrTup vs, collect a (oneOrTup vs) (dropAll T.ms M))) none

noncomputable def fnPost (P : Program) (fn : Func) (a : Nat) (r : Option (Ex × Fr × Mem)) : Option (CV × Mem) :=
  match r with
  | some (.normal, T, M) => fnEnd P fn a T M
  | some (.ret, T, M) => fnEnd P fn a T M
  | _ => none

noncomputable def fnBody (P : Program) (self : Nat → Code → Ev1) (lim : Nat) (fn : Func) (args : List CV) (M : Mem) : Option (CV × Mem) :=
  match fn.body with
  | none => none
  | some c => fnPost P fn M.next (self lim c (mkFr (max fn.ntmps args.length) args) M)

noncomputable def evalFn0 (P : Program) (self : Nat → Code → Ev1) : CallFn := fun lim f args M =>
  match P.funcs[f]? with
  | none => none
  | some fn => fnBody P self lim fn args M

mutual
/-- A value with the lists in its place of the names of their blocks. -/
noncomputable def lab (M : Mem) : CV → CV
  | .as i n => match abAt M i with | some q => .mo [.ab q.1 q.2.1 q.2.2] [.sy n] | none => .as i n
  | .agg l => .agg (labL M l)
  | x => x
noncomputable def labL (M : Mem) : List CV → List CV
  | [] => []
  | x :: r => lab M x :: labL M r
end
def pushAb : List (Tm × TypeId × Nat) → Mem → Mem
  | [], M => M
  | b :: r, M => pushAb r (M.push ⟨[.ab b.1 b.2.1 b.2.2], 0, some 0⟩)
noncomputable def evalFn [Ctxt] (P : Program) (self : Nat → Code → Ev1) : CallFn := fun lim f args M =>
  match Ctxt.kc f args with
  | some v => some (v, M)
  | none =>
  match Ctxt.ab.cl f (labL M args) M.next with
  | some r => some (r.1, pushAb r.2 M)
  | none => evalFn0 P self lim f args M

noncomputable def seqThen (k : Ev1) (r : Option (Ex × Fr × Mem)) : Option (Ex × Fr × Mem) :=
  match r with
  | some (.normal, T, M) => k T M
  | r => r
noncomputable def condGo (self : Nat → Code → Ev1) (lim : Nat) (a b : Code) (t : Option Bool) : Ev1 := fun T M =>
  match t with
  | some t => self lim (cond t a b) T M
  | none => none
noncomputable def blockEnd (id : Nat) (r : Option (Ex × Fr × Mem)) : Option (Ex × Fr × Mem) :=
  match r with
  | some (.exit j, T, M) => some (cond (Nat.beq j id) .normal (.exit j), T, M)
  | r => r
noncomputable def asNormal (r : Option (Fr × Mem)) : Option (Ex × Fr × Mem) :=
  match r with
  | some r => some (.normal, r)
  | none => none

noncomputable def lpBlk (ty : TypeId) (st : LoopState) (pend : Option Code) (tmps : List CV) (ps : Array Tmp) (assign body : Code) (d : Nat) : Blk := ⟨[.lp st pend tmps ps assign body d], ty, some 0⟩

noncomputable def putAll (T : Fr) : List (Nat × CV) → Fr
  | [] => T
  | x :: r => putAll (T.put x.1 x.2) r

/-- The end of a round: what yield hands back, the pending jump. -/
noncomputable def jumpOf : Ex → Option Code
  | .normal => none
  | .ret => some .ret
  | .exit id => some (.exit id)

noncomputable def endRound (l : Nat) (r : Option (Ex × Fr × Mem)) : Option (CV × Mem) :=
  match r with
  | some (ex, _, M) =>
    match M.at l with
    | some ⟨[.lp _ _ tmps ps assign body d], ty, some 0⟩ =>
      some (.clo (.bool (jumpOf ex).isNone), M.set l (lpBlk ty (match jumpOf ex with | none => .ready | some _ => .done) (jumpOf ex) tmps ps assign body d))
    | _ => none
  | none => none

noncomputable def evalYield (self : Nat → Code → Ev1) (lim l : Nat) (args : List CV) (M : Mem) : Option (CV × Mem) :=
  cond (Nat.ble lim l)
    (match M.at l with
    | some ⟨[.lp .ready _ tmps ps assign body _], _, some 0⟩ =>
      cond (Nat.beq args.length ps.size)
        (match self lim assign (putAll (mkFr tmps.length tmps) (ps.toList.zip args)) M with
        | some (.normal, T1, M1) =>
          match M1.at l with
          | some ⟨[.lp .ready p2 t2 ps2 a2 b2 d2], ty2, some 0⟩ => endRound l (self lim body T1 (M1.set l (lpBlk ty2 .busy p2 t2 ps2 a2 b2 d2)))
          | _ => none
        | _ => none) none
    | _ => none) none

/-- A range over a function. -/
noncomputable def rangeEnd (pend : Option Code) (T : Fr) (M : Mem) : Option (Ex × Fr × Mem) :=
  match pend with
  | none => some (.normal, T, M)
  | some .ret => some (.ret, T, M)
  | some (.exit id) => some (.exit id, T, M)
  | _ => none
def idle : LoopState → Bool
  | .busy => false
  | _ => true
noncomputable def rangeOut (l : Nat) (T : Fr) (r : Option (CV × Mem)) : Option (Ex × Fr × Mem) :=
  match r with
  | some (_, M) =>
    match M.at l with
    | some ⟨[.lp st pend tmps ps assign body d], ty, some 0⟩ => cond (idle st) (rangeEnd pend T (M.set l (lpBlk ty .exhausted pend tmps ps assign body d))) none
    | _ => none
  | none => none
noncomputable def enterM (T : Fr) (ps : Array Tmp) (assign body : Code) (M : Mem) : Mem :=
  (M.push ⟨[.df], 0, some 0⟩).push (lpBlk 0 .ready none ((List.range T.n).map T.get) ps assign body M.next)
noncomputable def rangeGo (P : Program) (call : CallFn) (lim : Nat) (g : Operand) (ps : Array Tmp) (assign body : Code) : Ev1 := fun T M =>
  match callee (opd T g) with
  | none => none
  | some (fid, a, b) =>
    match P.funcs[fid]? with
    | none => none
    | some fn => cond (fn.name == "runtime.NumGoroutine" || fn.body.isNone) none (rangeOut (M.next + 1) ⟨T.n, T.l, M.next :: T.ms⟩ (call lim fid (a ++ [.yl (M.next + 1)] ++ b) (enterM T ps assign body M)))

noncomputable def stepC [Ctxt] (P : Program) (rf : Bool) (self : Bool → Nat → Code → Ev1) (lim : Nat) (c : Code) : Ev1 :=
  match c with
  | .skip => fun T M => some (.normal, T, M)
  | .label _ => fun T M => some (.normal, T, M)
  | .seq a b => fun T M => seqThen (self rf lim b) (self rf lim a T M)
  | .cond c a b => fun T M => condGo (self rf) lim a b (isTrueC (opd T c)) T M
  | .block id b => fun T M => blockEnd id (self rf lim b T M)
  | .loop b => evalLoop (self rf lim b) 100000
  | .exit id => fun T M => some (.exit id, T, M)
  | .ret => fun T M => some (.ret, T, M)
  | .region _ ops true => fun T M => asNormal (evalRegion P (evalFn P (self true)) (evalYield (self false)) lim ops T M)
  | .region _ ops false => fun T M => asNormal (evalOps P (evalFn P (self true)) (evalYield (self false)) lim ops ops.toList T M)
  | .scope b => self rf lim b
  | .rangeFunc g ps assign body => cond rf (rangeGo P (evalFn P (self true)) lim g ps assign body) fun _ _ => none
  | _ => fun _ _ => none

noncomputable def evalC [Ctxt] (P : Program) (n : Nat) : Bool → Nat → Code → Ev1 := Nat.rec (fun _ _ _ _ _ => none) (fun _ self rf => stepC P rf self) n

/-- A call in a memory that holds what is known of package variables. -/
noncomputable def evalBeside [Ctxt] (P : Program) (n : Nat) (f : FuncId) (args : List CV) (g : List (Nat × Blk)) : Option Value :=
  match evalFn0 P (evalC P n true) Ctxt.pin f args ⟨Ctxt.pin, g⟩ with
  | some (.clo v, _) => some v
  | _ => none

end Go.Ev
