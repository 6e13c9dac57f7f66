/- A closed call is worked out by a program of its own: the operations. -/
import Derived.Test.YtllnglofbhmcgaaGreatEvA
import Derived.Laws.CopyRow
namespace Go.Ev

def isClo : CV → Bool
  | .clo _ => true
  | _ => false
def CV.val : CV → Value
  | .clo v => v
  | _ => undef

theorem isClo_den [Ctxt] {e : Env} {c : CV} {v : Value} (h : isClo c = true) (hd : den e c = some v) : c.val = v := by
  cases c <;> simp [isClo] at h
  simpa [den, CV.val] using hd

/-! ### A frame's temporaries: the last value of each stands first -/
noncomputable def lookF (l : List (Nat × CV)) (i : Nat) : CV := List.rec (.clo undef) (fun x _ ih => Bool.rec ih x.2 (Nat.beq x.1 i)) l

structure Fr where
  n : Nat
  l : List (Nat × CV)
  ms : List Nat

noncomputable def Fr.get (T : Fr) (i : Nat) : CV := lookF T.l i
def Fr.put (T : Fr) (d : Nat) (v : CV) : Fr := match T with | ⟨n, l, ms⟩ => cond (Nat.blt d n) ⟨n, (d, v) :: l, ms⟩ ⟨n, l, ms⟩

theorem lookF_cons [Ctxt] (x : Nat × CV) (l : List (Nat × CV)) (i : Nat) : lookF (x :: l) i = if x.1 = i then x.2 else lookF l i := by
  rcases beq_cases x.1 i with ⟨h, e⟩ | ⟨h, e⟩
  · rw [if_pos e]; simp only [lookF, h]
  · rw [if_neg e]; simp only [lookF, h]

theorem blt_cases (a b : Nat) : (Nat.blt a b = true ∧ a < b) ∨ (Nat.blt a b = false ∧ b ≤ a) := by
  cases h : Nat.blt a b with
  | true => exact .inl ⟨rfl, Nat.le_of_ble_eq_true h⟩
  | false =>
    refine .inr ⟨rfl, ?_⟩
    rcases Nat.lt_or_ge a b with h' | h'
    · have : Nat.blt a b = true := Nat.ble_eq_true_of_le h'
      rw [this] at h; cases h
    · exact h'

theorem Fr.get_put [Ctxt] (T : Fr) (d : Nat) (v : CV) (i : Nat) : (T.put d v).get i = if d = i ∧ d < T.n then v else T.get i := by
  obtain ⟨n, l, ms⟩ := T
  simp only [Fr.put]
  rcases blt_cases d n with ⟨h, e⟩ | ⟨h, e⟩
  · rw [h]; simp only [cond_true, Fr.get, lookF_cons, e, and_true]
  · rw [h, if_neg (by omega)]; rfl

theorem Fr.put_ms (T : Fr) (d : Nat) (v : CV) : (T.put d v).ms = T.ms := by
  obtain ⟨n, l, ms⟩ := T
  simp only [Fr.put]
  cases Nat.blt d n <;> rfl

/-- The mark of a block for deferred calls. -/
def markOf (p : Nat × Nat) : Deferred := { target := .collected p.1, args := #[] }
def DFs (e : Env) : List Nat → List Deferred → Prop
  | [], ds => ds = []
  | i :: r, ds => ∃ p ds', e i = some p ∧ ds = markOf p :: ds' ∧ DFs e r ds'
theorem DFs.mono {e e' : Env} (he : Env.le e e') : ∀ {l : List Nat} {ds : List Deferred}, DFs e l ds → DFs e' l ds
  | [], _, h => h
  | _ :: _, _, ⟨p, ds', h1, h2, h3⟩ => ⟨p, ds', he _ _ h1, h2, h3.mono he⟩
/-- The activation's deferred calls are the frame's marks. -/
def DF (e : Env) (T : Fr) (a : Act) : Prop := DFs e T.ms a.defers
theorem DF.mono {e e' : Env} {T : Fr} {a : Act} (h : DF e T a) (he : Env.le e e') : DF e' T a := DFs.mono he h

theorem Fr.put_n (T : Fr) (d : Nat) (v : CV) : (T.put d v).n = T.n := by
  obtain ⟨n, l, ms⟩ := T
  simp only [Fr.put]
  cases Nat.blt d n <;> rfl

/-- The frame as it is in the model. -/
structure DT [Ctxt] (e : Env) (T : Fr) (a : Act) : Prop where
  n : T.n = a.tmps.size
  get : ∀ i, den e (T.get i) = some (a.tmps.getD i undef)

theorem DT.mono [Ctxt] {e e' : Env} {T : Fr} {a : Act} (h : DT e T a) (he : Env.le e e') : DT e' T a := ⟨h.n, fun i => den_mono he _ _ (h.get i)⟩

theorem DT.put [Ctxt] {e : Env} {T : Fr} {a : Act} (h : DT e T a) {v : CV} {u : Value} (hv : den e v = some u) (d : Nat) : DT e (T.put d v) (a.put (some d) u) := by
  refine ⟨by rw [Fr.put_n]; simp [Act.put, h.n], fun i => ?_⟩
  rw [Fr.get_put]
  simp only [Act.put, Array.getD_eq_getD_getElem?]
  split
  · rename_i hd
    obtain ⟨rfl, hd⟩ := hd
    rw [h.n] at hd
    rw [Array.getElem?_setIfInBounds_self_of_lt hd]
    exact hv
  · rename_i hd
    have := h.get i
    rw [Array.getD_eq_getD_getElem?] at this
    rw [this]
    congr 2
    by_cases hdi : d = i
    · subst hdi
      have : ¬ d < a.tmps.size := fun h' => hd ⟨rfl, by rw [h.n]; exact h'⟩
      rw [Array.getElem?_setIfInBounds_self, if_neg this, Array.getElem?_eq_none (by omega)]
    · rw [Array.getElem?_setIfInBounds_ne hdi]

noncomputable def opd (T : Fr) : Operand → CV
  | .tmp t => T.get t
  | .const v => .clo v
  | .global g => .clo (.pointer (some ⟨g, 0, none⟩))
  | .func f => .clo (.func (.func f) #[] #[])

theorem den_opd [Ctxt] {e : Env} {T : Fr} {a : Act} (hT : DT e T a) (x : Operand) : den e (opd T x) = some (a.eval x) := by
  cases x with
  | const v => rfl
  | global g => rfl
  | func f => rfl
  | tmp t => exact hT.get t

/-- What a computation yields that asks nothing of the world. -/
def pureRun (P : Program) {α : Type} : Sem α → Option α
  | .pure a => some a
  | .program k => pureRun P (k P)
  | .mark _ k => pureRun P k
  | _ => none

theorem pureRun_run {P : Program} {α : Type} : ∀ (s : Sem α) {x : α}, pureRun P s = some x → ∀ w, s.run P w = .ok x w := by
  intro s
  induction s with
  | pure a => intro x h w; simp [pureRun] at h; subst h; rfl
  | program k ih => intro x h w; exact ih P (by simpa [pureRun] using h) w
  | mark m k ih => intro x h w; exact ih (by simpa [pureRun] using h) w
  | _ => intro x h; simp [pureRun] at h

def noSel : Op → Bool
  | .select _ _ => false
  | _ => true

noncomputable def evalPure (P : Program) (T : Fr) (o : Oper) : Option Value :=
  cond (noSel o.op && o.op.operands.toList.all fun x => isClo (opd T x))
    (match pureRun P (execOp (fun x => (opd T x).val) o) with
    | some (.value v) => some v
    | _ => none) none

/-- The fence: everything is let in; the round that the activation is in. -/
abbrev FW (ro : Option Nat) : Fence := { Fence.wide with round := ro }
theorem callsIn_FW {ro : Option Nat} {n : Nat} {P : Program} {f : FuncId} {args : Array Value} {w : World} {R : Ending → World → Prop} : CallsIn (FW ro) n P f args w R ↔ Calls P f args w R := callsIn_wide
theorem semAt_of {P : Program} {ro : Option Nat} {o : Oper} {ρ : Operand → Value} {w w' : World} {r : Next} (h : (execOp ρ o).run P w = .ok r w') (hr : ∀ d, r ≠ .defer d) : o.semAt ro ρ = execOp ρ o := by
  refine Oper.semAt_eq ro ρ o (fun c hc => ?_)
  have e : execOp ρ o = (do pure (.defer (← resolve ρ c o.type))) := by unfold execOp; rw [hc]
  rw [e, Sem.run_bind] at h
  cases hres : (resolve ρ c o.type).run P w with
  | ok d w1 =>
    rw [hres] at h
    simp [Result.andThen] at h
    exact hr d h.1.symm
  | halt x w1 => rw [hres] at h; simp [Result.andThen] at h

/-- What an operation must do. -/
def OpOK [Ctxt] (P : Program) (o : Oper) (lim : Nat) (e : Env) (M : Mem) (w : World) (a : Act) (v : CV) (M' : Mem) : Prop :=
  ∀ (ro : Option Nat) (n : Nat) (K : Act → World → Prop) (Q : Exit → Act → World → Prop), (∀ e' w' u, den e' v = some u → Post lim e M w e' M' w' → K (a.put o.dst u) w') → o.wpIn (FW ro) n P a w K Q

theorem OpOK.of_run [Ctxt] {P : Program} {o : Oper} {lim : Nat} {e e' : Env} {M M' : Mem} {w w' : World} {a : Act} {v : CV} {u : Value}
    (hr : (execOp a.eval o).run P w = .ok (.value u) w') (hv : den e' v = some u) (hp : Post lim e M w e' M' w') : OpOK P o lim e M w a v M' :=
  fun ro n K Q h => ⟨fun _ _ => trivial, by show o.uponIn _ _ _ _ _ _ ((o.semAt ro a.eval).run P w); rw [semAt_of hr (fun _ h => by cases h), hr]; exact h e' w' u hv hp⟩

theorem OpOK.of_skip [Ctxt] {P : Program} {o : Oper} {lim : Nat} {e e' : Env} {M M' : Mem} {w w' : World} {a : Act}
    (hr : (execOp a.eval o).run P w = .ok .skip w') (hp : Post lim e M w e' M' w') : OpOK P o lim e M w a (.clo undef) M' :=
  fun ro n K Q h => ⟨fun _ _ => trivial, by show o.uponIn _ _ _ _ _ _ ((o.semAt ro a.eval).run P w); rw [semAt_of hr (fun _ h => by cases h), hr]; exact h e' w' undef rfl hp⟩

theorem evalPure_ok [Ctxt] {P : Program} {T : Fr} {o : Oper} {v : Value} (h : evalPure P T o = some v) {lim : Nat} {e : Env} {M : Mem} {w : World} {a : Act}
    (hT : DT e T a) (hR : Rep e M w) : OpOK P o lim e M w a (.clo v) M := by
  unfold evalPure at h
  cases hc : (noSel o.op && o.op.operands.toList.all fun x => isClo (opd T x)) with
  | false => rw [hc] at h; cases h
  | true =>
    rw [hc] at h
    simp only [cond_true] at h
    simp only [Bool.and_eq_true, List.all_eq_true] at hc
    have he : execOp a.eval o = execOp (fun x => (opd T x).val) o := execOp_congr o (fun cs b hs => by rw [hs] at hc; simp [noSel] at hc) (fun x hx => (isClo_den (hc.2 x (by simpa using hx)) (den_opd hT x)).symm)
    split at h
    · rename_i u hu
      simp at h; subst h
      exact .of_run (by rw [he]; exact pureRun_run _ hu w) rfl (.refl hR)
    · cases h

/-! ### Cells of a block -/
theorem RepC.cells [Ctxt] {e : Env} {b : Blk} {p : Nat × Nat} {w : World} (h : RepC e b p w) :
    ∃ c vs fz, w.heap[p.1]? = some (.cells c b.ty fz) ∧ denL e b.cs = some vs ∧ c.toList.take vs.length = vs ∧ vs.length ≤ c.size ∧
      (∀ k, k < vs.length → w.cell? ⟨p.1, k, none⟩ = vs[k]?) ∧ (b.row = some 0 ∨ fz = (0, 0)) ∧
      (match b.row with
      | none => c.size = vs.length
      | some z => z ≠ 0 → c.size = p.2 * z ∧ p.2 ≤ maxLen) := by
  obtain ⟨c, vs, fz, h1, h2, h3, hz, h4⟩ := h
  have hlen : vs.length ≤ c.size := by
    have := congrArg List.length h3
    simp at this; omega
  refine ⟨c, vs, fz, h1, h2, h3, hlen, fun k hk => ?_, hz, h4⟩
  have : (c.toList.take vs.length)[k]? = vs[k]? := by rw [h3]
  rw [List.getElem?_take, if_pos hk] at this
  simp [World.cell?, h1]
  simpa using this

theorem RepC.range [Ctxt] {e : Env} {b : Blk} {p : Nat × Nat} {w : World} (h : RepC e b p w) (off n : Nat) (hn : ((b.cs.drop off).take n).length = n) :
    ∃ xs, denL e ((b.cs.drop off).take n) = some xs ∧ xs.length = n ∧ w.rangeAt p.1 off xs := by
  obtain ⟨c, vs, _, h1, h2, h3, h4, h5, _⟩ := h.cells
  have hd := denL_take n (denL_drop off h2)
  have hl := denL_length hd
  refine ⟨_, hd, by rw [hl]; exact hn, fun j v hv => ?_⟩
  rw [List.getElem?_take] at hv
  split at hv
  · rw [List.getElem?_drop] at hv
    have : off + j < vs.length := by
      rcases Nat.lt_or_ge (off + j) vs.length with h | h
      · exact h
      · rw [List.getElem?_eq_none h] at hv; cases hv
    rw [h5 _ this]; exact hv
  · cases hv

noncomputable def evalLoad (P : Program) (M : Mem) (t : TypeId) (i off : Nat) : Option CV :=
  match M.at i with
  | none => none
  | some b => cond (isSp b.cs) none <|
    match P.underlying t with
    | none => none
    | some d =>
      cond d.isRow
        (match P.info? t with
        | none => none
        | some inf => let l := (b.cs.drop off).take inf.size; cond (Nat.beq l.length inf.size) (some (mkAgg l)) none)
        b.cs[off]?

theorem run_loadVar_atom {P : Program} (w : World) (a : Addr) (t : TypeId) (d : TypeDesc) (v : Value) (hu : P.underlying t = some d) (hd : d.isRow = false) (hc : w.cell? a = some v) :
    (loadVar t a).run P w = .ok v w := by
  have hagg : (isAgg t).run P w = .ok false w := by
    unfold isAgg
    rw [Sem.run_bind, run_underlying hu w]
    cases d <;> simp_all
  simp [loadVar, Sem.run_bind, hagg, hc]

theorem evalLoad_run [Ctxt] {P : Program} {M : Mem} {t : TypeId} {i off : Nat} {v : CV} (h : evalLoad P M t i off = some v) {e : Env} {w : World} (hR : Rep e M w) :
    ∃ p x, e i = some p ∧ den e v = some x ∧ (loadVar t ⟨p.1, off, none⟩).run P w = .ok x w := by
  unfold evalLoad at h
  split at h
  · cases h
  · rename_i b hb
    obtain ⟨p, hp, hB⟩ := hR.blk i b hb
    cases hsp : isSp b.cs with
    | true => rw [hsp] at h; cases h
    | false =>
    rw [hsp] at h
    simp only [cond_false] at h
    replace hB := hB.ofSp hsp
    split at h
    · cases h
    · rename_i d hu
      cases hd : d.isRow with
      | true =>
        rw [hd] at h
        simp only [cond_true] at h
        split at h
        · cases h
        · rename_i inf hi
          rcases beq_cases ((b.cs.drop off).take inf.size).length inf.size with ⟨h1, h2⟩ | ⟨h1, _⟩
          · rw [h1] at h
            simp at h; subst h
            obtain ⟨xs, hx, hl, hr⟩ := hB.range off inf.size h2
            exact ⟨p, _, hp, den_mkAgg hx, run_loadVar_mid w p.1 off t xs d hr hu hd (by simp [hi, hl])⟩
          · rw [h1] at h; cases h
      | false =>
        rw [hd] at h
        simp only [cond_false] at h
        obtain ⟨c, vs, _, h1, h2, h3, h4, h5, _⟩ := hB.cells
        obtain ⟨x, hx, hdx⟩ := denL_get h2 h
        have hlt : off < vs.length := by
          rcases Nat.lt_or_ge off vs.length with h | h
          · exact h
          · rw [List.getElem?_eq_none h] at hx; cases hx
        exact ⟨p, x, hp, hdx, run_loadVar_atom w _ t d x hu hd (by rw [h5 off hlt]; exact hx)⟩

def oneCellC : CV → Bool
  | .clo v => v.oneCell'
  | .agg _ => false
  | .tup _ => false
  | _ => true

theorem oneCellC_den [Ctxt] {e : Env} {c : CV} {v : Value} (h : oneCellC c = true) (hd : den e c = some v) : v.oneCell' = true := by
  cases c with
  | clo u => simp [den] at hd; subst hd; exact h
  | agg l => cases h
  | tup l => cases h
  | ptr i o => simp only [den, Option.map_eq_some_iff] at hd; obtain ⟨_, _, rfl⟩ := hd; rfl
  | sl i o n c s => simp only [den, Option.map_eq_some_iff] at hd; obtain ⟨_, _, rfl⟩ := hd; rfl
  | fn f a b => simp only [den, Option.bind_eq_some_iff, Option.map_eq_some_iff] at hd; obtain ⟨_, _, _, _, rfl⟩ := hd; rfl
  | sy i => simp only [den, Option.some.injEq] at hd; subst hd; exact (Ctxt.sym i).one
  | yl i => simp only [den, Option.map_eq_some_iff] at hd; obtain ⟨_, _, rfl⟩ := hd; rfl
  | lp => simp [den] at hd
  | df => simp [den] at hd
  | mp i => simp only [den, Option.map_eq_some_iff] at hd; obtain ⟨_, _, rfl⟩ := hd; rfl
  | mo => simp [den] at hd
  | si => simp [den] at hd
  | ab => simp [den] at hd
  | as i n => simp only [den, Option.bind_eq_some_iff, Option.map_eq_some_iff] at hd; obtain ⟨_, _, _, _, rfl⟩ := hd; rfl
  | pa i k z off => simp only [den, Option.bind_eq_some_iff, Option.map_eq_some_iff] at hd; obtain ⟨_, _, _, _, _, _, rfl⟩ := hd; rfl

theorem oneCellL_den [Ctxt] {e : Env} : ∀ {l : List CV} {xs : List Value}, l.all oneCellC = true → denL e l = some xs → ∀ v ∈ xs, v.oneCell' = true
  | [], xs, _, h => by simp [denL] at h; subst h; simp
  | c :: r, xs, h1, h => by
    obtain ⟨x, ys, rfl, h2, h3⟩ := denL_cons h
    simp only [List.all_cons, Bool.and_eq_true] at h1
    intro v hv
    rcases List.mem_cons.1 hv with rfl | hv
    · exact oneCellC_den h1.1 h2
    · exact oneCellL_den h1.2 h3 v hv

theorem take_splice {α : Type} (c v : List α) (off n : Nat) (h1 : off + v.length ≤ n) (h2 : n ≤ c.length) :
    (c.take off ++ v ++ c.drop (off + v.length)).take n = (c.take n).take off ++ v ++ (c.take n).drop (off + v.length) := by
  apply List.ext_getElem?
  intro i
  simp only [List.getElem?_take, List.getElem?_append, List.getElem?_drop, List.length_append, List.length_take]
  rw [show min off c.length = off by omega, show min off (min n c.length) = off by omega]
  repeat' split
  all_goals first | rfl | omega | (congr 1; omega)

/-- A block that may be written: not one that is to be read only. -/
def rowOK : Option Nat → Bool
  | some 0 => false
  | _ => true
theorem rowOK_ne {r : Option Nat} (h : rowOK r = true) : r ≠ some 0 := fun e => by subst e; cases h
theorem RepB.cells0 [Ctxt] {e : Env} {b : Blk} {p : Nat × Nat} {w : World} (h : RepB e b p w) (hz : b.row ≠ some 0) :
    ∃ c vs, w.heap[p.1]? = some (.cells c b.ty (0, 0)) ∧ denL e b.cs = some vs ∧ c.toList.take vs.length = vs ∧ vs.length ≤ c.size ∧
      (∀ k, k < vs.length → w.cell? ⟨p.1, k, none⟩ = vs[k]?) ∧
      (match b.row with
      | none => c.size = vs.length
      | some z => z ≠ 0 → c.size = p.2 * z ∧ p.2 ≤ maxLen) := by
  obtain ⟨c, vs, fz, h1, h2, h3, h4, h5, h6, h7⟩ := (h.ofRow hz).cells
  rcases h6 with h6 | h6
  · exact absurd h6 hz
  · subst h6; exact ⟨c, vs, h1, h2, h3, h4, h5, h7⟩

/-- A row of cells goes into a block. -/
theorem RepB.splice [Ctxt] {e : Env} {b : Blk} {p : Nat × Nat} {w : World} (h : RepB e b p w) {off : Nat} {l : List CV} {xs : List Value} (hl : denL e l = some xs) (hfit : off + l.length ≤ b.cs.length) (h1 : l.all oneCellC = true) (hz : b.row ≠ some 0) (P : Program) :
    ∃ w', (storeCells ⟨p.1, off, none⟩ xs 0).run P w = .ok () w' ∧ RepB e ⟨b.cs.take off ++ l ++ b.cs.drop (off + l.length), b.ty, b.row⟩ p w' ∧
      w'.heap.size = w.heap.size ∧ (∀ k, k ≠ p.1 → w'.heap[k]? = w.heap[k]?) ∧ w'.os = w.os ∧ w'.tape = w.tape ∧ w'.output = w.output := by
  obtain ⟨c, vs, h2, h3, h4, h5, _, h6⟩ := h.cells0 hz
  have hvs := denL_length h3
  have hxs := denL_length hl
  have hrun := run_storeCells_at P p.1 off b.ty xs 0 c w h2 (by omega) (oneCellL_den h1 hl)
  simp only [Nat.add_zero] at hrun
  refine ⟨_, hrun, RepB.of _ _ (setRow_heap w p.1 c _ b.ty _ h2) (denL_append (denL_append (denL_take off h3) hl) (denL_drop (off + l.length) h3)) ?_ ?_, by simp [World.setRow], fun k hk => setRow_other w p.1 k _ hk, rfl, rfl, rfl⟩
  · have hlen : (List.take off vs ++ xs ++ List.drop (off + l.length) vs).length = vs.length := by simp; omega
    rw [hlen, ← hxs]
    rw [take_splice c.toList xs off vs.length (by omega) (by simpa using h5), h4]
  · have hlen : (List.take off vs ++ xs ++ List.drop (off + l.length) vs).length = vs.length := by simp; omega
    have hlen2 : (List.take off c.toList ++ xs ++ List.drop (off + xs.length) c.toList).length = c.size := by simp; omega
    rw [hlen]
    cases hr : b.row with
    | none => rw [hr] at h6; simp only [List.size_toArray, hlen2]; exact h6
    | some z => rw [hr] at h6; simp only [List.size_toArray, hlen2]; exact h6

noncomputable def evalStore (P : Program) (lim : Nat) (M : Mem) (t : TypeId) (i off : Nat) (v : CV) : Option Mem :=
  match M.at i with
  | none => none
  | some b =>
    match P.info? t with
    | none => none
    | some inf =>
      let l := v.cells
      cond (Nat.ble lim i && Nat.beq l.length inf.size && Nat.ble (off + l.length) b.cs.length && l.all oneCellC && rowOK b.row)
        (some (M.set i ⟨b.cs.take off ++ l ++ b.cs.drop (off + l.length), b.ty, b.row⟩)) none

theorem evalStore_run [Ctxt] {P : Program} {lim : Nat} {M M' : Mem} {t : TypeId} {i off : Nat} {v : CV} (h : evalStore P lim M t i off v = some M') {e : Env} {w : World} (hR : Rep e M w) (hpi : Ctxt.pin ≤ lim) {x : Value} (hx : den e v = some x) :
    ∃ p w', e i = some p ∧ (storeVar t ⟨p.1, off, none⟩ x).run P w = .ok () w' ∧ Post lim e M w e M' w' := by
  unfold evalStore at h
  split at h
  · cases h
  · rename_i b hb
    obtain ⟨p, hp, hB⟩ := hR.blk i b hb
    split at h
    · cases h
    · rename_i inf hi
      cases hc : (Nat.ble lim i && Nat.beq v.cells.length inf.size && Nat.ble (off + v.cells.length) b.cs.length && v.cells.all oneCellC && rowOK b.row) with
      | false => simp only [hc, cond_false] at h; cases h
      | true =>
        simp only [hc, cond_true, Option.some.injEq] at h
        subst h
        simp only [Bool.and_eq_true] at hc
        obtain ⟨⟨⟨⟨c1, c2⟩, c3⟩, c4⟩, c5⟩ := hc
        have c1 := Nat.le_of_ble_eq_true c1
        have c2 := Nat.eq_of_beq_eq_true c2
        have c3 := Nat.le_of_ble_eq_true c3
        have hcells := den_cells hx
        obtain ⟨w', hrun, hB', hs, hk, h1, h2, h3⟩ := hB.splice hcells c3 c4 (rowOK_ne c5) P
        refine ⟨p, w', hp, ?_, post_set hR hpi c1 hb hp hB' hs hk h1 h2 h3⟩
        have hsz : x.cells.size = inf.size := by
          have := denL_length hcells
          simp at this; omega
        simp [storeVar, sizeOf, typeInfo, hi, hsz, hrun]

end Go.Ev
