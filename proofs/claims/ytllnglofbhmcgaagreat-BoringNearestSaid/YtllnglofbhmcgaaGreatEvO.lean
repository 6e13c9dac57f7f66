/- What operations on integers yield, for an evaluation that is told of them. -/
import Derived.Test.YtllnglofbhmcgaaGreatEvN
namespace Go.Ev
open Go.RowKit
variable {P : Program}

theorem opKey_bin {o : Op} {op : BinOp} {t : TypeId} {xs : List Operand} (h : opKey o = some (.bin op t, xs)) : ∃ x y e, o = .binOp op t x y e ∧ xs = [x, y] := by
  unfold opKey at h
  repeat' split at h
  all_goals simp at h
  rename_i op' t' x y e
  obtain ⟨⟨rfl, rfl⟩, rfl⟩ := h
  exact ⟨x, y, e, rfl, rfl⟩
theorem opKey_un {o : Op} {op : UnOp} {xs : List Operand} (h : opKey o = some (.un op, xs)) : ∃ x t, o = .unOp op t x ∧ xs = [x] := by
  unfold opKey at h
  repeat' split at h
  all_goals simp at h
  rename_i op' t' x
  obtain ⟨rfl, rfl⟩ := h
  exact ⟨x, t', rfl, rfl⟩
theorem opKey_conv {o : Op} {s d : TypeId} {xs : List Operand} (h : opKey o = some (.conv s d, xs)) : ∃ x, o = .convert s d x ∧ xs = [x] := by
  unfold opKey at h
  repeat' split at h
  all_goals simp at h
  rename_i s' d' x
  obtain ⟨⟨rfl, rfl⟩, rfl⟩ := h
  exact ⟨x, rfl, rfl⟩
theorem opKey_bld {o : Op} {t : TypeId} {ix : List Nat} {xs : List Operand} (h : opKey o = some (.bld t ix, xs)) : ∃ parts, o = .build t parts ∧ ix = parts.toList.map (·.1) ∧ xs = parts.toList.map (·.2) := by
  unfold opKey at h
  repeat' split at h
  all_goals simp at h
  rename_i t' parts
  obtain ⟨⟨rfl, rfl⟩, rfl⟩ := h
  exact ⟨parts, rfl, by simp, by simp⟩
theorem opKey_fld {o : Op} {t : TypeId} {f : Nat} {xs : List Operand} (h : opKey o = some (.fld t f, xs)) : ∃ x, o = .field t x f ∧ xs = [x] := by
  unfold opKey at h
  repeat' split at h
  all_goals simp at h
  rename_i t' x f'
  obtain ⟨⟨rfl, rfl⟩, rfl⟩ := h
  exact ⟨x, rfl, rfl⟩
theorem opKey_idx {o : Op} {t : TypeId} {xs : List Operand} (h : opKey o = some (.idx t, xs)) : ∃ x i, o = .index t x i ∧ xs = [x, i] := by
  unfold opKey at h
  repeat' split at h
  all_goals simp at h
  rename_i t' x i
  obtain ⟨rfl, rfl⟩ := h
  exact ⟨x, i, rfl, rfl⟩
theorem opKey_mn {o : Op} {xs : List Operand} (h : opKey o = some (.mn, xs)) : ∃ c, o = .call c ∧ c.callee = .builtin .min ∧ xs = c.args.toList := by
  unfold opKey at h
  repeat' split at h
  all_goals simp at h
  rename_i c _ hc
  exact ⟨c, rfl, hc, h.symm⟩
theorem opKey_mx {o : Op} {xs : List Operand} (h : opKey o = some (.mx, xs)) : ∃ c, o = .call c ∧ c.callee = .builtin .max ∧ xs = c.args.toList := by
  unfold opKey at h
  repeat' split at h
  all_goals simp at h
  rename_i c _ hc
  exact ⟨c, rfl, hc, h.symm⟩

theorem tells_bin {op : BinOp} {t : TypeId} {x y u : Value} (hg : ∀ w xo yo, (eqGuard op t xo yo x y).run P w = .ok () w) (hb : ∀ w, (binOp op t x y).run P w = .ok u w) : Tells P (.bin op t) [x, y] u := by
  intro o ρ xs hk hx w
  obtain ⟨dst, oo, type, pos, after, guard⟩ := o
  obtain ⟨a, b, e, ho, rfl⟩ := opKey_bin hk
  simp only at ho; subst ho
  simp at hx
  obtain ⟨rfl, rfl⟩ := hx
  simp only [execOp]
  rw [Sem.run_bind, Sem.run_bind, hg, Result.andThen_ok, hb]
  rfl

theorem tells_un {op : UnOp} {x u : Value} (hb : ∀ w, (Op.unary op x).run P w = .ok u w) : Tells P (.un op) [x] u := by
  intro o ρ xs hk hx w
  obtain ⟨dst, oo, type, pos, after, guard⟩ := o
  obtain ⟨a, t, ho, rfl⟩ := opKey_un hk
  simp only at ho; subst ho
  simp at hx
  subst hx
  simp only [execOp]
  rw [Sem.run_bind, hb]
  rfl

theorem tells_conv {s d : TypeId} {x u : Value} (hb : ∀ w, (convert s d x).run P w = .ok u w) : Tells P (.conv s d) [x] u := by
  intro o ρ xs hk hx w
  obtain ⟨dst, oo, type, pos, after, guard⟩ := o
  obtain ⟨a, ho, rfl⟩ := opKey_conv hk
  simp only at ho; subst ho
  simp at hx
  subst hx
  simp only [execOp]
  rw [Sem.run_bind, hb]
  rfl

theorem guard_int (op : BinOp) (t : TypeId) (k : IntKind) (a b : Int) (w : World) (xo yo : Operand) : (eqGuard op t xo yo (.int k a) (.int k b)).run P w = .ok () w := by
  cases op <;> simp [eqGuard]

theorem tells_add {k : IntKind} {t : TypeId} {a b r : Int} (h : k.wrap (a + b) = r) : Tells P (.bin .add t) [.int k a, .int k b] (.int k r) :=
  tells_bin (guard_int _ _ _ _ _) fun w => by simp [binOp, Op.intArith, h]
theorem tells_sub {k : IntKind} {t : TypeId} {a b r : Int} (h : k.wrap (a - b) = r) : Tells P (.bin .sub t) [.int k a, .int k b] (.int k r) :=
  tells_bin (guard_int _ _ _ _ _) fun w => by simp [binOp, Op.intArith, h]
theorem tells_mul {k : IntKind} {t : TypeId} {a b r : Int} (h : k.wrap (a * b) = r) : Tells P (.bin .mul t) [.int k a, .int k b] (.int k r) :=
  tells_bin (guard_int _ _ _ _ _) fun w => by simp [binOp, Op.intArith, h]
theorem tells_neg {k : IntKind} {a r : Int} (h : k.wrap (-a) = r) : Tells P (.un .neg) [.int k a] (.int k r) :=
  tells_un fun w => by simp [Op.unary, Op.intArith, h]
theorem tells_eql {k : IntKind} {t : TypeId} {a b : Int} {r : Bool} (h : decide (a = b) = r) : Tells P (.bin .eql t) [.int k a, .int k b] (.bool r) :=
  tells_bin (guard_int _ _ _ _ _) fun w => by subst h; simp [binOp, Op.intCmp]; try rfl
theorem tells_neq {k : IntKind} {t : TypeId} {a b : Int} {r : Bool} (h : decide (a ≠ b) = r) : Tells P (.bin .neq t) [.int k a, .int k b] (.bool r) :=
  tells_bin (guard_int _ _ _ _ _) fun w => by subst h; simp [binOp, Op.intCmp]; try (simp [bne, Bool.beq_eq_decide_eq]; done)
theorem tells_lss {k : IntKind} {t : TypeId} {a b : Int} {r : Bool} (h : decide (a < b) = r) : Tells P (.bin .lss t) [.int k a, .int k b] (.bool r) :=
  tells_bin (guard_int _ _ _ _ _) fun w => by subst h; simp [binOp, Op.intCmp]
theorem tells_leq {k : IntKind} {t : TypeId} {a b : Int} {r : Bool} (h : decide (a ≤ b) = r) : Tells P (.bin .leq t) [.int k a, .int k b] (.bool r) :=
  tells_bin (guard_int _ _ _ _ _) fun w => by subst h; simp [binOp, Op.intCmp]
theorem tells_gtr {k : IntKind} {t : TypeId} {a b : Int} {r : Bool} (h : decide (b < a) = r) : Tells P (.bin .gtr t) [.int k a, .int k b] (.bool r) :=
  tells_bin (guard_int _ _ _ _ _) fun w => by subst h; simp [binOp, Op.intCmp]
theorem tells_geq {k : IntKind} {t : TypeId} {a b : Int} {r : Bool} (h : decide (b ≤ a) = r) : Tells P (.bin .geq t) [.int k a, .int k b] (.bool r) :=
  tells_bin (guard_int _ _ _ _ _) fun w => by subst h; simp [binOp, Op.intCmp]
theorem tells_int {s d : TypeId} {k k' : IntKind} {a r : Int} {u : TypeDesc} (hs : P.underlying s = some u) (hd : P.underlying d = some (.int k)) (h : k.wrap a = r) : Tells P (.conv s d) [.int k' a] (.int k r) :=
  tells_conv fun w => by simp [convert, run_underlying hs, run_underlying hd, Conv.intToInt, h]
theorem tells_mn {k : IntKind} {a b r : Int} (h : (if b < a then b else a) = r) : Tells P .mn [.int k a, .int k b] (.int k r) := by
  intro o ρ xs hk hx w
  obtain ⟨dst, oo, type, pos, after, guard⟩ := o
  obtain ⟨c, ho, hb, rfl⟩ := opKey_mn hk
  simp only at ho; subst ho
  obtain ⟨cal, args, ty⟩ := c
  simp only at hb hx; subst hb
  simp [execOp, resolve, invoke, builtin, Builtin.min_, hx, Builtin.min2, h]
theorem tells_mx {k : IntKind} {a b r : Int} (h : (if b > a then b else a) = r) : Tells P .mx [.int k a, .int k b] (.int k r) := by
  intro o ρ xs hk hx w
  obtain ⟨dst, oo, type, pos, after, guard⟩ := o
  obtain ⟨c, ho, hb, rfl⟩ := opKey_mx hk
  simp only at ho; subst ho
  obtain ⟨cal, args, ty⟩ := c
  simp only at hb hx; subst hb
  simp [execOp, resolve, invoke, builtin, Builtin.max_, hx, Builtin.max2] at h ⊢
  exact h
theorem opKey_ln {o : Op} {t : TypeId} {xs : List Operand} (h : opKey o = some (.ln t, xs)) : ∃ c, o = .call c ∧ c.callee = .builtin .len ∧ c.argTypes.toList = [t] ∧ xs = c.args.toList := by
  unfold opKey at h
  repeat' split at h
  all_goals simp at h
  rename_i c _ hc _ t' ht
  obtain ⟨rfl, rfl⟩ := h
  exact ⟨c, rfl, hc, ht, rfl⟩
theorem tells_ln {t e : TypeId} {a : Option Addr} {n c : Nat} (hu : P.underlying t = some (.slice e)) : Tells P (.ln t) [.slice a n c] (.int .i64 n) := by
  intro o ρ xs hk hx w
  obtain ⟨dst, oo, type, pos, after, guard⟩ := o
  obtain ⟨cc, ho, hb, ht, rfl⟩ := opKey_ln hk
  simp only at ho; subst ho
  obtain ⟨cal, args, ty⟩ := cc
  simp only at hb hx ht; subst hb
  have e0 : ty = #[t] := by apply Array.ext'; simpa using ht
  have e1 : (Array.map ρ args) = #[.slice a n c] := by apply Array.ext'; simpa using hx
  simp [execOp, resolve, invoke, builtin, Builtin.len_, e0, e1, run_underlying hu, goInt]

theorem tells_quo {k : IntKind} {t : TypeId} {a b r : Int} (hb : b ≠ 0) (h : k.wrap (a.tdiv b) = r) : Tells P (.bin .quo t) [.int k a, .int k b] (.int k r) :=
  tells_bin (guard_int _ _ _ _ _) fun w => by simp [binOp, Op.intDiv, h, hb]
theorem tells_rem {k : IntKind} {t : TypeId} {a b r : Int} (hb : b ≠ 0) (h : a.tmod b = r) : Tells P (.bin .rem t) [.int k a, .int k b] (.int k r) :=
  tells_bin (guard_int _ _ _ _ _) fun w => by simp [binOp, Op.intDiv, h, hb]
end Go.Ev
