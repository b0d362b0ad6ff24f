import PyProof.Rows.All
import Wide.All
import OpenK.AllK
import Wide.FinOn
import HandS.ForMost
import HandS.More
import HandS.NoneIn
import HandS.Deep
import HandS.ForExc
import HandS.ExcIs
import HandS.StrMore
import HandS.IsInst
import HandS.TryMany
import HandS.Style
import HandS.SortOrd
import HandS.SortRule
import KE.LtSeq
import HandS.Lambda
import HandS.EndOwn
import KE.KExcIs
import HandS.ExcInit
import HandS.ExcField
import HandS.ExcValue
import HandS.Small
import HandS.SetFor
import HandS.Walk
import PySem.Challenge.RW_kindswap_k16_refusals_apart
set_option Elab.async false
set_option linter.all false
set_option maxRecDepth 100000
set_option maxHeartbeats 4000000
namespace KB
open PySem PySem.Spec PyProof.Rows L2

/-! ## rules of one's own, wide ones: each serves all kinds of operands that the program has -/
section
variable {X : Cx}
/-- == of data nested up to 190 deep -/
def rEqX (K : PySem.W.Frag) : R2 := fun x y H Q => ∃ d e, Dp K H x d ∧ Dp K H y e ∧ d.canLay0 = true ∧ e.canLay0 = true ∧ min d.depth e.depth ≤ 190 ∧ Q (.bl (PyData.eqv d e)) H
def rNeX (K : PySem.W.Frag) : R2 := fun x y H Q => ∃ d e, Dp K H x d ∧ Dp K H y e ∧ d.canLay0 = true ∧ e.canLay0 = true ∧ min d.depth e.depth ≤ 190 ∧ Q (.bl (!PyData.eqv d e)) H
theorem op_eqX (hu : X.A.units + 200 < cLine) : OpR X (compareOp .Eq) (rEqX X.K) := by
  intro pins s σ H x y v u Q I rx ry ⟨d, e, hd, he, cd, ce, hm, q⟩
  obtain ⟨as, r1⟩ := Dp.reads I d x v hd rx
  obtain ⟨bs, r2⟩ := Dp.reads I e y u he ry
  exact SeqAt.compareEq_reads r1 r2 cd ce (by omega) ⟨.bl _, H, I, rfl, q⟩
theorem op_neX (hu : X.A.units + 200 < cLine) : OpR X (compareOp .NotEq) (rNeX X.K) := by
  intro pins s σ H x y v u Q I rx ry ⟨d, e, hd, he, cd, ce, hm, q⟩
  obtain ⟨as, r1⟩ := Dp.reads I d x v hd rx
  obtain ⟨bs, r2⟩ := Dp.reads I e y u he ry
  exact SeqAt.compareNe_reads r1 r2 cd ce (by omega) ⟨.bl _, H, I, rfl, q⟩
def rEqA (K : PySem.W.Frag) : R2 := fun x y H Q => rEq x y H Q ∨ rEqX K x y H Q
def rNeA (K : PySem.W.Frag) : R2 := fun x y H Q => rNe x y H Q ∨ rNeX K x y H Q
theorem op_eqA (hu : X.A.units + 200 < cLine) : OpR X (compareOp .Eq) (rEqA X.K) := op_eq.or (op_eqX hu)
theorem op_neA (hu : X.A.units + 200 < cLine) : OpR X (compareOp .NotEq) (rNeA X.K) := op_ne.or (op_neX hu)
theorem room200 {k : Nat} {A : Around} (r : Room k A) : A.units + 200 < cLine := by have := r.un; omega

def rAddA (K : PySem.W.Frag) : R2 := fun x y H Q =>
  (rI0 fun i j => .int (i + j)) x y H Q ∨ (∃ i j, x = .str i ∧ y = .str j ∧ i.length + j.length ≤ sizeLine ∧ Q (.str (i ++ j)) H) ∨ rCat x y H Q ∨ rCatT K x y H Q
theorem op_addA : OpR X (binaryOp .Add) (rAddA X.K) := op_add.or (op_add_str.or (op_cat.or op_catT))
def rMulA : R2 := fun x y H Q => (rI CMul fun i j => .int (i * j)) x y H Q ∨ rRep x y H Q
theorem op_mulA : OpR X (binaryOp .Mult) rMulA := op_mul.or op_rep
def rIxA (K : PySem.W.Frag) (w : World) : R2 := fun x y H Q => rIx K x y H Q ∨ rIxD K w x y H Q
theorem ix_A : IxR X (rIxA X.K X.w) := ix_seq.or ix_kdict
def rSlA (K : PySem.W.Frag) : V → Option Int → Option Int → Hp → VK → Prop := fun x lo hi H Q => rSlL K x lo hi H Q ∨ rSlT K x lo hi H Q ∨ rSlS x lo hi H Q
theorem sl_A : SlR X (rSlA X.K) := sl_list.or (sl_tup.or sl_str)
/-- isinstance over the values that the program has: the answer by the two types' names -/
def rIsiB (K : PySem.W.Frag) : List V → Hp → VK → Prop := fun xs H Q => ∃ (x : V) (T : String) (S : String) (b : Bool), xs = [x, .ty S] ∧ TyB K H x T ∧ Q (.bl b) H
end

/-! ## xs.extend(t), t a tuple -/
theorem extend_door2 {a b : Array Value} (h : a.size + b.size ≤ sizeLine) : ¬(!a.isEmpty && Builtin.List.listTooLong (a.size + b.size)) = true := by
  rw [notLongL h, Bool.and_false]; exact Bool.false_ne_true
theorem meets_extend_tup {l b : Addr} {as bs : Array Value} {n n2 : Nat} {dd : Option Addr} {sl : Array (Option Value)} (hz : as.size + bs.size ≤ sizeLine) :
    Meets (Builtin.«list.extend» ⟨[.ref l, .ref b], []⟩) (fun _ R s => s.heap.get? l = some { cls := .type "list", data := .seq as n } ∧
      s.heap.get? b = some ⟨.type "tuple", dd, .seq bs n2, sl⟩ ∧ R (.ok (.ret .none)) { s with heap := s.heap.update l (Obj.mapSeq (· ++ bs)) }) := by
  refine .of_wp fun prog w A R s h => ?_
  obtain ⟨hp, g, d, tk, os⟩ := s
  obtain ⟨hl, hb, h⟩ := h
  have f2 := PySem.AutoSeq1.sub_tuple_tuple
  have f4 := PySem.AutoSeq1.sub_tuple_list
  have door := extend_door2 hz
  have z1 : as.size ≤ sizeLine := by omega
  have z2 : (as ++ bs).size ≤ sizeLine + 1 := by rw [Array.size_append]; omega
  wp_walk using (wpAny_updateSeq hl rfl (hz := z1) (_hz' := z2)), PySem.AutoSeq1.wpAny_loadPart' hl, PySem.AutoSeq1.wpAny_loadPart' hb
  exact ⟨_, rfl, h⟩
def rExtendT (K : PySem.W.Frag) : V → List V → Hp → VK → Prop := fun x vs H Q =>
  ∃ l b xs zs, x = .ref l ∧ vs = [.ref b] ∧ H l = some (.lst xs) ∧ SqT K H b zs ∧ xs.length + zs.length ≤ sizeLine ∧ Q .non (upd H l (.lst (xs ++ zs)))
theorem mt_extendT {X : Cx} : MtM X "list.extend" (rExtendT X.K) := by
  intro pins s σ H x vs v us Q I rx rv ⟨l, b, xs, zs, ex, ev, hH, hB, hz, q⟩
  subst ex ev
  cases rx
  obtain ⟨u, rfl, ru⟩ := Vals.one rv
  cases ru
  obtain ⟨_, its, n, r, hl, e⟩ := I.lstM hH
  obtain ⟨its2, r2, ⟨⟨c2, dd, da, sl⟩, e2, ec, n2, ed⟩, hl2⟩ := I.tuple hB
  simp only at ec ed
  subst ec ed
  have hl3 := r2.length
  have hsz : its.toArray.size + its2.toArray.size ≤ sizeLine := by rw [List.size_toArray, List.size_toArray]; omega
  refine call_meets F.slot_list_extend ⟨_, e, rfl⟩ F.entry_list_extend (F.args_list_extend_2 _ _) (meets_extend_tup hsz) ⟨e, e2, ?_⟩
  refine ⟨.non, _, I.lset (its' := its ++ its2) hH e (by simp) (Vals.append r r2) ?_, rfl, q⟩
  rw [List.length_append]; exact hz

/-! ## a def as it stands; a def that keeps its promise, for its callers -/
/-- the def stands under its own name -/
def At (K : PySem.W.Frag) (mg : Str → Option Value) (x : Str) (st : Stmt) : Prop := ∃ f fd, Fun K x x st f fd ∧ mg x = some (.ref f)
section
variable (P : Program) (w : World) (K : PySem.W.Frag) (mg : Str → Option Value) (base : Heap)
def Cal (CX : CXT) (k : Nat) (x : Str) (ps : List Str) (sp : Sp) : Prop :=
  ∃ f fd, FnOk P w K mg base CX k f fd ps sp ∧ Binds K fd ps [] ∧ PySem.W.keepIn K (.ref f) = true ∧ mg x = some (.ref f)
end
section
variable {X : Cx} {CX : CXT} {k : Nat} {x : Str} {ps : List Str} {sp : Sp} {E : XK} {p pos : Pos} {e : Expr} {es : List Expr} {t : TA}
theorem pe_calC (C : Cal X.prog X.w X.K X.mg X.base CX k x ps sp) (hr : Room k X.A) (hx : Passes CX X E) (ha : PA X (e :: es) t) (hg : Gl X x := by rfl) (hdb : (x == ("__debug__" : Str)) = false := by decide)
    (he : starEach (e :: es) X.env = (false, eval e X.env) :: starEach es X.env := by rfl) (hpl : (backTo pos (starEach es X.env)).any (·.1) = false := by rfl) :
    PE X (.Call (.Name x p) (e :: es) [] pos) (tCall sp [] E t) := by
  obtain ⟨f, fd, F, b, kp, m⟩ := C
  exact pe_call F hr hg m kp b .nil hx ha hdb he hpl
end
theorem Cal.mono {P : Program} {w : World} {K : PySem.W.Frag} {mg : Str → Option Value} {base : Heap} {CX : CXT} {j k : Nat} {x : Str} {ps : List Str} {sp : Sp} (C : Cal P w K mg base CX j x ps sp) (h : j ≤ k) : Cal P w K mg base CX k x ps sp :=
  let ⟨f, fd, F, r⟩ := C; ⟨f, fd, F.mono h, r⟩

/-! ## facts of heaps -/
theorem same_new {H : Hp} {p : Addr} (h : H p = none) (o : HO) : Same H (upd H p o) := fun b u q => by rw [upd_ne (ne_of_none q h)]; exact q
theorem Same.tup {K : PySem.W.Frag} {H H' : Hp} {a : Addr} {xs : List V} (e : Same H H') (h : SqT K H a xs) : SqT K H' a xs := by
  rcases h with (h | ⟨o, h⟩) | h
  · exact .inl (.inl (e _ _ h))
  · exact .inl (.inr ⟨o, e _ _ h⟩)
  · exact .inr h
/-- all but the object at w stands -/
def But (w : Addr) (H H' : Hp) : Prop := ∀ b o, b ≠ w → H b = some o → H' b = some o
theorem But.refl (w : Addr) (H : Hp) : But w H H := fun _ _ _ h => h
theorem But.trans {w : Addr} {H H1 H2 : Hp} (a : But w H H1) (b : But w H1 H2) : But w H H2 := fun c o n h => b c o n (a c o n h)
theorem But.of_same {w : Addr} {H H' : Hp} (h : Same H H') : But w H H' := fun b o _ e => h b o e
theorem But.new {w : Addr} {H : Hp} {p : Addr} (h : H p = none) (o : HO) : But w H (upd H p o) := .of_same (same_new h o)
theorem But.set {w : Addr} {H : Hp} (o : HO) : But w H (upd H w o) := fun b u n q => by rw [upd_ne n]; exact q
end KB

namespace KB
open PySem PySem.Spec PyProof.Rows L2

/-! ## a dict of the module with text keys, asked by any text -/
inductive Ents : List (Str × V) → List DictEntry → Prop where
  | nil : Ents [] []
  | cons {k : Str} {v : V} {u : Value} {t : Tok} {hs : Int} {r : List (Str × V)} {es : List DictEntry} (rv : RelV v u) (tl : Ents r es) : Ents ((k, v) :: r) (⟨hs, .str k t, u⟩ :: es)
def DictS (K : PySem.W.Frag) (w : World) (d : Addr) (kvs : List (Str × V)) : Prop :=
  ∃ es n, K.lookup d = some ⟨.type "dict", none, .dict es n, #[]⟩ ∧ PySem.W.KeysLit w.params es.toList ∧ (d == sysModules) = false ∧ Ents kvs es.toList
theorem Ents.find {z : Str} : ∀ {kvs : List (Str × V)} {es : List DictEntry}, Ents kvs es →
    (es.find? (·.key.isStr z) = none ∧ kvs.lookup z = none ∧ es.any (·.refKey) = false) ∨ ∃ e v, es.find? (·.key.isStr z) = some e ∧ kvs.lookup z = some v ∧ RelV v e.val
  | _, _, .nil => .inl ⟨rfl, rfl, rfl⟩
  | _, _, .cons (k := k) (v := v) (u := u) rv tl => by
    by_cases h : k = z
    · subst h
      refine .inr ⟨_, v, List.find?_cons_of_pos (by simp [Value.isStr]), ?_, rv⟩
      simp [List.lookup]
    · have h1 : ((z == k) : Bool) = false := beq_eq_false_iff_ne.mpr fun q => h q.symm
      have h2 : (Value.isStr (.str k (by assumption)) z) = false := by
        show (k == z) = false
        exact beq_eq_false_iff_ne.mpr h
      rcases tl.find (z := z) with ⟨a, b, c⟩ | ⟨e, v', a, b, c⟩
      · refine .inl ⟨?_, ?_, ?_⟩
        · rw [List.find?_cons_of_neg (by show ¬ (Value.isStr (.str k _) z) = true; rw [show Value.isStr (.str k _) z = (k == z) from rfl, beq_eq_false_iff_ne.mpr h]; exact Bool.false_ne_true)]
          exact a
        · simp [List.lookup, h1, b]
        · rw [List.any_cons, c]; rfl
      · refine .inr ⟨e, v', ?_, ?_, c⟩
        · rw [List.find?_cons_of_neg (by show ¬ (Value.isStr (.str k _) z) = true; rw [show Value.isStr (.str k _) z = (k == z) from rfl, beq_eq_false_iff_ne.mpr h]; exact Bool.false_ne_true)]
          exact a
        · simp [List.lookup, h1, b]
theorem DictS.ns {K : PySem.W.Frag} {w : World} {d : Addr} {kvs : List (Str × V)} (D : DictS K w d kvs) (z : Str) :
    (PySem.W.nsIn K d z = some none ∧ kvs.lookup z = none) ∨ ∃ u v, PySem.W.nsIn K d z = some (some u) ∧ kvs.lookup z = some v ∧ RelV v u := by
  obtain ⟨es, n, hl, _, _, he⟩ := D
  rcases he.find (z := z) with ⟨a, b, c⟩ | ⟨e, v, a, b, c⟩
  · refine .inl ⟨?_, b⟩
    unfold PySem.W.nsIn; rw [hl]; simp only [a, c]; rfl
  · refine .inr ⟨e.val, v, ?_, b, c⟩
    unfold PySem.W.nsIn; rw [hl]; simp only [a]
section
variable {X : Cx} {kvs : List (Str × V)}
def rInDS (K : PySem.W.Frag) (w : World) (neg : Bool) : R2 := fun x y H Q => ∃ (z : Str) (d : Addr) (kvs : List (Str × V)), x = .str z ∧ y = .ref d ∧ DictS K w d kvs ∧ Q (.bl (if neg then !(kvs.lookup z).isSome else (kvs.lookup z).isSome)) H
theorem op_in_DS : OpR X (compareOp .In) (rInDS X.K X.w false) := by
  intro pins s σ H x y v u Q I rx ry ⟨z, d, kvs, ex, ey, D, q⟩
  obtain ⟨es, n, a, b, c, _⟩ := id D
  have kd : KDict X.K X.w d es n := ⟨a, b, c⟩
  rcases D.ns z with ⟨e, l⟩ | ⟨u0, v0, e, l, _⟩
  · exact op_in_kd kd pins s σ H x y v u Q I rx ry ⟨z, _, ex, ey, e, by rw [l] at q; exact q⟩
  · exact op_in_kd kd pins s σ H x y v u Q I rx ry ⟨z, _, ex, ey, e, by rw [l] at q; exact q⟩
theorem op_notIn_DS : OpR X (compareOp .NotIn) (rInDS X.K X.w true) := by
  intro pins s σ H x y v u Q I rx ry ⟨z, d, kvs, ex, ey, D, q⟩
  obtain ⟨es, n, a, b, c, _⟩ := id D
  have kd : KDict X.K X.w d es n := ⟨a, b, c⟩
  rcases D.ns z with ⟨e, l⟩ | ⟨u0, v0, e, l, _⟩
  · exact op_notIn_kd kd pins s σ H x y v u Q I rx ry ⟨z, _, ex, ey, e, by rw [l] at q; exact q⟩
  · exact op_notIn_kd kd pins s σ H x y v u Q I rx ry ⟨z, _, ex, ey, e, by rw [l] at q; exact q⟩
def rIxDS (K : PySem.W.Frag) (w : World) : R2 := fun x y H Q => ∃ (z : Str) (d : Addr) (kvs : List (Str × V)) (v : V), x = .ref d ∧ y = .str z ∧ DictS K w d kvs ∧ kvs.lookup z = some v ∧ Q v H
theorem ix_DS : IxR X (rIxDS X.K X.w) := by
  intro value slice pins s σ H x y v u Q I rx ry ⟨z, d, kvs, v1, ex, ey, D, hl, q⟩ hs
  obtain ⟨es, n, a, b, c, _⟩ := id D
  rcases D.ns z with ⟨e, l⟩ | ⟨u0, v0, e, l, r⟩
  · rw [l] at hl; cases hl
  · rw [l] at hl; cases hl
    exact ix_kdict value slice pins s σ H x y v u Q I rx ry ⟨d, z, _, ex, ey, ⟨es, n, u0, a, b, e, r⟩, q⟩ hs
def rIxB (K : PySem.W.Frag) (w : World) : R2 := fun x y H Q => rIx K x y H Q ∨ rIxDS K w x y H Q
theorem ix_B : IxR X (rIxB X.K X.w) := ix_seq.or ix_DS
end

/-! ## the heap without one object -/
def out (w : Addr) (H : Hp) : Hp := fun b => if b = w then none else H b
theorem out_ne {w b : Addr} {H : Hp} (h : b ≠ w) : out w H b = H b := if_neg h
theorem out_self {w : Addr} {H : Hp} : out w H w = none := if_pos rfl
theorem out_some {w b : Addr} {H : Hp} {o : HO} (h : out w H b = some o) : b ≠ w ∧ H b = some o := by
  by_cases e : b = w
  · rw [e, out_self] at h; cases h
  · rw [out_ne e] at h; exact ⟨e, h⟩
theorem out_sub (w : Addr) (H : Hp) : Same (out w H) H := fun _ _ h => (out_some h).2
theorem out_new {w p : Addr} {H : Hp} (h : H p = none) (o : HO) : Same (out w H) (out w (upd H p o)) := fun b u q => by
  obtain ⟨n, e⟩ := out_some q
  rw [out_ne n, upd_ne (ne_of_none e h)]; exact e
theorem out_set {w : Addr} {H : Hp} (o : HO) : Same (out w H) (out w (upd H w o)) := fun b u q => by
  obtain ⟨n, e⟩ := out_some q
  rw [out_ne n, upd_ne n]; exact e
theorem out_at {w p : Addr} {H : Hp} {o : HO} (n : p ≠ w) (h : H p = some o) : out w H p = some o := by rw [out_ne n]; exact h
theorem out_same {w : Addr} {H H' : Hp} (h : Same H H') : Same (out w H) (out w H') := fun b o q => by
  obtain ⟨n, e⟩ := out_some q
  rw [out_ne n]; exact h b o e
/-! ## data that stand -/
mutual
theorem Dp.same {K : PySem.W.Frag} {H H' : Hp} (s : Same H H') : ∀ {d : PyData} {v : V}, Dp K H v d → Dp K H' v d
  | _, _, .non => .non
  | _, _, .bl b => .bl b
  | _, _, .int i => .int i
  | _, _, .str x => .str x
  | _, _, .lst h a => .lst (L2.Same.seq s h) (DpAll.same s a)
  | _, _, .tup h a => .tup (Same.tup s h) (DpAll.same s a)
theorem DpAll.same {K : PySem.W.Frag} {H H' : Hp} (s : Same H H') : ∀ {ds : List PyData} {vs : List V}, DpAll K H vs ds → DpAll K H' vs ds
  | _, _, .nil => .nil
  | _, _, .cons h a => .cons (Dp.same s h) (DpAll.same s a)
end
end KB

namespace KB
open PySem PySem.Spec PyProof.Rows L2

/-! ## own classes of errors -/
structure ExcF (K : PySem.W.Frag) (mg : Str → Option Value) (x : Str) (C : Addr) : Prop where
  g : mg x = some (.ref C)
  q : PySem.W.excIn K C [.type "ValueError", .type "Exception", .type "BaseException", .type "object"] "ValueError.__new__" = true
  k : PySem.W.keepIn K (.ref C) = true
  b : PySem.W.subIn K (.ref C) (.type "BaseException") = some true
  t : PySem.W.typeIn K (.ref C) = some (.type "type")
  i : PySem.W.isClsIn K C = true
  s : PySem.W.subIn K (.ref C) (.ref C) = some true
theorem ps_raiseO {X : Cx} {W : WX} {x m : Str} {C : Addr} {j : Nat} {p p2 pos pos2 : Pos} (hc : X.calm = true) (tk : Takes X W) (F : ExcF X.K X.mg x C) (hg : Gl X x := by rfl) (hdb : (x == ("__debug__" : Str)) = false := by decide) :
    PS X (.Raise (some (.Call (.Name x p) [.Constant (.str m) j p2] [] pos)) none pos2) (fun _ σ H => W (.ref C) none σ H) :=
  ps_raise hc tk (pmk_own PySem.F.excBase_ValueError F.q F.g F.k (raises_own F.b F.t) hg hdb)

/-- a constant of the module: a text; a dict -/
theorem pe_globS {X : Cx} {x z : Str} {pos : Pos} (hg : Gl X x) (hm : ∃ t, X.mg x = some (.str z t)) (hd : (x == ("__debug__" : Str)) = false := by decide) : PE X (.Name x pos) (tC (.str z)) := by
  obtain ⟨t, h⟩ := hm
  exact pe_glob hg h ⟨_, rfl⟩ hd
def tDS (K : PySem.W.Frag) (w : World) (kvs : List (Str × V)) : TE := fun _ H Q => ∀ d, DictS K w d kvs → Q (.ref d) H
theorem pe_globD {X : Cx} {x : Str} {kvs : List (Str × V)} {pos : Pos} (hg : Gl X x) (hm : ∃ d, X.mg x = some (.ref d) ∧ DictS X.K X.w d kvs) (hd : (x == ("__debug__" : Str)) = false := by decide) : PE X (.Name x pos) (tDS X.K X.w kvs) := by
  obtain ⟨d, h, D⟩ := hm
  exact ⟨fun pins s σ H Q I q => (pe_glob (v := .ref d) hg h (by exact rfl) hd).run pins s σ H Q I (q d D)⟩

/-! ## kinds -/
inductive Kd where
  | b (n : Nat) | u | p (x y : Kd) | f (x y : Kd)
  deriving DecidableEq, Repr
namespace Kd
def dat : Kd → PyData
  | b n => .tuple [.str "base", .int n]
  | u => .tuple [.str "unit"]
  | p x y => .tuple [.str "both", x.dat, y.dat]
  | f x y => .tuple [.str "from", x.dat, y.dat]
def ok : Kd → Prop
  | b n => n < 8
  | u => True
  | p x y => x.ok ∧ y.ok
  | f x y => x.ok ∧ y.ok
def leaves : Kd → Nat
  | b _ => 1 | u => 1
  | p x y => x.leaves + y.leaves
  | f x y => x.leaves + y.leaves
def deep : Kd → Nat
  | b _ => 1 | u => 1
  | p x y => 1 + max x.deep y.deep
  | f x y => 1 + max x.deep y.deep
theorem leaves_pos : ∀ k : Kd, 1 ≤ k.leaves
  | b _ => Nat.le_refl _
  | u => Nat.le_refl _
  | p x y => by have := leaves_pos x; simp only [leaves]; omega
  | f x y => by have := leaves_pos x; simp only [leaves]; omega
theorem deep_le : ∀ k : Kd, k.deep ≤ k.leaves
  | b _ => Nat.le_refl _
  | u => Nat.le_refl _
  | p x y => by have := deep_le x; have := deep_le y; have := leaves_pos x; have := leaves_pos y; simp only [leaves, deep]; omega
  | f x y => by have := deep_le x; have := deep_le y; have := leaves_pos x; have := leaves_pos y; simp only [leaves, deep]; omega
theorem dat_depth : ∀ k : Kd, k.dat.depth = k.deep
  | b _ => by simp [dat, deep, PyData.depth, PyData.depthAll]
  | u => by simp [dat, deep, PyData.depth, PyData.depthAll]
  | p x y => by have := dat_depth x; have := dat_depth y; simp only [dat, deep, PyData.depth, PyData.depthAll]; omega
  | f x y => by have := dat_depth x; have := dat_depth y; simp only [dat, deep, PyData.depth, PyData.depthAll]; omega
theorem dat_lay : ∀ k : Kd, k.dat.canLay0 = true
  | b _ => by simp [dat, PyData.canLay0, PyData.canLayAll0]; decide +kernel
  | u => by simp [dat, PyData.canLay0, PyData.canLayAll0]; decide +kernel
  | p x y => by simp [dat, PyData.canLay0, PyData.canLayAll0, dat_lay x, dat_lay y]; decide +kernel
  | f x y => by simp [dat, PyData.canLay0, PyData.canLayAll0, dat_lay x, dat_lay y]; decide +kernel
end Kd

/-! ## any thing: data, empty dicts among them -/
mutual
inductive Dq (K : PySem.W.Frag) (H : Hp) : V → PyData → Prop
  | non : Dq K H .non .none
  | bl (b : Bool) : Dq K H (.bl b) (.bool b)
  | int (i : Int) : Dq K H (.int i) (.int i)
  | str (x : Str) : Dq K H (.str x) (.str x)
  | lst {a : Addr} {xs : List V} {ds : List PyData} : SqL K H a xs → DqAll K H xs ds → Dq K H (.ref a) (.list ds)
  | tup {a : Addr} {xs : List V} {ds : List PyData} : SqT K H a xs → DqAll K H xs ds → Dq K H (.ref a) (.tuple ds)
  | dct {a : Addr} : H a = some (.dK []) → Dq K H (.ref a) (.dict [])
inductive DqAll (K : PySem.W.Frag) (H : Hp) : List V → List PyData → Prop
  | nil : DqAll K H [] []
  | cons {v : V} {vs : List V} {d : PyData} {ds : List PyData} : Dq K H v d → DqAll K H vs ds → DqAll K H (v :: vs) (d :: ds)
end
mutual
theorem Dq.same {K : PySem.W.Frag} {H H' : Hp} (s : Same H H') : ∀ {d : PyData} {v : V}, Dq K H v d → Dq K H' v d
  | _, _, .non => .non
  | _, _, .bl b => .bl b
  | _, _, .int i => .int i
  | _, _, .str x => .str x
  | _, _, .lst h a => .lst (L2.Same.seq s h) (DqAll.same s a)
  | _, _, .tup h a => .tup (Same.tup s h) (DqAll.same s a)
  | _, _, .dct h => .dct (s _ _ h)
theorem DqAll.same {K : PySem.W.Frag} {H H' : Hp} (s : Same H H') : ∀ {ds : List PyData} {vs : List V}, DqAll K H vs ds → DqAll K H' vs ds
  | _, _, .nil => .nil
  | _, _, .cons h a => .cons (Dq.same s h) (DqAll.same s a)
end
mutual
theorem Dq.dp {K : PySem.W.Frag} {H : Hp} : ∀ {d : PyData} {v : V}, d.canLay0 = true → Dq K H v d → Dp K H v d
  | _, _, _, .non => .non
  | _, _, _, .bl b => .bl b
  | _, _, _, .int i => .int i
  | _, _, _, .str x => .str x
  | _, _, c, .lst h a => .lst h (DqAll.dp (by simpa [PyData.canLay0] using c) a)
  | _, _, c, .tup h a => .tup h (DqAll.dp (by simpa [PyData.canLay0] using c) a)
  | _, _, c, .dct _ => by simp [PyData.canLay0] at c
theorem DqAll.dp {K : PySem.W.Frag} {H : Hp} : ∀ {ds : List PyData} {vs : List V}, PyData.canLayAll0 ds = true → DqAll K H vs ds → DpAll K H vs ds
  | _, _, _, .nil => .nil
  | d :: ds, _, c, .cons h a => by
    have c' : d.canLay0 = true ∧ PyData.canLayAll0 ds = true := by simpa [PyData.canLayAll0] using c
    exact .cons (Dq.dp c'.1 h) (DqAll.dp c'.2 a)
end
mutual
theorem Dq.of {K : PySem.W.Frag} {H : Hp} : ∀ {d : PyData} {v : V}, Dp K H v d → Dq K H v d
  | _, _, .non => .non
  | _, _, .bl b => .bl b
  | _, _, .int i => .int i
  | _, _, .str x => .str x
  | _, _, .lst h a => .lst h (DqAll.of a)
  | _, _, .tup h a => .tup h (DqAll.of a)
theorem DqAll.of {K : PySem.W.Frag} {H : Hp} : ∀ {ds : List PyData} {vs : List V}, DpAll K H vs ds → DqAll K H vs ds
  | _, _, .nil => .nil
  | _, _, .cons h a => .cons (Dq.of h) (DqAll.of a)
end
theorem DqAll.length {K : PySem.W.Frag} {H : Hp} : ∀ {ds : List PyData} {vs : List V}, DqAll K H vs ds → vs.length = ds.length
  | _, _, .nil => rfl
  | _, _, .cons _ a => congrArg (· + 1) (DqAll.length a)
theorem DqAll.append {K : PySem.W.Frag} {H : Hp} : ∀ {ds es : List PyData} {vs us : List V}, DqAll K H vs ds → DqAll K H us es → DqAll K H (vs ++ us) (ds ++ es)
  | _, _, _, _, .nil, b => b
  | _, _, _, _, .cons h a, b => .cons h (DqAll.append a b)
/-- the last one -/
theorem DqAll.last {K : PySem.W.Frag} {H : Hp} : ∀ {ds : List PyData} {d : PyData} {vs : List V}, DqAll K H vs (ds ++ [d]) → ∃ us v, vs = us ++ [v] ∧ DqAll K H us ds ∧ Dq K H v d
  | [], _, _, .cons h .nil => ⟨[], _, rfl, .nil, h⟩
  | _ :: ds, d, _, .cons h a => by
    obtain ⟨us, v, rfl, b, c⟩ := DqAll.last (ds := ds) a
    exact ⟨_ :: us, v, rfl, .cons h b, c⟩
def tyN : PyData → String
  | .none => "NoneType" | .bool _ => "bool" | .int _ => "int" | .str _ => "str" | .list _ => "list" | .tuple _ => "tuple" | .dict _ => "dict"
theorem Dq.ty {K : PySem.W.Frag} {H : Hp} {v : V} {d : PyData} (h : Dq K H v d) : TyB K H v (tyN d) := by
  cases h with
  | non => exact .non
  | bl b => exact .bl b
  | int i => exact .int i
  | str x => exact .str x
  | lst s _ => exact .lst s
  | tup s _ => exact .tup s
  | dct e => exact .dK e

/-! ## sizes -/
mutual
def sz : PyData → Nat
  | .list xs => 1 + szs xs
  | .tuple xs => 1 + szs xs
  | .none => 1 | .bool _ => 1 | .int _ => 1 | .str _ => 1 | .dict _ => 1
def szs : List PyData → Nat
  | [] => 0
  | x :: xs => sz x + szs xs
end
theorem szs_append : ∀ xs ys : List PyData, szs (xs ++ ys) = szs xs + szs ys
  | [], ys => by simp [szs]
  | x :: xs, ys => by simp only [List.cons_append, szs, szs_append xs ys]; omega
theorem sz_pos : ∀ d : PyData, 1 ≤ sz d
  | .list xs => by simp only [sz]; omega
  | .tuple xs => by simp only [sz]; omega
  | .none => by simp [sz]
  | .bool _ => by simp [sz]
  | .int _ => by simp [sz]
  | .str _ => by simp [sz]
  | .dict _ => by simp [sz]
theorem len_szs : ∀ ds : List PyData, ds.length ≤ szs ds
  | [] => Nat.zero_le _
  | d :: ds => by have := sz_pos d; have := len_szs ds; simp only [szs, List.length_cons]; omega
theorem Kd.sz_dat : ∀ k : Kd, sz k.dat ≤ 6 * k.leaves - 3
  | .b _ => by simp [Kd.dat, sz, szs, Kd.leaves]
  | .u => by simp [Kd.dat, sz, szs, Kd.leaves]
  | .p x y => by have := sz_dat x; have := sz_dat y; have := Kd.leaves_pos x; have := Kd.leaves_pos y; simp only [Kd.dat, sz, szs, Kd.leaves]; omega
  | .f x y => by have := sz_dat x; have := sz_dat y; have := Kd.leaves_pos x; have := Kd.leaves_pos y; simp only [Kd.dat, sz, szs, Kd.leaves]; omega
theorem fits {n : Nat} (h : n ≤ 10000000) : n ≤ sizeLine := Nat.le_trans h (by decide)
theorem fits_lt {n : Nat} (h : n ≤ 10000000) : n < sizeLine := Nat.lt_of_le_of_lt h (by decide)
theorem dl_append {α : Type} (xs : List α) (x : α) : (xs ++ [x]).dropLast = xs := by simp
theorem last_at {α : Type} (xs : List α) (x : α) : (xs ++ [x])[(xs ++ [x]).length - 1]? = some x := by simp
theorem cut1 (xs : List V) (x : V) : cutV (x :: xs) (some 1) none = xs := by
  have e : HT.sIx (x :: xs).length 0 (some 1) = 1 := by
    have := HT.sIx_nat (x :: xs).length 0 1
    rw [List.length_cons] at this ⊢
    exact this.trans (by omega)
  unfold cutV
  rw [e]
  show (List.drop 1 (x :: xs)).take ((x :: xs).length - 1) = xs
  simp
theorem cut1_not (xs : List V) (x : V) : ¬ (HT.sIx (x :: xs).length 0 (some 1) = 0 ∧ HT.sIx (x :: xs).length (x :: xs).length none = (x :: xs).length) := by
  have e : HT.sIx (x :: xs).length 0 (some 1) = 1 := by
    have := HT.sIx_nat (x :: xs).length 0 1
    rw [List.length_cons] at this ⊢
    exact this.trans (by omega)
  rw [e]; intro h; exact absurd h.1 (by decide)

/-! ## what a kind is -/
def isBn : PyData → Bool
  | .int n => decide (0 ≤ n) && decide (n < 8)
  | _ => false
/-- a kind, if what it is made of are such -/
def shp : PyData → Bool
  | .tuple (.str w :: r) =>
    if w = "base" then (match r with | [x] => isBn x | _ => false)
    else if w = "unit" then r.isEmpty
    else (decide (w = "both") || decide (w = "from")) && r.length == 2
  | _ => false
def isKd : PyData → Bool
  | .tuple [.str w] => decide (w = "unit")
  | .tuple [.str w, x] => decide (w = "base") && isBn x
  | .tuple [.str w, x, y] => (decide (w = "both") || decide (w = "from")) && (isKd x && isKd y)
  | _ => false
theorem isKd_dat : ∀ k : Kd, k.ok → isKd k.dat = true
  | .b n, h => by
    have h' : n < 8 := h
    simp only [Kd.dat, isKd, isBn]
    rw [decide_eq_true (by omega : (0 : Int) ≤ (n : Int)), decide_eq_true (by omega : (n : Int) < 8)]; decide
  | .u, _ => by decide
  | .p x y, h => by simp only [Kd.dat, isKd, isKd_dat x h.1, isKd_dat y h.2]; decide
  | .f x y, h => by simp only [Kd.dat, isKd, isKd_dat x h.1, isKd_dat y h.2]; decide
theorem kd_of : ∀ d : PyData, isKd d = true → ∃ k : Kd, k.ok ∧ d = k.dat
  | .tuple [.str w], h => by
    simp only [isKd, decide_eq_true_eq] at h
    exact ⟨.u, trivial, by rw [h]; rfl⟩
  | .tuple [.str w, x], h => by
    simp only [isKd, Bool.and_eq_true, decide_eq_true_eq] at h
    obtain ⟨h1, h2⟩ := h
    cases x <;> simp only [isBn, Bool.and_eq_true, decide_eq_true_eq] at h2 <;> try cases h2
    rename_i n a b
    refine ⟨.b n.toNat, by show n.toNat < 8; omega, ?_⟩
    have e : ((n.toNat : Nat) : Int) = n := by omega
    simp only [Kd.dat, e, h1]
  | .tuple [.str w, x, y], h => by
    simp only [isKd, Bool.and_eq_true, Bool.or_eq_true, decide_eq_true_eq] at h
    obtain ⟨h1, h2, h3⟩ := h
    obtain ⟨kx, ox, ex⟩ := kd_of x h2
    obtain ⟨ky, oy, ey⟩ := kd_of y h3
    rcases h1 with h1 | h1
    · exact ⟨.p kx ky, ⟨ox, oy⟩, by rw [h1, ex, ey]; rfl⟩
    · exact ⟨.f kx ky, ⟨ox, oy⟩, by rw [h1, ex, ey]; rfl⟩
  | .none, h => by simp [isKd] at h
  | .bool _, h => by simp [isKd] at h
  | .int _, h => by simp [isKd] at h
  | .str _, h => by simp [isKd] at h
  | .list _, h => by simp [isKd] at h
  | .dict _, h => by simp [isKd] at h
  | .tuple [], h => by simp [isKd] at h
  | .tuple (.none :: _), h => by simp [isKd] at h
  | .tuple (.bool _ :: _), h => by simp [isKd] at h
  | .tuple (.int _ :: _), h => by simp [isKd] at h
  | .tuple (.list _ :: _), h => by simp [isKd] at h
  | .tuple (.tuple _ :: _), h => by simp [isKd] at h
  | .tuple (.dict _ :: _), h => by simp [isKd] at h
  | .tuple (.str _ :: _ :: _ :: _ :: _), h => by simp [isKd] at h
def kids : PyData → List PyData
  | .tuple (.str w :: r) => if w = "both" ∨ w = "from" then r else []
  | _ => []
theorem kids_sz : ∀ d : PyData, szs (kids d) < sz d
  | .none => by simp [kids, sz, szs]
  | .bool _ => by simp [kids, sz, szs]
  | .int _ => by simp [kids, sz, szs]
  | .str _ => by simp [kids, sz, szs]
  | .list _ => by simp only [kids, sz, szs]; omega
  | .dict _ => by simp [kids, sz, szs]
  | .tuple [] => by simp [kids, sz, szs]
  | .tuple (.none :: _) => by simp only [kids, sz, szs]; omega
  | .tuple (.bool _ :: _) => by simp only [kids, sz, szs]; omega
  | .tuple (.int _ :: _) => by simp only [kids, sz, szs]; omega
  | .tuple (.list _ :: _) => by simp only [kids, sz, szs]; omega
  | .tuple (.tuple _ :: _) => by simp only [kids, sz, szs]; omega
  | .tuple (.dict _ :: _) => by simp only [kids, sz, szs]; omega
  | .tuple (.str w :: r) => by
    simp only [kids]
    split
    · simp only [sz, szs]; omega
    · simp only [sz, szs]; omega
/-- a thing that has a kind's shape -/
theorem shp_is : ∀ d : PyData, shp d = true → ∃ w r, d = .tuple (.str w :: r)
  | .tuple (.str w :: r), _ => ⟨w, r, rfl⟩
  | .tuple [], h => by simp [shp] at h
  | .tuple (.none :: _), h => by simp [shp] at h
  | .tuple (.bool _ :: _), h => by simp [shp] at h
  | .tuple (.int _ :: _), h => by simp [shp] at h
  | .tuple (.list _ :: _), h => by simp [shp] at h
  | .tuple (.tuple _ :: _), h => by simp [shp] at h
  | .tuple (.dict _ :: _), h => by simp [shp] at h
  | .none, h => by simp [shp] at h
  | .bool _, h => by simp [shp] at h
  | .int _, h => by simp [shp] at h
  | .str _, h => by simp [shp] at h
  | .list _, h => by simp [shp] at h
  | .dict _, h => by simp [shp] at h
theorem unit_ne_base : ¬ (("unit" : Str) = "base") := by decide
/-- one turn of a walk that takes a thing apart -/
theorem isKd_turn : ∀ d : PyData, isKd d = (shp d && (kids d).all isKd)
  | .none => rfl
  | .bool _ => rfl
  | .int _ => rfl
  | .str _ => rfl
  | .list _ => rfl
  | .dict _ => rfl
  | .tuple [] => by simp [isKd, shp]
  | .tuple (.none :: _) => by simp [isKd, shp]
  | .tuple (.bool _ :: _) => by simp [isKd, shp]
  | .tuple (.int _ :: _) => by simp [isKd, shp]
  | .tuple (.list _ :: _) => by simp [isKd, shp]
  | .tuple (.tuple _ :: _) => by simp [isKd, shp]
  | .tuple (.dict _ :: _) => by simp [isKd, shp]
  | .tuple [.str w] => by
    by_cases h : w = "base"
    · subst h; decide
    · by_cases h2 : w = "unit"
      · subst h2; decide
      · simp [isKd, shp, h, h2]
  | .tuple [.str w, x] => by
    by_cases h : w = "base"
    · subst h
      have e : kids (.tuple [.str "base", x]) = [] := by simp only [kids]; exact if_neg (by decide)
      rw [e]; simp [isKd, shp]
    · by_cases h2 : w = "unit"
      · subst h2; simp [isKd, shp, unit_ne_base]
      · simp [isKd, shp, h, h2]
  | .tuple [.str w, x, y] => by
    by_cases h : w = "base"
    · subst h; simp [isKd, shp]; intro h3; rcases h3 with h3 | h3 <;> exact absurd h3 (by decide)
    · by_cases h2 : w = "unit"
      · subst h2; simp [isKd, shp, unit_ne_base]; intro h3; rcases h3 with h3 | h3 <;> exact absurd h3 (by decide)
      · by_cases h3 : w = "both" ∨ w = "from"
        · simp [isKd, shp, h, h2, kids, h3]
        · have h4 : ¬ w = "both" := fun e => h3 (.inl e)
          have h5 : ¬ w = "from" := fun e => h3 (.inr e)
          simp [isKd, shp, h, h2, h4, h5]
  | .tuple (.str w :: x :: y :: z :: r) => by
    by_cases h : w = "base"
    · subst h; simp [isKd, shp]
    · by_cases h2 : w = "unit"
      · subst h2; simp [isKd, shp, unit_ne_base]
      · simp [isKd, shp, h, h2]
end KB
namespace KB
theorem iteT' {c : Bool} {A B : Prop} (e : c = true) (h : A) : if c = true then A else B := by rw [if_pos e]; exact h
theorem iteF' {c : Bool} {A B : Prop} (e : c = false) (h : B) : if c = true then A else B := by rw [e]; exact L2.iteF h
end KB
namespace KB
open L2
theorem at0 {α : Type} (x : α) (xs : List α) : atI (x :: xs) 0 = some x := atI_nat (j := 0) rfl
theorem at1 {α : Type} (x y : α) (xs : List α) : atI (x :: y :: xs) 1 = some y := atI_nat (j := 1) rfl
theorem at2 {α : Type} (x y z : α) (xs : List α) : atI (x :: y :: z :: xs) 2 = some z := atI_nat (j := 2) rfl
theorem qbl {Q : VK} {H : Hp} {a b : Bool} (q : Q (.bl a) H) (e : a = b) : Q (.bl b) H := e ▸ q
theorem len_cons_int {α : Type} (x : α) (xs : List α) : (((x :: xs).length : Nat) : Int) = (xs.length : Int) + 1 := by rw [List.length_cons]; omega
end KB
namespace KB
open PySem L2
theorem same_keepO' {H : Hp} {l : Addr} (hl : H l = none) {o : HO} : Same H (out l (upd H l o)) := fun b u e => by
  have n := ne_of_none e hl
  rw [out_ne n, upd_ne n]; exact e
theorem same_keep {H H' : Hp} {l : Addr} (hl : H l = none) (s : Same H (out l H')) (o : HO) : Same H (upd H' l o) := fun b u e => by
  have n := ne_of_none e hl
  rw [upd_ne n]; exact (out_some (s b u e)).2
theorem same_keepO {H H' : Hp} {l : Addr} (s : Same H (out l H')) (o : HO) : Same H (out l (upd H' l o)) := fun b u e => by
  obtain ⟨n, h⟩ := out_some (s b u e)
  rw [out_ne n, upd_ne n]; exact h
theorem out_upd {H : Hp} {l : Addr} {o : HO} : Same (out l H) (upd H l o) := fun b u e => by
  obtain ⟨n, h⟩ := out_some e
  rw [upd_ne n]; exact h
theorem of_out {H H' : Hp} {l : Addr} (s : Same H (out l H')) : Same H H' := fun b u e => (out_some (s b u e)).2
end KB

namespace KB
open PySem PySem.Spec PyProof.Rows L2

/-! ## texts of kinds, as lists of codes -/
def tx (l : List Nat) : Str := ⟨l.toArray⟩
theorem tx_tl (x : Str) : tx x.cps.toList = x := by cases x; simp [tx]
theorem tl_tx (l : List Nat) : (tx l).cps.toList = l := by simp [tx]
theorem tx_append (a b : List Nat) : tx a ++ tx b = tx (a ++ b) := Str.ext' (by rw [Str.cps_append]; simp [tx])
theorem tx_length (a : List Nat) : (tx a).length = a.length := by show a.toArray.size = _; simp
theorem tx_inj {a b : List Nat} (h : tx a = tx b) : a = b := by rw [← tl_tx a, h, tl_tx]
namespace Kd
def cod : Kd → List Nat
  | b n => [97 + n]
  | u => [49]
  | p x y => 40 :: (x.cod ++ 42 :: (y.cod ++ [41]))
  | f x y => 40 :: (x.cod ++ 62 :: (y.cod ++ [41]))
def txt (k : Kd) : Str := tx k.cod
theorem cod_length : ∀ k : Kd, k.cod.length + 3 ≤ 4 * k.leaves
  | b _ => by simp [cod, leaves]
  | u => by simp [cod, leaves]
  | p x y => by have := cod_length x; have := cod_length y; simp only [cod, leaves, List.length_cons, List.length_append, List.length_nil]; omega
  | f x y => by have := cod_length x; have := cod_length y; simp only [cod, leaves, List.length_cons, List.length_append, List.length_nil]; omega
theorem leaves_sz : ∀ k : Kd, k.leaves + 1 ≤ sz k.dat
  | b _ => by simp [dat, sz, szs, leaves]
  | u => by simp [dat, sz, szs, leaves]
  | p x y => by have := leaves_sz x; have := leaves_sz y; simp only [dat, sz, szs, leaves]; omega
  | f x y => by have := leaves_sz x; have := leaves_sz y; simp only [dat, sz, szs, leaves]; omega
/-- what a walk over the kind has to do -/
def wk : Kd → Nat
  | b _ => 1 | u => 1
  | p x y => x.wk + y.wk + 4
  | f x y => x.wk + y.wk + 4
theorem wk_le : ∀ k : Kd, k.wk + 4 ≤ 5 * k.leaves
  | b _ => by simp [wk, leaves]
  | u => by simp [wk, leaves]
  | p x y => by have := wk_le x; have := wk_le y; simp only [wk, leaves]; omega
  | f x y => by have := wk_le x; have := wk_le y; simp only [wk, leaves]; omega
theorem dat_inj : ∀ x y : Kd, x.dat = y.dat → x = y
  | b n, b m, h => by simp only [dat, PyData.tuple.injEq, List.cons.injEq, PyData.int.injEq] at h; have : n = m := by omega
                      rw [this]
  | u, u, _ => rfl
  | p x y, p x' y', h => by
    simp only [dat, PyData.tuple.injEq, List.cons.injEq, and_true, true_and] at h
    rw [dat_inj x x' h.1, dat_inj y y' h.2]
  | f x y, f x' y', h => by
    simp only [dat, PyData.tuple.injEq, List.cons.injEq, and_true, true_and] at h
    rw [dat_inj x x' h.1, dat_inj y y' h.2]
  | b _, u, h => by simp [dat] at h
  | b _, p _ _, h => by simp [dat] at h
  | b _, f _ _, h => by simp [dat] at h
  | u, b _, h => by simp [dat] at h
  | u, p _ _, h => by simp [dat] at h
  | u, f _ _, h => by simp [dat] at h
  | p _ _, b _, h => by simp [dat] at h
  | p _ _, u, h => by simp [dat] at h
  | f _ _, b _, h => by simp [dat] at h
  | f _ _, u, h => by simp [dat] at h
  | p _ _, f _ _, h => by
    simp only [dat, PyData.tuple.injEq, List.cons.injEq, PyData.str.injEq] at h
    exact absurd h.1 (by decide)
  | f _ _, p _ _, h => by
    simp only [dat, PyData.tuple.injEq, List.cons.injEq, PyData.str.injEq] at h
    exact absurd h.1 (by decide)
end Kd
theorem joinL_nil : ∀ ls : List (List Nat), TL.joinL [] ls = ls.flatten
  | [] => rfl
  | [p] => by simp [TL.joinL]
  | p :: q :: r => by simp only [TL.joinL, joinL_nil (q :: r), List.flatten_cons, List.nil_append]
theorem join_nil (ls : List (List Nat)) : Txt.join "" (ls.map tx) = tx ls.flatten := by
  rw [TL.join_eq, ← tx_tl (Str.join "" (ls.map tx))]
  have h := TL.tl_join "" (ls.map tx)
  have e : TL.tl ("" : Str) = [] := rfl
  rw [e, joinL_nil, List.map_map] at h
  have e2 : (TL.tl ∘ tx) = id := funext fun l => tl_tx l
  rw [e2, List.map_id] at h
  exact congrArg tx h
theorem join_size (ls : List (List Nat)) : ((ls.map tx).map (·.length)).sum = ls.flatten.length := by
  rw [List.map_map, List.length_flatten]
  exact congrArg List.sum (List.map_congr_left fun l _ => tx_length l)
/-- what a walk that writes a kind has on its stack -/
inductive Itm where
  | s (z : List Nat) | k (k : Kd)
namespace Itm
def dat : Itm → PyData
  | .s z => .str (tx z)
  | .k x => x.dat
def cod : Itm → List Nat
  | .s z => z
  | .k x => x.cod
def wk : Itm → Nat
  | .s _ => 1
  | .k x => x.wk
def ok : Itm → Prop
  | .s _ => True
  | .k x => x.ok
theorem wk_pos : ∀ i : Itm, 1 ≤ i.wk
  | .s _ => Nat.le_refl _
  | .k (.b _) => Nat.le_refl _
  | .k .u => Nat.le_refl _
  | .k (.p x y) => by simp only [wk, Kd.wk]; omega
  | .k (.f x y) => by simp only [wk, Kd.wk]; omega
end Itm
def wks (is : List Itm) : Nat := (is.map Itm.wk).sum
/-- the text of a stack, its last one first -/
def cods (is : List Itm) : List Nat := (is.reverse.map Itm.cod).flatten
theorem wks_append (a b : List Itm) : wks (a ++ b) = wks a + wks b := by simp [wks]
theorem cods_snoc (a : List Itm) (x : Itm) : cods (a ++ [x]) = x.cod ++ cods a := by simp [cods]
theorem cods_append (a b : List Itm) : cods (a ++ b) = cods b ++ cods a := by simp [cods]
theorem len_wks : ∀ is : List Itm, is.length ≤ wks is
  | [] => Nat.zero_le _
  | i :: r => by have := i.wk_pos; have := len_wks r; simp only [wks, List.map_cons, List.sum_cons, List.length_cons] at *; omega
end KB
namespace KB
open PySem L2
theorem Kd.ty (k : Kd) : tyN k.dat = "tuple" := by cases k <;> rfl
theorem same2 {H H' : Hp} {l p a : Addr} (h : Same H (out l (out p H'))) (o : HO) (e : a = l ∨ a = p) : Same H (out l (out p (upd H' a o))) := fun b u q => by
  obtain ⟨n1, h1⟩ := out_some (h b u q)
  obtain ⟨n2, h2⟩ := out_some h1
  rw [out_ne n1, out_ne n2, upd_ne (by rcases e with e | e <;> rw [e] <;> assumption)]
  exact h2
theorem same2_new {H H' : Hp} {l p a : Addr} (h : Same H (out l (out p H'))) (o : HO) (e : H' a = none) : Same H (out l (out p (upd H' a o))) := fun b u q => by
  obtain ⟨n1, h1⟩ := out_some (h b u q)
  obtain ⟨n2, h2⟩ := out_some h1
  rw [out_ne n1, out_ne n2, upd_ne (ne_of_none h2 e)]
  exact h2
theorem of_out2 {H H' : Hp} {l p : Addr} (s : Same H (out l (out p H'))) : Same H H' := fun b u e => (out_some (out_some (s b u e)).2).2
theorem out2_sub {H : Hp} {l p : Addr} : Same (out l (out p H)) H := of_out2 (Same.refl _)
theorem strs_map (ls : List (List Nat)) (z : List Nat) : ((ls.map tx).map V.str) ++ [V.str (tx z)] = ((ls ++ [z]).map tx).map V.str := by simp
end KB

namespace KB
open PySem PySem.Spec PyProof.Rows L2
/-! ## xs[lo:hi] = ys, the bounds of any sign -/
section
variable {prog : Program} {w : World} {A : Around} {E : Value → Shared → Prop} {s : Shared}
theorem store_cut {l b sl : Addr} {as bs : List Value} {n n2 : Nat} {vl vu : Value} {lo hi : Option Int} {Q : Unit → Shared → Prop}
    (el : s.heap.get? l = some { cls := .type "list", data := .seq as.toArray n }) (eb : s.heap.get? b = some { cls := .type "list", data := .seq bs.toArray n2 }) (nlb : l ≠ b)
    (is : s.heap.IsSliceOf sl vl vu .none) (pl : IsPart vl lo) (pu : IsPart vu hi) (ord : HT.sIx as.length 0 lo ≤ HT.sIx as.length as.length hi) (room : as.length + bs.length ≤ sizeLine)
    (k : Q () { s with heap := s.heap.update l (Obj.mapSeq fun xs => xs.extract 0 (HT.sIx as.length 0 lo) ++ bs.toArray ++ xs.extract (HT.sIx as.length as.length hi) xs.size) }) :
    wpAny (model prog w) A (setItem (.ref l) (.ref sl) (.ref b)) Q E s := by
  have Ll := (PySem.IsL.isList el).typeIs
  have Lb := (PySem.IsL.isList eb).typeIs
  have hle := HT.sIx_le as.length as.length (Nat.le_refl _) hi
  obtain ⟨o, io, ic, idt⟩ := id is
  have Ls : s.TypeIs (.ref sl) "slice" := ⟨o, io, ic⟩
  have apart : Builtin.List.listSameRef (.ref l) (.ref b) = false := beq_eq_false_iff_ne.mpr nlb
  have szA : as.toArray.size = as.length := by simp
  have szB : bs.toArray.size = bs.length := by simp
  obtain ⟨b1, b2, b3⟩ := slice_bounds lo hi as.length
  have bds : sliceBounds lo hi none as.toArray.size = (((HT.sIx as.length 0 lo : Nat) : Int), ((HT.sIx as.length as.length hi : Nat) : Int), 1) := by rw [szA]; exact Prod.ext b1 (Prod.ext b2 b3)
  generalize hp : HT.sIx as.length 0 lo = p at *
  generalize hq : HT.sIx as.length as.length hi = q at *
  have top : (max (p : Int) (q : Int)).toNat = q := by omega
  have room1 : as.toArray.size ≤ sizeLine := by omega
  have room2 : ((fun xs : Array Value => xs.extract 0 p ++ bs.toArray ++ xs.extract q xs.size) as.toArray).size ≤ sizeLine + 1 := by simp only [Array.size_append, Array.size_extract]; omega
  unfold setItem
  refine wpAny_holding (wpAny_bind (wpAny_sequenceKey Ll (by decide) (wpAny_bind (wpAny_callSpecial?_slot (name := Str.ofString "__setitem__") Ll slot_list_setitem (wpAny_call_entry slot_list_setitem Ll entry_list_setitem ?_ (args_list_setitem _ _ _))))))
  -- the key is a slice: no index of its own
  show wpAny _ _ (Builtin.List.listSubscript? (.ref sl) >>= _) _ _ s
  unfold Builtin.List.listSubscript?
  refine wpAny_bind (wpAny_bind (wpAny_specialOf Ls slice_no_index ?_))
  rw [Option.isNone_none, if_pos rfl]
  refine wpAny_pure ?_
  show wpAny _ _ (typeOf (.ref sl) >>= _) _ _ s
  refine wpAny_bind (wpAny_typeOf Ls (PySem.W.KFB.if_not (by decide) ?_))
  rw [listSliceParts_eq]
  refine wpAny_bind (wpAny_bind (wpAny_field io idt (x := .none) rfl (wpAny_bind (wpAny_listPart .none (PySem.W.KFB.if_not (by decide) ?_)))))
  refine wpAny_bind (wpAny_field io idt (x := vl) rfl (wpAny_bind (wpAny_listPart pl (wpAny_bind (wpAny_field io idt (x := vu) rfl (wpAny_bind (wpAny_listPart pu (wpAny_pure ?_))))))))
  refine PySem.W.KFB.if_not apart (wpAny_bind (m := Builtin.List.listAllItems (.ref b) "must assign iterable to extended slice") ?_)
  unfold Builtin.List.listAllItems
  refine wpAny_bind (wpAny_typeOf Lb (PySem.W.KFB.if_so (by decide) ?_))
  unfold Builtin.List.listItems
  refine wpAny_bind (wpAny_seqItems eb rfl (wpAny_pure (wpAny_bind (wpAny_bind (wpAny_seqItems el rfl (wpAny_pure ?_))))))
  refine wpAny_bind (wpAny_of_eq ((sliceIndices_raw lo hi none as.toArray.size (by simp)).trans (congrArg pure bds)) ?_)
  show wpAny _ _ (if ((1 : Int) == 1) = true then _ else _) _ _ s
  refine PySem.W.KFB.if_so (by decide) (wpAny_bind (wpAny_rule (PySem.W.KFB.if_not (notLongL (by omega)) ?_)))
  show wpAny _ _ (updateSeq l (fun xs => xs.extract 0 ((p : Int)).toNat ++ bs.toArray ++ xs.extract (max (p : Int) (q : Int)).toNat xs.size) >>= _) _ _ s
  rw [top, Int.toNat_natCast]
  refine wpAny_bind (wpAny_updateSeq (hz := room1) (_hz' := room2) el rfl (wpAny_bind (wpAny_letGo ?_)))
  exact wpAny_pure ⟨.none, rfl, wpAny_pure k⟩
end
section
variable {X : Cx}
/-- xs[lo:hi] = ys -/
def gCut (to : TE) (tl th : TO) : TG := fun v σ H Q => to σ H fun o H1 => tl σ H1 fun lo H2 => th σ H2 fun hi H3 => ∃ l b xs ys, o = .ref l ∧ v = .ref b ∧ H3 l = some (.lst xs) ∧ H3 b = some (.lst ys) ∧ l ≠ b ∧
  HT.sIx xs.length 0 lo ≤ HT.sIx xs.length xs.length hi ∧ xs.length + ys.length ≤ sizeLine ∧ Q σ (upd H3 l (.lst (xs.take (HT.sIx xs.length 0 lo) ++ ys ++ xs.drop (HT.sIx xs.length xs.length hi))))
theorem pg_cut {e : Expr} {lo hi : Option Expr} {te : TE} {tl th : TO} {pos p2 : Pos} (he : PE X e te) (hl : PO X lo tl) (hh : PO X hi th) : PG X (.Subscript e (.Slice lo hi none p2) pos) (gCut te tl th) := by
  refine ⟨fun pins s σ H v u Q I r h => ?_⟩
  rw [arm_assign_Subscript]
  refine wpAny_bind (wpAny_holding (thn (he.run pins s σ H _ I h) fun ov s1 ⟨x, H1, I1, r1, q1⟩ => wpAny_bind (wpAny_holding ?_)))
  refine wpAny_Slice (thn (hl.run pins s1 σ H1 _ I1 q1) fun vl s2 ⟨l0, H2, I2, pl, q2⟩ => thn (hh.run pins s2 σ H2 _ I2 q2) fun vu s3 ⟨h0, H3, I3, pu, q3⟩ => ?_)
  rw [evalPart_none]
  refine wpAny_pure ?_
  obtain ⟨l, b, xs, ys, rfl, rfl, hL, hB, nlb, ord, room, q⟩ := q3
  cases r1
  cases r
  have I4 : Inv X pins σ H3 { s3 with heap := s3.heap.push { cls := .type "slice", data := .fields #[vl, vu, .none] } } := I3.kept (t' := s3.toks) fun c o z => Heap.get?_push_of_some _ z
  obtain ⟨_, as, n, ra, la, ea⟩ := I4.lstM hL
  obtain ⟨_, bs, n2, rb, lb, eb⟩ := I4.lstM hB
  refine wpAny_bind (wpAny_standAt (wpAny_bind (wpAny_holding (store_cut ea eb nlb (Heap.IsSliceOf.new ..) pl pu (by rw [← la]; exact ord) (by omega) (wpAny_release ?_)))))
  refine ⟨σ, _, I4.lset (its' := as.take (HT.sIx as.length 0 l0) ++ bs ++ as.drop (HT.sIx as.length as.length h0)) (t' := s3.toks) hL ea ?_ (Vals.append (Vals.append (ra.take _) rb) (ra.drop _)) ?_, ?_⟩
  · exact splice_eq as bs _ _
  · have := HT.sIx_le as.length as.length (Nat.le_refl _) h0
    have o2 := ord
    rw [la] at o2
    have l2 := rb.length
    rw [List.length_append, List.length_append, List.length_take, List.length_drop]; omega
  · rw [← la]; exact q
end

/-! ## reading a kind, sign by sign -/
inductive Pt where
  | s (c : Nat) | k (x : Kd)
def Pt.dat : Pt → PyData
  | .s c => .str (tx [c])
  | .k x => x.dat
def Pt.ok : Pt → Prop
  | .s _ => True
  | .k x => x.ok
/-- a sign alone -/
def rs (c : Nat) : Option Pt :=
  if c = 49 then some (.k .u) else if 97 ≤ c ∧ c < 105 then some (.k (.b (c - 97))) else if c = 40 ∨ c = 42 ∨ c = 62 then some (.s c) else none
/-- a brace is closed; the top of the stack first -/
def clo : List Pt → Option (List Pt)
  | .k y :: .s c :: .k x :: .s b :: r => if b = 40 then (if c = 42 then some (.k (.p x y) :: r) else if c = 62 then some (.k (.f x y) :: r) else none) else none
  | _ => none
def rdR : List Nat → List Pt → Option (List Pt)
  | [], st => some st
  | c :: cs, st => if c = 41 then (match clo st with | none => none | some st' => rdR cs st') else (match rs c with | none => none | some p => rdR cs (p :: st))
def rdE : List Pt → Option Kd
  | [.k x] => some x
  | _ => none
def rdK (cs : List Nat) : Option Kd := (rdR cs []).bind rdE
theorem rs_ok {c : Nat} {p : Pt} (h : rs c = some p) : p.ok := by
  unfold rs at h
  split at h
  · cases h; trivial
  · split at h
    · cases h; rename_i h2; show c - 97 < 8; omega
    · split at h
      · cases h; trivial
      · cases h
theorem clo_is {st st' : List Pt} (h : clo st = some st') : ∃ x y c r, st = .k y :: .s c :: .k x :: .s 40 :: r ∧ ((c = 42 ∧ st' = .k (.p x y) :: r) ∨ (c = 62 ∧ st' = .k (.f x y) :: r)) := by
  unfold clo at h
  split at h
  · rename_i y c x b r
    split at h
    · rename_i hb
      subst hb
      split at h
      · rename_i hc; cases h; exact ⟨x, y, c, r, rfl, .inl ⟨hc, rfl⟩⟩
      · split at h
        · rename_i hc; cases h; exact ⟨x, y, c, r, rfl, .inr ⟨hc, rfl⟩⟩
        · cases h
    · cases h
  · cases h
theorem clo_ok {st st' : List Pt} (h : clo st = some st') (hs : ∀ p ∈ st, p.ok) : (∀ p ∈ st', p.ok) ∧ st'.length ≤ st.length := by
  obtain ⟨x, y, c, r, rfl, h2⟩ := clo_is h
  have hx : x.ok := hs (.k x) (by simp)
  have hy : y.ok := hs (.k y) (by simp)
  have hr : ∀ p ∈ r, p.ok := fun p hp => hs p (by simp [hp])
  rcases h2 with ⟨_, rfl⟩ | ⟨_, rfl⟩
  · exact ⟨fun p hp => (List.mem_cons.mp hp).elim (fun e => by rw [e]; exact ⟨hx, hy⟩) (hr p), by simp only [List.length_cons]; omega⟩
  · exact ⟨fun p hp => (List.mem_cons.mp hp).elim (fun e => by rw [e]; exact ⟨hx, hy⟩) (hr p), by simp only [List.length_cons]; omega⟩
/-- reading a kind's text puts the kind on the stack -/
theorem rdR_cod : ∀ (k : Kd) (cs : List Nat) (st : List Pt), k.ok → rdR (k.cod ++ cs) st = rdR cs (.k k :: st)
  | .b n, cs, st, h => by
    have h' : n < 8 := h
    show (if 97 + n = 41 then _ else _) = _
    rw [if_neg (by omega)]
    have e : rs (97 + n) = some (.k (.b n)) := by
      unfold rs
      rw [if_neg (by omega), if_pos (by omega)]
      congr 3; omega
    rw [e]; rfl
  | .u, cs, st, _ => rfl
  | .p x y, cs, st, h => by
    show rdR (x.cod ++ 42 :: (y.cod ++ [41]) ++ cs) (.s 40 :: st) = _
    rw [List.append_assoc, rdR_cod x _ _ h.1]
    show rdR (y.cod ++ [41] ++ cs) (.s 42 :: .k x :: .s 40 :: st) = _
    rw [List.append_assoc, rdR_cod y _ _ h.2]; rfl
  | .f x y, cs, st, h => by
    show rdR (x.cod ++ 62 :: (y.cod ++ [41]) ++ cs) (.s 40 :: st) = _
    rw [List.append_assoc, rdR_cod x _ _ h.1]
    show rdR (y.cod ++ [41] ++ cs) (.s 62 :: .k x :: .s 40 :: st) = _
    rw [List.append_assoc, rdR_cod y _ _ h.2]; rfl
theorem rdK_cod (k : Kd) (h : k.ok) : rdK k.cod = some k := by
  have e := rdR_cod k [] [] h
  rw [List.append_nil] at e
  show (rdR k.cod []).bind rdE = some k
  rw [e]; rfl
/-- a stack that reads back to the signs that were taken -/
def Pt.cod : Pt → List Nat
  | .s c => [c]
  | .k x => x.cod
def codR (st : List Pt) : List Nat := (st.reverse.map Pt.cod).flatten
theorem codR_cons (p : Pt) (st : List Pt) : codR (p :: st) = codR st ++ p.cod := by simp [codR]
theorem rs_cod {c : Nat} {p : Pt} (h : rs c = some p) : p.cod = [c] := by
  unfold rs at h
  split at h
  · rename_i h1; cases h; rw [h1]; rfl
  · split at h
    · cases h; rename_i h2; show [97 + (c - 97)] = [c]; congr 1; omega
    · split at h
      · cases h; rfl
      · cases h
theorem rdR_text : ∀ (cs : List Nat) (st st' : List Pt), rdR cs st = some st' → codR st ++ cs = codR st'
  | [], st, st', h => by cases h; simp
  | c :: cs, st, st', h => by
    unfold rdR at h
    split at h
    · rename_i hc
      split at h
      · cases h
      · rename_i st2 e
        rw [← rdR_text cs st2 st' h]
        obtain ⟨x, y, d, r, rfl, h2⟩ := clo_is e
        rcases h2 with ⟨rfl, rfl⟩ | ⟨rfl, rfl⟩ <;> simp [codR_cons, Pt.cod, Kd.cod, hc]
    · split at h
      · cases h
      · rename_i p e
        rw [← rdR_text cs (p :: st) st' h, codR_cons, rs_cod e]; simp
/-- what is read is written so -/
theorem rdK_text {cs : List Nat} {k : Kd} (h : rdK cs = some k) : k.cod = cs := by
  unfold rdK at h
  cases e : rdR cs [] with
  | none => rw [e] at h; cases h
  | some st =>
    rw [e] at h
    have h2 : rdE st = some k := h
    unfold rdE at h2
    split at h2
    · cases h2
      have := rdR_text cs [] _ e
      simpa [codR, Pt.cod] using this.symm
    · cases h2
theorem rdR_ok : ∀ (cs : List Nat) (st st' : List Pt), rdR cs st = some st' → (∀ p ∈ st, p.ok) → ∀ p ∈ st', p.ok
  | [], st, st', h, hs => by cases h; exact hs
  | c :: cs, st, st', h, hs => by
    unfold rdR at h
    split at h
    · split at h
      · cases h
      · rename_i st2 e
        exact rdR_ok cs st2 st' h (clo_ok e hs).1
    · split at h
      · cases h
      · rename_i p e
        exact rdR_ok cs (p :: st) st' h fun q hq => (List.mem_cons.mp hq).elim (fun z => by rw [z]; exact rs_ok e) (hs q)
theorem rdK_ok {cs : List Nat} {k : Kd} (h : rdK cs = some k) : k.ok := by
  unfold rdK at h
  cases e : rdR cs [] with
  | none => rw [e] at h; cases h
  | some st =>
    rw [e] at h
    have h2 : rdE st = some k := h
    unfold rdE at h2
    split at h2
    · cases h2
      exact rdR_ok cs [] _ e (fun _ z => nomatch z) (.k k) (by simp)
    · cases h2
end KB
namespace KB
open PySem L2
theorem DqAll.last4 {K : PySem.W.Frag} {H : Hp} {ds : List PyData} {a b c d : PyData} {vs : List V} (h : DqAll K H vs (ds ++ [a, b, c, d])) :
    ∃ us v1 v2 v3 v4, vs = us ++ [v1, v2, v3, v4] ∧ DqAll K H us ds ∧ Dq K H v1 a ∧ Dq K H v2 b ∧ Dq K H v3 c ∧ Dq K H v4 d := by
  have h' : DqAll K H vs (((ds ++ [a]) ++ [b]) ++ [c] ++ [d]) := by simpa using h
  obtain ⟨u4, v4, rfl, h3, r4⟩ := h'.last
  obtain ⟨u3, v3, rfl, h2, r3⟩ := h3.last
  obtain ⟨u2, v2, rfl, h1, r2⟩ := h2.last
  obtain ⟨u1, v1, rfl, h0, r1⟩ := h1.last
  exact ⟨u1, v1, v2, v3, v4, by simp, h0, r1, r2, r3, r4⟩
end KB
namespace KB
open PySem L2
theorem Kd.ne_str (k : Kd) (x : Str) : PyData.eqv k.dat (.str x) = false := by cases k <;> simp [Kd.dat, PyData.eqv]
theorem str_lay {x : Str} (h : PyData.strOk x = true) : (PyData.str x).canLay0 = true := by simpa [PyData.canLay0] using h
end KB
namespace KB
open PySem L2
theorem rdR_close (cs : List Nat) (st : List Pt) : rdR (41 :: cs) st = (clo st).bind (rdR cs) := by
  show (if 41 = 41 then _ else _) = _
  rw [if_pos rfl]; cases clo st <;> rfl
theorem rdR_sign {c : Nat} (h : ¬ c = 41) (cs : List Nat) (st : List Pt) : rdR (c :: cs) st = (rs c).bind fun p => rdR cs (p :: st) := by
  show (if c = 41 then _ else _) = _
  rw [if_neg h]; cases rs c <;> rfl
/-! ## data without lists and dicts don't lean on what may change -/
mutual
def pureT : PyData → Bool
  | .none => true | .bool _ => true | .int _ => true | .str _ => true
  | .tuple xs => pureTs xs
  | .list _ => false | .dict _ => false
def pureTs : List PyData → Bool
  | [] => true
  | x :: xs => pureT x && pureTs xs
end
theorem Kd.pure : ∀ k : Kd, pureT k.dat = true
  | .b _ => by simp [Kd.dat, pureT, pureTs]
  | .u => by simp [Kd.dat, pureT, pureTs]
  | .p x y => by simp [Kd.dat, pureT, pureTs, x.pure, y.pure]
  | .f x y => by simp [Kd.dat, pureT, pureTs, x.pure, y.pure]
theorem SqT.outp {K : PySem.W.Frag} {H : Hp} {l a : Addr} {us xs : List V} (e : H l = some (.lst us)) (h : SqT K H a xs) : SqT K (out l H) a xs := by
  rcases h with (h | ⟨o, h⟩) | h
  · exact .inl (.inl (out_at (fun z => by rw [z, e] at h; cases h) h))
  · exact .inl (.inr ⟨o, out_at (fun z => by rw [z, e] at h; cases h) h⟩)
  · exact .inr h
mutual
theorem Dq.outp {K : PySem.W.Frag} {H : Hp} {l : Addr} {us : List V} (e : H l = some (.lst us)) : ∀ {d : PyData} {v : V}, pureT d = true → Dq K H v d → Dq K (out l H) v d
  | _, _, _, .non => .non
  | _, _, _, .bl b => .bl b
  | _, _, _, .int i => .int i
  | _, _, _, .str x => .str x
  | _, _, h, .tup s a => .tup (SqT.outp e s) (DqAll.outp e (by simpa [pureT] using h) a)
  | _, _, h, .lst _ _ => by simp [pureT] at h
  | _, _, h, .dct _ => by simp [pureT] at h
theorem DqAll.outp {K : PySem.W.Frag} {H : Hp} {l : Addr} {us : List V} (e : H l = some (.lst us)) : ∀ {ds : List PyData} {vs : List V}, pureTs ds = true → DqAll K H vs ds → DqAll K (out l H) vs ds
  | _, _, _, .nil => .nil
  | d :: ds, _, h, .cons x a => by
    have h' : pureT d = true ∧ pureTs ds = true := by simpa [pureTs] using h
    exact .cons (Dq.outp e h'.1 x) (DqAll.outp e h'.2 a)
end
theorem Pt.pure (p : Pt) : pureT p.dat = true := by
  cases p with
  | s c => simp [Pt.dat, pureT]
  | k x => exact x.pure
end KB
namespace KB
open PySem L2
theorem cal_vac {P : Program} {w : World} {K : PySem.W.Frag} {mg : Str → Option Value} {base : Heap} {CX : CXT} {k : Nat} {x : Str} {ps : List Str} {sp : Sp} {st : Stmt} (A : At K mg x st) (hb : ∀ f fd, Fun K x x st f fd → Binds K fd ps [])
    (no : ∀ vs H Q E, ¬ sp vs H Q E) : Cal P w K mg base CX k x ps sp := by
  obtain ⟨f, fd, F, m⟩ := A
  exact ⟨f, fd, ⟨fun vs H Q E h => absurd h (no vs H Q E), fun A outer s H args us vs Q E _ _ _ _ h => absurd h (no vs H Q E)⟩, hb f fd F, F.kp, m⟩
end KB

namespace KB
open PySem PySem.Spec PyProof.Rows L2
/-! ## isinstance of data -/
theorem Dq.tyx {K : PySem.W.Frag} {H : Hp} {v : V} {d : PyData} (h : Dq K H v d) : TyX K H v (.type (tyN d)) := by
  cases h with
  | non => exact .base .non
  | bl b => exact .base (.bl b)
  | int i => exact .base (.int i)
  | str x => exact .base (.str x)
  | lst s _ =>
    rcases s with (s | ⟨o, s⟩) | ⟨o, its, n, hk, hc, _⟩
    · exact .base (.lst s)
    · exact .base (.frz s)
    · exact .kList hk hc
  | tup s _ =>
    rcases s with (s | ⟨o, s⟩) | ⟨o, its, n, hk, hc, _⟩
    · exact .base (.tup s)
    · exact .fTuple s
    · exact .kTuple hk hc
  | dct e => exact .base (.dK e)
def isiN (T S : String) : Bool := T == S || (T == "bool" && S == "int")
def okS (S : String) : Bool := ["int", "str", "bool", "tuple", "list", "dict"].contains S
theorem kit_n (d : PyData) {S : String} (h : okS S = true) : kitB (tyN d) S = some (isiN (tyN d) S) := by
  have h' : S ∈ ["int", "str", "bool", "tuple", "list", "dict"] := by simpa [okS] using h
  have all : ∀ T ∈ ["NoneType", "bool", "int", "str", "list", "tuple", "dict"], ∀ S ∈ ["int", "str", "bool", "tuple", "list", "dict"], kitB T S = some (isiN T S) := by decide +kernel
  refine all _ ?_ S h'
  cases d <;> simp [tyN]
def rIsiD (K : PySem.W.Frag) : List V → Hp → VK → Prop := fun xs H Q => ∃ (x : V) (S : String) (d : PyData), xs = [x, .ty S] ∧ Dq K H x d ∧ okS S = true ∧ Q (.bl (isiN (tyN d) S)) H
theorem call_isiD {X : Cx} : CallR X (.builtin "isinstance") (rIsiD X.K) := by
  intro pins s σ H xs us Q I r ⟨x, S, d, e, hd, hs, q⟩
  exact call_isi pins s σ H xs us Q I r ⟨x, .ty S, _, .type S, _, e, .ty S, hd.tyx, kit_ty (kit_n d hs), q⟩
/-! ## equality of kinds -/
mutual
theorem eqv_refl : ∀ d : PyData, d.canLay0 = true → PyData.eqv d d = true
  | .none, _ => by simp [PyData.eqv]
  | .bool _, _ => by simp [PyData.eqv]
  | .int _, _ => by simp [PyData.eqv]
  | .str _, _ => by simp [PyData.eqv]
  | .list xs, h => by simp only [PyData.eqv]; exact eqvs_refl xs (by simpa [PyData.canLay0] using h)
  | .tuple xs, h => by simp only [PyData.eqv]; exact eqvs_refl xs (by simpa [PyData.canLay0] using h)
  | .dict _, h => by simp [PyData.canLay0] at h
theorem eqvs_refl : ∀ ds : List PyData, PyData.canLayAll0 ds = true → PyData.eqvAll ds ds = true
  | [], _ => by simp [PyData.eqvAll]
  | d :: ds, h => by
    have h' : d.canLay0 = true ∧ PyData.canLayAll0 ds = true := by simpa [PyData.canLayAll0] using h
    simp [PyData.eqvAll, eqv_refl d h'.1, eqvs_refl ds h'.2]
end
theorem str_ne {x y : Str} (h : x ≠ y) : (x == y) = false := beq_eq_false_iff_ne.mpr h
theorem ev_tup (xs ys : List PyData) : PyData.eqv (.tuple xs) (.tuple ys) = PyData.eqvAll xs ys := by simp only [PyData.eqv]
theorem ev_lst (xs ys : List PyData) : PyData.eqv (.list xs) (.list ys) = PyData.eqvAll xs ys := by simp only [PyData.eqv]
theorem ev_str (x y : Str) : PyData.eqv (.str x) (.str y) = (x == y) := by simp only [PyData.eqv]
theorem ev_int (x y : Int) : PyData.eqv (.int x) (.int y) = (x == y) := by simp only [PyData.eqv]
theorem ev_cons (x y : PyData) (xs ys : List PyData) : PyData.eqvAll (x :: xs) (y :: ys) = (PyData.eqv x y && PyData.eqvAll xs ys) := by simp only [PyData.eqvAll]
theorem ev_nil : PyData.eqvAll [] [] = true := by simp only [PyData.eqvAll]
theorem ev_nilc (y : PyData) (ys : List PyData) : PyData.eqvAll [] (y :: ys) = false := by simp only [PyData.eqvAll]
theorem ev_cnil (y : PyData) (ys : List PyData) : PyData.eqvAll (y :: ys) [] = false := by simp only [PyData.eqvAll]
theorem Kd.eqv (x : Kd) : ∀ y : Kd, PyData.eqv x.dat y.dat = decide (x = y) := by
  have n1 := str_ne (show ("both" : Str) ≠ "from" by decide)
  have n2 := str_ne (show ("from" : Str) ≠ "both" by decide)
  induction x with
  | b n =>
    intro y
    cases y with
    | b m =>
      simp only [Kd.dat, ev_tup, ev_cons, ev_nil, ev_str, ev_int, beq_self_eq_true, Bool.true_and, Bool.and_true]
      by_cases h : n = m
      · subst h; simp
      · rw [decide_eq_false (by intro z; cases z; exact h rfl)]
        exact beq_eq_false_iff_ne.mpr (by omega)
    | u => simp [Kd.dat, ev_tup, ev_cons, ev_str, ev_nil, ev_nilc, ev_cnil]
    | p _ _ => simp [Kd.dat, ev_tup, ev_cons, ev_str, ev_nil, ev_nilc, ev_cnil]
    | f _ _ => simp [Kd.dat, ev_tup, ev_cons, ev_str, ev_nil, ev_nilc, ev_cnil]
  | u =>
    intro y
    cases y <;> simp [Kd.dat, ev_tup, ev_cons, ev_str, ev_nil, ev_nilc, ev_cnil]
  | p a1 b1 ih1 ih2 =>
    intro y
    cases y with
    | b _ => simp [Kd.dat, ev_tup, ev_cons, ev_str, ev_nil, ev_nilc, ev_cnil]
    | u => simp [Kd.dat, ev_tup, ev_cons, ev_str, ev_nil, ev_nilc, ev_cnil]
    | f _ _ => simp [Kd.dat, ev_tup, ev_cons, ev_str, n1]
    | p c1 d1 =>
      simp only [Kd.dat, ev_tup, ev_cons, ev_nil, ev_str, beq_self_eq_true, Bool.true_and, Bool.and_true, ih1, ih2]
      by_cases h : a1 = c1 <;> by_cases h2 : b1 = d1 <;> simp [h, h2]
  | f a1 b1 ih1 ih2 =>
    intro y
    cases y with
    | b _ => simp [Kd.dat, ev_tup, ev_cons, ev_str, ev_nil, ev_nilc, ev_cnil]
    | u => simp [Kd.dat, ev_tup, ev_cons, ev_str, ev_nil, ev_nilc, ev_cnil]
    | p _ _ => simp [Kd.dat, ev_tup, ev_cons, ev_str, n2]
    | f c1 d1 =>
      simp only [Kd.dat, ev_tup, ev_cons, ev_nil, ev_str, beq_self_eq_true, Bool.true_and, Bool.and_true, ih1, ih2]
      by_cases h : a1 = c1 <;> by_cases h2 : b1 = d1 <;> simp [h, h2]
theorem Kd.cod_inj {x y : Kd} (hx : x.ok) (hy : y.ok) (h : x.cod = y.cod) : x = y := by
  have := rdK_cod x hx
  rw [h, rdK_cod y hy] at this
  exact (Option.some.inj this).symm
theorem Kd.txt_inj {x y : Kd} (hx : x.ok) (hy : y.ok) (h : x.txt = y.txt) : x = y := Kd.cod_inj hx hy (tx_inj h)
end KB
namespace KB
open PySem L2
/-- a displayed dict of two texts, asked by one of them -/
theorem dget2 {H : Hp} {p : Addr} {a b : Str} {x y : V} (hab : a ≠ b) : DGet (upd H p (.dK (mergeK [] [(Sum.inr a, x), (Sum.inr b, y)]))) p (.str a) (some x) ∧ DGet (upd H p (.dK (mergeK [] [(Sum.inr a, x), (Sum.inr b, y)]))) p (.str b) (some y) := by
  have n1 : ¬ ((Sum.inr a : Key) = Sum.inr b) := fun z => hab (Sum.inr.inj z)
  have e : mergeK [] [(Sum.inr a, x), (Sum.inr b, y)] = [((Sum.inr a : Key), x), (Sum.inr b, y)] := by simp [mergeK, putK, n1]
  rw [e]
  have k1 := DGet.k (k := Sum.inr a) (upd_same (H := H) (a := p) (o := .dK [((Sum.inr a : Key), x), (Sum.inr b, y)]))
  have k2 := DGet.k (k := Sum.inr b) (upd_same (H := H) (a := p) (o := .dK [((Sum.inr a : Key), x), (Sum.inr b, y)]))
  have v1 : valV [((Sum.inr a : Key), x), (Sum.inr b, y)] (Sum.inr a) = some x := by simp [valV]
  have v2 : valV [((Sum.inr a : Key), x), (Sum.inr b, y)] (Sum.inr b) = some y := by simp [valV, n1]
  rw [v1] at k1
  rw [v2] at k2
  exact ⟨k1, k2⟩
end KB
namespace KB
open PySem L2
/-- pairs and functions, told as one -/
structure Mk2 (mk : Kd → Kd → Kd) (wd : Str) : Prop where
  dat : ∀ x y, (mk x y).dat = .tuple [.str wd, x.dat, y.dat]
  ok : ∀ x y, (mk x y).ok ↔ x.ok ∧ y.ok
  leaves : ∀ x y, (mk x y).leaves = x.leaves + y.leaves
  deep : ∀ x y, (mk x y).deep = 1 + max x.deep y.deep
  wd : wd = "both" ∨ wd = "from"
theorem mk_p : Mk2 Kd.p "both" := ⟨fun _ _ => rfl, fun _ _ => Iff.rfl, fun _ _ => rfl, fun _ _ => rfl, .inl rfl⟩
theorem mk_f : Mk2 Kd.f "from" := ⟨fun _ _ => rfl, fun _ _ => Iff.rfl, fun _ _ => rfl, fun _ _ => rfl, .inr rfl⟩
/-- a kind is a leaf, or made of two -/
theorem Kd.cases2 {K : PySem.W.Frag} {H : Hp} {v : V} (k : Kd) (hd : Dq K H v k.dat) :
    (∃ a xs, v = .ref a ∧ SqT K H a xs ∧ xs.length < 3 ∧ k.leaves = 1) ∨
    ∃ (mk mk2 : Kd → Kd → Kd) (wd od : Str) (x y : Kd) (a : Addr) (v1 v2 : V), k = mk x y ∧ Mk2 mk wd ∧ Mk2 mk2 od ∧ ((wd = "both" ∧ od = "from") ∨ (wd = "from" ∧ od = "both")) ∧ v = .ref a ∧ SqT K H a [.str wd, v1, v2] ∧ Dq K H v1 x.dat ∧ Dq K H v2 y.dat := by
  cases k with
  | b n =>
    cases hd with
    | tup hS hA => exact .inl ⟨_, _, rfl, hS, by rw [hA.length]; show 2 < 3; decide, rfl⟩
  | u =>
    cases hd with
    | tup hS hA => exact .inl ⟨_, _, rfl, hS, by rw [hA.length]; show 1 < 3; decide, rfl⟩
  | p x y =>
    cases hd with
    | tup hS hA =>
      cases hA with
      | cons h1 h2 =>
        cases h1
        cases h2 with
        | cons h3 h4 =>
          cases h4 with
          | cons h5 h6 =>
            cases h6
            exact .inr ⟨_, _, _, _, x, y, _, _, _, rfl, mk_p, mk_f, .inl ⟨rfl, rfl⟩, rfl, hS, h3, h5⟩
  | f x y =>
    cases hd with
    | tup hS hA =>
      cases hA with
      | cons h1 h2 =>
        cases h1
        cases h2 with
        | cons h3 h4 =>
          cases h4 with
          | cons h5 h6 =>
            cases h6
            exact .inr ⟨_, _, _, _, x, y, _, _, _, rfl, mk_f, mk_p, .inr ⟨rfl, rfl⟩, rfl, hS, h3, h5⟩
theorem Mk2.dq {K : PySem.W.Frag} {H : Hp} {mk : Kd → Kd → Kd} {wd : Str} (M : Mk2 mk wd) {a : Addr} {v1 v2 : V} {x y : Kd} (h : H a = some (.tup [.str wd, v1, v2])) (h1 : Dq K H v1 x.dat) (h2 : Dq K H v2 y.dat) : Dq K H (.ref a) (mk x y).dat := by
  rw [M.dat]
  exact .tup (.of h) (.cons (.str _) (.cons h1 (.cons h2 .nil)))
end KB
namespace KB
open PySem L2
theorem at_mk {K : PySem.W.Frag} {h : Heap} {mg : Str → Option Value} {x : Str} {st : Stmt} {f : Addr} {od an : Option Addr} {sl : Array (Option Value)} {oc kV dc pm cd ct : Value} (X : K.In h) (G : h.Ns mainGlobals mg)
    (a : PySem.W.nsIn K mainGlobals x = some (some (.ref f))) (l : K.lookup f = some ⟨oc, od, .func (PySem.W.fnOf x x (defArgs st) (defBody st) (defScope st) .none kV dc pm an cd ct), sl⟩) (c : PySem.W.codeIn K cd x = true) (k : PySem.W.keepIn K (.ref f) = true) : At K mg x st :=
  ⟨f, _, fun_mk (st := st) l c k, PySem.W.mg_of X G a⟩
theorem ds_mk {K : PySem.W.Frag} {h : Heap} {mg : Str → Option Value} {w : World} {x : Str} {d : Addr} {es : Array DictEntry} {n : Nat} {kvs : List (Str × V)} (X : K.In h) (G : h.Ns mainGlobals mg)
    (a : PySem.W.nsIn K mainGlobals x = some (some (.ref d))) (l : K.lookup d = some ⟨.type "dict", none, .dict es n, #[]⟩) (k : PySem.W.KeysLit w.params es.toList) (s : (d == sysModules) = false) (e : Ents kvs es.toList) : ∃ d, mg x = some (.ref d) ∧ DictS K w d kvs :=
  ⟨d, PySem.W.mg_of X G a, es, n, l, k, s, e⟩
theorem exc_mk {K : PySem.W.Frag} {h : Heap} {mg : Str → Option Value} {x : Str} {C : Addr} (X : K.In h) (G : h.Ns mainGlobals mg)
    (a : PySem.W.nsIn K mainGlobals x = some (some (.ref C))) (q : PySem.W.excIn K C [.type "ValueError", .type "Exception", .type "BaseException", .type "object"] "ValueError.__new__" = true) (k : PySem.W.keepIn K (.ref C) = true)
    (b : PySem.W.subIn K (.ref C) (.type "BaseException") = some true) (t : PySem.W.typeIn K (.ref C) = some (.type "type")) (i : PySem.W.isClsIn K C = true) (s : PySem.W.subIn K (.ref C) (.ref C) = some true) : ExcF K mg x C :=
  ⟨PySem.W.mg_of X G a, q, k, b, t, i, s⟩
end KB

namespace KB
open PySem PySem.Spec PyProof.Rows L2
/-! ## what is raised is caught by the first clause, whichever clauses follow -/
def wHit (K : PySem.W.Frag) (C : Addr) (c : Value) (i : Nat) (ts : Addr → TS) (D : Ends) : WX := fun cls d σ H =>
  cls = .ref C ∧ d = none ∧ PySem.W.exmOne K (.ref C) c = some true ∧ ∀ a, H a = none → ts a { nx := fun z H' => D.nx (z.set i none) H', rt := D.rt, bk := fun z H' => D.bk (z.set i none) H', ct := fun z H' => D.ct (z.set i none) H' } (σ.set i (some (.ref a))) H
theorem ps_try_hit {X : Cx} {x n : Str} {c : Value} {i : Nat} {body suite : List Stmt} {b₀ : Stmt} {np pos pos' : Pos} {hds : List ExceptHandler} {tb : WX → TS} {ts : Addr → TS} {C : Addr}
    (hs : X.stack = X.env :: X.outer) (hf : X.env.frame = some X.env.locals) (hN : X.N.Nodup) (hi : X.N[i]? = some n) (hln : X.env.kindOf n = some .local) (hc : Names X x c)
    (hb : ∀ (W : WX) (pn : List (Addr × Obj)) (xe : Value → Shared → Prop), Takes (X.tr pn xe) W → PassesOwn (model X.prog X.w) X.A X.env xe → PSs (X.tr pn xe) body (tb W))
    (hsu : ∀ (a : Addr) (oe : Obj) (pn : List (Addr × Obj)), Zc (.ref C) none oe → (∃ vs, oe.data = .fields vs) → PSs (X.suite a ((a, oe) :: pn)) (b₀ :: suite) (ts a)) :
    PS X (.Try body (.ExceptHandler (some (.Name x np)) (some n) (b₀ :: suite) pos' :: hds) [] [] pos) (fun D σ H => tb (wHit X.K C c i ts D) D σ H) := by
  refine ⟨fun pins s σ H D I h => ?_⟩
  have ok := I.ok
  have hfr : X.A.frames = some (X.env :: X.outer) := by rw [ok.frames, hs]
  refine wpAny_Try_except (wpAny_mono ((hb (wHit X.K C c i ts D) (X.pn ++ pins) _ (fun u s' xx => ?take) PassesOwn.looking).run [] s σ H D (Inv.toTry I _) h) (fun f s1 hsp => ?_) fun e s1 he => he)
  case take =>
    obtain ⟨a, B, sI, pins', σ', H', cls, d, rfl, J', nb, up, sky, na, os, ag, rfl, rfl, hit, yes⟩ := xx
    have J := Inv.ofTry J' ok
    have sky2 : Sky B (X.env :: X.outer) a (Zc (.ref C) none) X.env.locals s'.heap := hs ▸ sky
    refine Sky.land Zc.steady hfr hf sky2 fun h3 fl3 up3 => ?_
    have J3 := Inv.landed (s' := { heap := h3, gens := s'.gens, drawn := s'.drawn, toks := s'.toks, os := s'.os }) J nb fl3.left (up.trans up3) os ag
    obtain ⟨oe3, vs3, he3, hz3, hd3⟩ := HandSPX.FlyingZ.there fl3
    have far : a ∉ List.filterMap (fun y : Env => y.frame) (X.env :: X.outer) := fun hm => by
      obtain ⟨_, o', e', hnf⟩ := Heap.FunFrames.mem fl3.2.2.1 hm
      rw [he3] at e'
      cases e'
      exact hnf vs3 hd3
    have nL : a ≠ X.env.locals := fun z => far (List.mem_filterMap.mpr ⟨X.env, List.mem_cons_self, by rw [hf, z]⟩)
    have nF : a ∉ X.fs := fun hm => by
      obtain ⟨y, hy, q⟩ := List.mem_filterMap.mp hm
      exact far (List.mem_filterMap.mpr ⟨y, List.mem_cons_of_mem _ hy, q⟩)
    have S3 := Inv.suite J3 he3 hd3 na nL nF
    refine wpAny_handleBy_cons (codeAny_handlers_test ?_) (fun z => nomatch z)
    have LT : PySem.W.Looks (model X.prog X.w) h3 (typeOf (.ref a)) (.ref C) := fun A Q E s k q => wpAny_typeOf_ref (k a oe3 he3) (by rw [hz3.1]; exact q)
    have LM := PySem.W.exm_one J3.kIn LT hit
    have test : ∀ {Q : Value → Shared → Prop} {E : Value → Shared → Prop}, Q c { heap := h3, gens := s'.gens, drawn := s'.drawn, toks := s'.toks, os := s'.os } →
        wpAny (model X.prog X.w) (X.A.mark (some (.ref a))) (eval (.Name x np) X.env) Q E { heap := h3, gens := s'.gens, drawn := s'.drawn, toks := s'.toks, os := s'.os } := fun q => by
      obtain ⟨hg, hdbg, hm | ⟨hm, hv, hnn⟩⟩ := hc
      · exact ld_glob S3 hg hm q hdbg
      · exact ld_blt S3 hg hm hv q hnn hdbg
    refine test (PySem.W.Looks.here LM ?_)
    refine codeAny_handlers_suite_as (HandSPX.lands_againZ fl3 fun h4 fl4 up4 => ?_)
    have J4 := Inv.landed (s' := { heap := h4, gens := s'.gens, drawn := s'.drawn, toks := s'.toks, os := s'.os }) J nb fl4.left ((up.trans up3).trans up4) os ag
    obtain ⟨oe4, vs4, he4, hz4, hd4⟩ := HandSPX.FlyingZ.there fl4
    have S4 := Inv.suite J4 he4 hd4 na nL nF
    refine store_ok (X := X.suite a ((a, oe4) :: (X.pn ++ pins))) S4 hN hi (.inl hln) (v := .ref a) rfl (fun s5 S5 => ?_) (.inr hln)
    refine wpAny_mono ((hsu a oe4 (X.pn ++ pins) hz4 ⟨vs4, hd4⟩).run [] s5 _ H' _ S5 (yes a na)) (fun f s6 hsp => ?_) fun _ _ z => False.elim z
    cases f with
    | next => obtain ⟨σ6, H6, S6, q6⟩ := hsp; exact gone_ok (Inv.unsuite S6 ok) hN hi hln fun s7 J7 => ⟨_, H6, J7, q6⟩
    | brk => obtain ⟨σ6, H6, S6, q6⟩ := hsp; exact gone_ok (Inv.unsuite S6 ok) hN hi hln fun s7 J7 => ⟨_, H6, J7, q6⟩
    | cont => obtain ⟨σ6, H6, S6, q6⟩ := hsp; exact gone_ok (Inv.unsuite S6 ok) hN hi hln fun s7 J7 => ⟨_, H6, J7, q6⟩
    | ret u => obtain ⟨v6, σ6, H6, S6, r6, q6⟩ := hsp; exact gone_ok (Inv.unsuite S6 ok) hN hi hln fun s7 J7 => ⟨v6, _, H6, J7, r6, q6⟩
  · cases f with
    | next => obtain ⟨σ', H', J', q⟩ := hsp; exact wpAny_execs_nil ⟨σ', H', Inv.ofTry J' ok, q⟩
    | brk => obtain ⟨σ', H', J', q⟩ := hsp; exact ⟨σ', H', Inv.ofTry J' ok, q⟩
    | cont => obtain ⟨σ', H', J', q⟩ := hsp; exact ⟨σ', H', Inv.ofTry J' ok, q⟩
    | ret u => obtain ⟨v, σ', H', J', r, q⟩ := hsp; exact ⟨v, σ', H', Inv.ofTry J' ok, r, q⟩
/-! ## isinstance of what was caught: one class, a tuple of classes -/
def rCaught (K : PySem.W.Frag) (D a : Addr) : List V → Hp → VK → Prop := fun xs H Q => rIsE K D a xs H Q ∨
  ∃ (tp : Addr) (cs : List V) (us : List Value) (b : Bool), xs = [.ref a, .ref tp] ∧ H tp = some (.tup cs) ∧ Paired ClsV cs us ∧ PySem.W.kitAny K (.ref D) us = some b ∧ Q (.bl b) H
theorem call_caught {X : Cx} {a D : Addr} {oe : Obj} {pn : List (Addr × Obj)} (C : ExcC X.K D) (hz : Zc (.ref D) none oe) (hf : ∃ vs, oe.data = .fields vs) :
    CallR (X.suite a ((a, oe) :: pn)) (.builtin "isinstance") (rCaught X.K D a) := by
  intro pins s σ H xs us Q I r h
  rcases h with h | ⟨tp, cs, ws, b, rfl, hT, k, e, q⟩
  · exact call_isE C hz hf pins s σ H xs us Q I r h
  · obtain ⟨u1, u2, rfl, r1, r2⟩ := L2.vals2 r
    cases r1
    cases r2
    obtain ⟨hget, _⟩ := I.pin (a, oe) (List.mem_append.mpr (.inl List.mem_cons_self))
    obtain ⟨vs, hv⟩ := hf
    obtain ⟨oc, od, dt, sl⟩ := oe
    obtain ⟨h1, h2⟩ := hz
    cases h1
    cases h2
    cases hv
    have J : PySem.W.InstAt s.heap a ⟨.ref D, none, .fields vs, sl⟩ D none := ⟨hget, rfl, rfl, trivial⟩
    obtain ⟨_, its, rv, o, e1, e2, n, e3⟩ := I.hok tp (.tup cs) hT
    have e4 := ClsV.all k rv
    subst e4
    obtain ⟨oc2, od2, dt2, sl2⟩ := o
    cases e2
    cases e3
    exact PySem.W.kia_tup (PySem.W.handS_kitx_exc C.hg C.hk C.hs C.hd C.ha C.hn C.ht C.hm) I.kIn J e1 e (fun z => nomatch z) fun tk => ⟨.bl b, H, Inv.tok I tk, rfl, q⟩
/-! ## s[::-1] of a text: some text, no longer -/
def tRevT (te : TE) : TE := fun σ H Q => te σ H fun x H1 => ∃ z : Str, x = .str z ∧ z.length ≤ sizeLine ∧ ∀ y : Str, y.length ≤ z.length → Q (.str y) H1
theorem back_length (n : Nat) : (PySem.Builtin.Str.strSliceIndices none none (-1) n).length ≤ n := by
  simp only [PySem.Builtin.Str.strSliceIndices, PySem.sliceRange, List.length_map, List.length_range]
  simp only [show ¬ ((-1 : Int) > 0) by decide, if_false]
  split
  · simp
  · simp
theorem back_text (z : Str) : (⟨(List.filterMap (fun x => z.cps[x]?) (PySem.Builtin.Str.strSliceIndices none none (-1) z.length)).toArray⟩ : Str).length ≤ z.length := by
  have a : (⟨(List.filterMap (fun x => z.cps[x]?) (PySem.Builtin.Str.strSliceIndices none none (-1) z.length)).toArray⟩ : Str).length = (List.filterMap (fun x => z.cps[x]?) (PySem.Builtin.Str.strSliceIndices none none (-1) z.length)).length := rfl
  rw [a]
  exact Nat.le_trans (List.length_filterMap_le _ _) (back_length _)
theorem pe_revT {X : Cx} {e : Expr} {te : TE} {k : Nat} {p1 p2 p3 pos : Pos} (he : PE X e te) : PE X (.Subscript e (.Slice none none (some (.UnaryOp .USub (.Constant (.int 1) k p1) p2)) p3) pos) (tRevT te) := by
  refine ⟨fun pins s σ H Q I h => Subscript_ (thn (he.run pins s σ H _ I h) ?_)⟩
  rintro v s1 ⟨x, H1, I1, r1, z, rfl, hz, q⟩
  obtain ⟨t, rfl⟩ := r1
  refine wpAny_Slice (thn (po_none.run pins s1 σ H1 (fun o H2 => o = none ∧ H2 = H1) I1 ⟨rfl, rfl⟩) ?_)
  rintro vl s2 ⟨o2, H2, I2, pl, rfl, rfl⟩
  refine thn (po_none.run pins s2 σ H2 (fun o H3 => o = none ∧ H3 = H2) I2 ⟨rfl, rfl⟩) ?_
  rintro vu s3 ⟨o3, H3, I3, pu, rfl, rfl⟩
  have hst : PO X (some (.UnaryOp .USub (.Constant (.int 1) k p1) p2)) _ := po_some (pe_un un_neg pe_int)
  refine thn (hst.run pins s3 σ H3 (fun o H4 => o = some (-1) ∧ H4 = H3) I3 ⟨1, rfl, -1, rfl, rfl, rfl⟩) ?_
  rintro vs s4 ⟨o4, H4, I4, ps, rfl, rfl⟩
  obtain ⟨l1, rfl, e1⟩ := IsPart.raw pl
  obtain ⟨l2, rfl, e2⟩ := IsPart.raw pu
  obtain ⟨l3, rfl, e3⟩ := IsPart.raw ps
  have I5 := Inv.kept (h' := s4.heap.push { cls := .type "slice", data := .fields #[partValue l1, partValue l2, partValue l3] }) (t' := s4.toks) I4 fun b ob q => Heap.get?_push_of_some _ q
  refine tail_any (typeIs_str _ z t) PySem.F.slot_str_getitem.lookup (wpAny_getItem_str_slice (l := l1) (u := l2) (st := l3) ⟨_, Heap.get?_push_size s4.heap rfl, rfl, rfl⟩ (by rw [e3]; rfl) ?_) rfl
  have hp : slicePicked z l1 l2 l3 = PySem.Builtin.Str.strSliceIndices none none (-1) z.length := by
    unfold slicePicked
    rw [e1, e2, e3]; rfl
  unfold sliceMade
  rw [hp, e3, if_neg (by simp)]
  exact ⟨Nat.le_trans (back_text z) hz, .str _, H4, Inv.tok I5 _, ⟨_, rfl⟩, q _ (back_text z)⟩
/-! ## a text, told some times: some text, no longer than that -/
def rTimes : R2 := fun x y H Q => ∃ (z : Str) (n : Int), x = .str z ∧ y = .int n ∧ 0 ≤ n ∧ n ≤ 1000000 ∧ z.length * n.toNat ≤ 1000000 ∧ ∀ u : Str, u.length ≤ z.length * n.toNat → Q (.str u) H
theorem rep_length (n : Nat) (a : Array Nat) : (List.foldl (fun x1 x2 => x1 ++ x2) #[] (List.replicate n a)).size = a.size * n := by
  have h : ∀ (m : Nat) (b : Array Nat), (List.foldl (fun x1 x2 => x1 ++ x2) b (List.replicate m a)).size = b.size + a.size * m := by
    intro m
    induction m with
    | zero => intro b; simp
    | succ m ih => intro b; rw [List.replicate_succ, List.foldl_cons, ih, Array.size_append, Nat.mul_succ]; omega
  rw [h]; simp
theorem op_times {X : Cx} : OpR X (binaryOp .Mult) rTimes := by
  intro pins s σ H x y v u Q I rx ry ⟨z, n, ex, ey, h0, h1, hz, q⟩
  subst ex
  subst ey
  obtain ⟨t, rfl⟩ := rx
  obtain ⟨t', rfl⟩ := ry
  have hs : z.length * n.toNat ≤ sizeLine := Nat.le_trans hz (by decide)
  refine P.mul_str (by rw [decide_eq_false (by omega), decide_eq_false (by omega)]; rfl) (fun _ _ => ?_) (fun _ _ => ?_) ?_
  · have e : ((z.length * n.toNat : Nat) : Int) = (z.length : Int) * n := by rw [Int.natCast_mul, Int.toNat_of_nonneg h0]
    intro hb
    have h3 : (z.length : Int) * n ≤ 1000000 := by rw [← e]; exact Int.ofNat_le.mpr hz
    by_cases hn : n = 0
    · subst hn; omega
    · have : (z.length : Int) ≤ (2 ^ 63 - 1) / n := Int.le_ediv_of_mul_le (by omega) (by omega)
      omega
  · unfold PySem.Builtin.Str.tooLong
    exact decide_eq_false (Nat.not_lt.mpr hs)
  · split
    · exact ⟨Nat.zero_le _, .str _, H, Inv.tok I _, ⟨_, rfl⟩, q _ (Nat.zero_le _)⟩
    · split
      · rename_i hn hc
        refine ⟨.str z, H, I, ⟨_, rfl⟩, q _ ?_⟩
        have : n = 1 ∨ z.length = 0 := by simpa using hc
        rcases this with rfl | h
        · simp
        · omega
      · refine ⟨?_, .str _, H, Inv.tok I _, ⟨_, rfl⟩, q _ ?_⟩
        · show (List.foldl (fun x1 x2 => x1 ++ x2) #[] (List.replicate n.toNat z.cps)).size ≤ sizeLine
          rw [rep_length]; exact hs
        · show (List.foldl (fun x1 x2 => x1 ++ x2) #[] (List.replicate n.toNat z.cps)).size ≤ _
          rw [rep_length]; exact Nat.le_refl _
def rMulT : R2 := fun x y H Q => rMulA x y H Q ∨ rTimes x y H Q
theorem op_mulT {X : Cx} : OpR X (binaryOp .Mult) rMulT := op_mulA.or op_times
/-! ## within a clause: rules that speak of the whole, not of the clause -/
theorem ix_BS {X : Cx} {a : Addr} {pn : List (Addr × Obj)} : IxR (X.suite a pn) (rIxB X.K X.w) := ix_B (X := X.suite a pn)
/-- a call within a try -/
theorem pe_calS {X : Cx} {CX : CXT} {k : Nat} {x : Str} {ps : List Str} {sp : Sp} {E : L2.St → XK} {p pos : Pos} {e : Expr} {es : List Expr} {t : TA} (C : Cal X.prog X.w X.K X.mg X.base CX k x ps sp) (hr : Room k X.A) (hx : ∀ σ : L2.St, PassesAt CX X σ (E σ)) (ha : PA X (e :: es) t)
    (hg : Gl X x := by rfl) (hdb : (x == ("__debug__" : Str)) = false := by decide) (he : starEach (e :: es) X.env = (false, eval e X.env) :: starEach es X.env := by rfl) (hpl : (backTo pos (starEach es X.env)).any (·.1) = false := by rfl) :
    PE X (.Call (.Name x p) (e :: es) [] pos) (tCallS sp E t) := by
  obtain ⟨f, fd, F, b, kp, m⟩ := C
  exact pe_callS F hr hg m kp b hx ha hdb he hpl
/-! ## facts of a class of errors, from the head -/
theorem ExcF.hit {K : PySem.W.Frag} {mg : Str → Option Value} {x : Str} {C : Addr} (F : ExcF K mg x C) : PySem.W.exmOne K (.ref C) (.ref C) = some true := by
  have i : (PySem.W.clsIn K C).isSome = true := F.i
  simp only [PySem.W.exmOne, PySem.W.kitCls, F.b, F.t, F.s, i]
  rfl
theorem excC_mk {K : PySem.W.Frag} {h : Heap} {mg : Str → Option Value} {x : Str} {D : Addr} (_ : K.In h) (_ : ExcF K mg x D) (hg : PySem.W.findIn K (.ref D) "__getattribute__" = some (some (.builtin "BaseException.__getattribute__"))) (hk : PySem.W.findIn K (.ref D) "__getattr__" = some none) (hs : PySem.W.subIn K (.ref D) (.type "BaseException") = some true)
    (hd : PySem.W.hasDictIn K D = true) (ha : PySem.W.findIn K (.ref D) "__class__" = some (some (.builtin "object.__class__"))) (hn : PySem.W.specialIn K (.builtin "object.__class__") "__get__" = some (some (.builtin "getset_descriptor.__get__"))) (ht : PySem.W.takesIn K (.builtin "object.__class__") = some true) (hm : PySem.W.mroIn K D (.type "object") = some true) : ExcC K D := ⟨hg, hk, hs, hd, ha, hn, ht, hm⟩
theorem kitOne_mk {K : PySem.W.Frag} {h : Heap} {mg : Str → Option Value} {x : Str} {D : Addr} {T : String} {b : Bool} (_ : K.In h) (_ : ExcF K mg x D) (e : PySem.W.kitOne K (.ref D) (.type T) = some b) : PySem.W.kitOne K (.ref D) (.type T) = some b := e
theorem cls_mk {K : PySem.W.Frag} {h : Heap} {mg : Str → Option Value} {x : Str} {D : Addr} (X : K.In h) (G : h.Ns mainGlobals mg) (a : PySem.W.nsIn K mainGlobals x = some (some (.ref D))) : mg x = some (.ref D) := PySem.W.mg_of X G a
theorem kitAny_mk {K : PySem.W.Frag} {h : Heap} {mg : Str → Option Value} {x y z : Str} {D A B : Addr} {b : Bool} (_ : K.In h) (_ : ExcF K mg x D) (_ : mg y = some (.ref A)) (_ : mg z = some (.ref B)) (e : PySem.W.kitAny K (.ref D) [.ref A, .ref B] = some b) : PySem.W.kitAny K (.ref D) [.ref A, .ref B] = some b := e
end KB

namespace KB
open PySem PySem.Spec PyProof.Rows L2
/-! ## defs that are called where no repr is under way -/
structure FnG (P : Program) (w : World) (K : PySem.W.Frag) (mg : Str → Option Value) (base : Heap) (CX : CXT) (k : Nat) (f : Addr) (fd : FuncData) (ps : List Str) (sp : Sp) : Prop where
  len : ∀ vs H Q E, sp vs H Q E → vs.length = ps.length
  run : ∀ (A : Around) (outer : List Env) (s : Shared) (H : Hp) (args : Args) (us : List Value) (vs : List V) (Q : VK) (E : XK), Room k A → A.guards = some [] → Env0 P w K mg base A outer s H → BindsTo s fd args (ps.zip us) → Vals vs us → sp vs H Q E →
    codeAny (model P w) A (.call (.ref f) args) (CR CX outer P w H s Q E) s
theorem FnOk.toG {P : Program} {w : World} {K : PySem.W.Frag} {mg : Str → Option Value} {base : Heap} {CX : CXT} {k : Nat} {f : Addr} {fd : FuncData} {ps : List Str} {sp : Sp} (F : FnOk P w K mg base CX k f fd ps sp) : FnG P w K mg base CX k f fd ps sp :=
  ⟨F.len, fun A outer s H args us vs Q E hr _ e0 hb r h => F.run A outer s H args us vs Q E hr e0 hb r h⟩
theorem fnG_of {CX : CXT} {P : Program} {w : World} {K : PySem.W.Frag} {mg : Str → Option Value} {base : Heap} {k : Nat} {f : Addr} {name qual : Str} {params : Arguments} {body : List Stmt} {scope : Scope} {dV kV doc pm cdv ct oc : Value} {an od : Option Addr} {osl : Array (Option Value)} {N ps : List Str} {sp : Sp}
    (lk : K.lookup f = some ⟨oc, od, .func (PySem.W.fnOf name qual params body scope dV kV doc pm an cdv ct), osl⟩) (hcd : PySem.W.codeIn K cdv qual = true) (S : FnScope N ps scope) (len : ∀ vs H Q E, sp vs H Q E → vs.length = ps.length)
    (hbody : ∀ (A : Around) (outer : List Env) (s : Shared) (H : Hp) (vs : List V) (Q : VK) (E : XK), A.guards = some [] → Room k (A.deeper (envOfC qual scope s.heap.objs.size f cdv)) → sp vs H Q E →
      ∃ t, PSs (cxOf CX P w K mg base N qual scope f cdv A outer s H E) body t ∧ t { nx := fun _ H' => Q .non H', rt := Q } (L2.start N vs) H) :
    FnG P w K mg base CX (k + 1) f (PySem.W.fnOf name qual params body scope dV kV doc pm an cdv ct) ps sp := by
  refine ⟨len, fun A outer s H args us vs Q E hr hg e0 hb r hsp => ?_⟩
  have hl := len vs H Q E hsp
  have KX : K.In s.heap := PySem.W.Frag.In.keeps e0.mod.kin fun b o e => (e0.bs b o e).1
  have lim : s.heap.NoLimit := Heap.NoLimit.keeps e0.mod.nolimit fun b o e => (e0.bs b o e).1
  refine codeAny_call_function hr.depth (KX f _ lk) rfl S.co S.gen rfl (PySem.W.codeRec_of KX hcd) (hb (model P w) A.in1 (fun e s' => CR CX outer P w H s Q E (.error e) s') _ (wpAny_newFunctionEnv_cells S.kind ?_ ?_))
  · rintro ⟨n, v⟩ hy
    rcases S.par n (List.of_mem_zip hy).1 with q | q
    · exact .inl q
    · exact .inr ⟨q, PySem.W.cellsFrom_some scope.names (s.heap.objs.size + 1) [] (.inl q)⟩
  · intro env he s1 x
    subst he
    refine ⟨Heap.NoLimit.keeps lim x.toInCall.keep, codeAny_func ?_⟩
    obtain ⟨t, ht, hq⟩ := hbody A outer s H vs Q E hg (Room.deeper hr (envOfC qual scope s.heap.objs.size f cdv)) hsp
    have I := inv_start (CX := CX) (E := E) S hr.hd e0 hl r x
    refine wpAny_mono (ht.run [] s1 (L2.start N vs) H _ I hq) (fun fl s' hs => ?_) fun e s' hs => hs
    cases fl with
    | next => obtain ⟨σ', H', J, q⟩ := hs; exact ⟨.non, H', J.os, J.bare, J.base, J.hok, rfl, q⟩
    | brk => obtain ⟨_, _, _, q⟩ := hs; exact q.elim
    | cont => obtain ⟨_, _, _, q⟩ := hs; exact q.elim
    | ret u => obtain ⟨v, σ', H', J, rv, q⟩ := hs; exact ⟨v, H', J.os, J.bare, J.base, J.hok, rv, q⟩
theorem okG {P : Program} {w : World} {K : PySem.W.Frag} {mg : Str → Option Value} {base : Heap} {x qual : Str} {st : Stmt} {f : Addr} {fd : FuncData} {N ps : List Str} {k : Nat} {sp : Sp} (F : Fun K x qual st f fd) (S : FnScope N ps (defScope st)) (len : ∀ vs H Q E, sp vs H Q E → vs.length = ps.length)
    (hbody : ∀ (cdv : Value) (A : Around) (outer : List Env) (s : Shared) (H : Hp) (vs : List V) (Q : VK) (E : XK), A.guards = some [] → Room k (A.deeper (envOfC qual (defScope st) s.heap.objs.size f cdv)) → sp vs H Q E →
      ∃ t, PSs (cxOf CX0 P w K mg base N qual (defScope st) f cdv A outer s H E).nox (defBody st) t ∧ t { nx := fun _ H' => Q .non H', rt := Q } (L2.start N vs) H) :
    FnG P w K mg base CX0 (k + 1) f fd ps sp := by
  obtain ⟨oc, od, kV, doc, pm, an, cdv, ct, osl, rfl, lk, hcd⟩ := F.ex
  refine fnG_of lk hcd S len fun A outer s H vs Q E hg hr hsp => ?_
  obtain ⟨t, h, q⟩ := hbody cdv A outer s H vs Q E hg hr hsp
  exact ⟨t, PSs.nox h, q⟩
theorem run_fnG {X : Cx} {CX : CXT} {k : Nat} {f : Addr} {fd : FuncData} {ps : List Str} {sp : Sp} {E : XK} {pins : List (Addr × Obj)} {σ : L2.St} {H : Hp} {s : Shared} {Q : VK} {us : List Value} {vs : List V}
    (F : FnG X.prog X.w X.K X.mg X.base CX k f fd ps sp) (hr : Room k X.A) (hg : X.A.guards = some []) (hb : Binds X.K fd ps []) (hx : Passes CX X E) (I : L2.Inv X pins σ H s) (r : Vals vs us) (h : sp vs H Q E) :
    wpAny (model X.prog X.w) X.A (call (.ref f) us) (EP X pins σ Q) X.xe s := by
  have hl : us.length = ps.length := by rw [← r.length]; exact F.len vs H Q E h
  have hb2 := hb s us I.kIn (by rw [List.append_nil]; exact hl)
  rw [List.append_nil] at hb2
  refine wpAny_call (codeAny_mono (F.run X.A X.stack s H ⟨us, []⟩ us vs Q E hr hg I.env0 hb2 r h) fun rs s' hq => ?_)
  cases rs with
  | error e => exact hx pins σ H s e s' I hq
  | ok fl =>
    cases fl with
    | ret u => exact I.after hq
    | next => exact hq.elim
    | brk => exact hq.elim
    | cont => exact hq.elim
/-- a def's promise, where no repr is under way -/
def CalG (P : Program) (w : World) (K : PySem.W.Frag) (mg : Str → Option Value) (base : Heap) (CX : CXT) (k : Nat) (x : Str) (ps : List Str) (sp : Sp) : Prop :=
  ∃ f fd, FnG P w K mg base CX k f fd ps sp ∧ Binds K fd ps [] ∧ PySem.W.keepIn K (.ref f) = true ∧ mg x = some (.ref f)
theorem pe_calG {X : Cx} {CX : CXT} {k : Nat} {x : Str} {ps : List Str} {sp : Sp} {E : XK} {p pos : Pos} {e : Expr} {es : List Expr} {t : TA} (hg0 : X.A.guards = some []) (C : CalG X.prog X.w X.K X.mg X.base CX k x ps sp) (hr : Room k X.A) (hx : Passes CX X E) (ha : PA X (e :: es) t)
    (hg : Gl X x := by rfl) (hdb : (x == ("__debug__" : Str)) = false := by decide) (he : starEach (e :: es) X.env = (false, eval e X.env) :: starEach es X.env := by rfl) (hpl : (backTo pos (starEach es X.env)).any (·.1) = false := by rfl) :
    PE X (.Call (.Name x p) (e :: es) [] pos) (tCall sp [] E t) := by
  obtain ⟨f, fd, F, b, kp, m⟩ := C
  refine ⟨fun pins s σ H Q I h => wpAny_Call_Name_kw (ld_glob I hg m (PySem.W.callWith_K I.ok.mod.kin kp (thn (ha.run pos pins s σ H _ I h) ?_) he hpl) hdb)⟩
  rintro us s1 ⟨vs, H1, I1, r, q⟩
  have q' : sp vs H1 Q E := by have := q; rwa [List.append_nil] at this
  exact ⟨I1.kIn, run_fnG F hr hg0 b hx I1 r q'⟩
/-! ## the law's call, and its end -/
theorem law_callG {P : Program} {w : World} {K : PySem.W.Frag} {mg mb : Str → Option Value} {k : Nat} {fa a : Addr} {fd : FuncData} {x : Str} {sp : Sp} {s₁ : Shared} {vs : List Value} {ns : List Int}
    (KX : K.In s₁.heap) (hns : s₁.heap.Ns mainGlobals mg) (hb : s₁.heap.Ns builtinsNs mb) (hbb : ∀ x : Str, x ≠ "__name__" → mb x = bootBuiltins x) (hlim : s₁.heap.NoLimit) (hg : s₁.gens = #[]) (ha : s₁.heap.get? a = some { cls := .type "list", data := .seq vs.toArray }) (hi : IntsAre vs ns) (hl : ns.length ≤ sizeLine) (hr : Room k callerA)
    (F : ∀ base : Heap, K.In base → base.Ns mainGlobals mg → FnG P w K mg base CX0 k fa fd [x] sp) (hbind : ∀ (s : Shared) (u : Value), BindsTo s fd ⟨[u], []⟩ [(x, u)])
    (hsp : ∀ H : Hp, Only H → SqL K H a (ns.map V.int) → sp [.ref a] H (fun v _ => v = .bl true) fun _ _ _ => False) :
    codeAny (model P w) callerA (.call (.ref fa) ⟨[.ref a], []⟩) (fun r s' => r = .ok (.ret (.bool true)) ∧ OldK s₁.heap s'.heap ∧ s'.os = s₁.os ∧ AllBare s'.gens) s₁ := by
  have rv := vals_ints hi
  have lenV : vs.length = ns.length := by have := rv.length; rw [List.length_map] at this; exact this.symm
  -- whichever of the two shapes
  have core : ∀ H : Hp, Only H → SqL K H a (ns.map V.int) → HOk P w H s₁.heap → (∀ b, H b ≠ none → b = a) → (H a ≠ none → K.lookup a = none) →
      codeAny (model P w) callerA (.call (.ref fa) ⟨[.ref a], []⟩) (fun r s' => r = .ok (.ret (.bool true)) ∧ OldK s₁.heap s'.heap ∧ s'.os = s₁.os ∧ AllBare s'.gens) s₁ := by
    intro H hO hS hok hA hK
    have noA : ∀ {b : Addr} {o : Obj} {es : Array DictEntry} {ep : Nat}, s₁.heap.get? b = some o → o.data = .dict es ep → H b = none := by
      intro b o es ep e d
      cases q : H b with
      | none => rfl
      | some u =>
        have e2 := hA b (by rw [q]; simp)
        subst e2
        rw [ha] at e
        cases e
        cases d
    have nsK : ∀ {b : Addr} {m : Str → Option Value}, s₁.heap.Ns b m → (hidT s₁.heap H).Ns b m := by
      rintro b m ⟨o, es, ep, e, d, r⟩
      exact ⟨o, es, ep, hidT_get e (noA e d), d, r⟩
    have hKb : K.In (hidT s₁.heap H) := by
      intro b o e
      refine hidT_get (KX b o e) ?_
      cases q : H b with
      | none => rfl
      | some u =>
        have e2 := hA b (by rw [q]; simp)
        subst e2
        have := hK (by rw [q]; simp)
        rw [this] at e
        cases e
    have hM : L2.Mod K mg (hidT s₁.heap H) := ⟨hKb, nsK hns, ⟨mb, nsK hb, hbb⟩, by obtain ⟨mc, h1, h2⟩ := hlim; exact ⟨mc, nsK h1, h2⟩⟩
    have e0 : Env0 P w K mg (hidT s₁.heap H) callerA [] s₁ H := ⟨rfl, hM, fun b o e => of_hidT e, Nat.le_of_eq (hidT_size s₁.heap H), trivial, fun b h => absurd h List.not_mem_nil, hok, AllBare.of_eq hg⟩
    refine codeAny_mono ((F _ hKb (nsK hns)).run callerA [] s₁ H ⟨[.ref a], []⟩ [.ref a] [.ref a] (fun v _ => v = .bl true) (fun _ _ _ => False) hr rfl e0 (hbind s₁ (.ref a)) (.cons rfl .nil) (hsp H hO hS)) fun r s' h => ?_
    cases r with
    | error e => exact absurd h (by intro z; exact z.elim)
    | ok fl =>
      cases fl with
      | next => exact h.elim
      | brk => exact h.elim
      | cont => exact h.elim
      | ret u =>
        obtain ⟨v, H', os, bare, un, hok', r', q⟩ := h
        have q' : v = .bl true := q
        subst q'
        cases r'
        refine ⟨rfl, OldK.of_keep fun b o e => ?_, os, bare⟩
        cases q2 : H b with
        | none => exact un.keep b o e q2 (fun z => absurd z List.not_mem_nil) List.not_mem_nil
        | some u2 =>
          rcases hO b with z | ⟨ob, xs, z⟩
          · rw [q2] at z; cases z
          · have z2 := un.frzs b ob (.lst xs) z
            obtain ⟨e1, _⟩ := hok b _ z
            obtain ⟨e2, _⟩ := hok' b _ z2
            rw [e] at e1
            cases e1
            exact e2
  cases hk : K.lookup a with
  | none =>
    refine core (fun b => if b = a then some (.frz { cls := .type "list", data := .seq vs.toArray } (.lst (ns.map V.int))) else none) (fun b => ?_) (.inl (.inr ⟨_, if_pos rfl⟩)) (fun b u z => ?_) (fun b z => ?_) fun _ => hk
    · by_cases h : b = a
      · exact .inr ⟨_, _, if_pos h⟩
      · exact .inl (if_neg h)
    · by_cases h : b = a
      · subst h
        have z' := (if_pos rfl).symm.trans z
        cases z'
        exact ⟨ha, by rw [List.length_map]; exact hl, vs, 0, rv, ha⟩
      · have z' := (if_neg h).symm.trans z
        cases z'
    · by_cases h : b = a
      · exact h
      · exact absurd (if_neg h) z
  | some o =>
    have e := KX a o hk
    rw [ha] at e
    cases e
    refine core (fun _ => none) (fun _ => .inl rfl) (.inr ⟨_, vs.toArray, 0, hk, rfl, rfl, rfl, by rw [List.size_toArray, lenV]; exact hl, rv⟩) (fun b u z => by cases z) (fun b z => absurd rfl z) fun z => absurd rfl z
theorem walk_ofG {l : PySem.W.OpenLaw} {n k : Nat} {q : Program} {loose : List Str} {XP : (Str → Option Value) → Heap → Prop} {YP : World → Heap → Prop} {d : DefRec} {K : Params → PySem.W.Frag} {sp : World → Sp} {x : Str} (hn : l.most = some n) (hn2 : n ≤ sizeLine) (hdf : d.params.defaults = []) (hr : Room k callerA)
    (hY : ∀ (w : World) (h : Heap), YP w h → (K w.params).In h)
    (F : ∀ (w : World) (mg : Str → Option Value) (fa : Addr) (h : Heap), (K w.params).In h → h.Ns mainGlobals mg → mg d.name = some (.ref fa) →
      ∃ fd : FuncData, (∀ (s : Shared) (u : Value), BindsTo s fd ⟨[u], []⟩ [(x, u)]) ∧ ∀ base : Heap, (K w.params).In base → base.Ns mainGlobals mg → FnG l.prog w (K w.params) mg base CX0 k fa fd [x] (sp w))
    (hsp : ∀ (w : World) (H : Hp) (a : Addr) (ns : List Int), ns.length ≤ n → Only H → SqL (K w.params) H a (ns.map V.int) → sp w [.ref a] H (fun v _ => v = .bl true) fun _ _ _ => False) :
    PySem.W.WalkO q loose XP YP l.row.toRowW d [] fun f vs => call f vs := by
  refine Att.attach_call hn hdf fun w s₀ s₁ mg mb fa o pm cd doc a vs ns G Y ho hd hcd hmg hobj hints hlen hg => ?_
  have KX := hY w s₁.heap Y
  obtain ⟨fd, hb, hF⟩ := F w mg fa s₁.heap KX G.T.g hmg
  exact law_callG KX G.T.g G.T.b G.T.builtins G.T.nolimit hg hobj hints (Nat.le_trans hlen hn2) hr hF hb fun H hO hS => hsp w H a ns hlen hO hS
end KB

namespace KB
open PySem PySem.Spec PyProof.Rows L2
/-! ## data with empty dicts, read as a whole -/
mutual
/-- no list in it -/
def noL : PyData → Bool
  | .list _ => false
  | .tuple ds => noLs ds
  | _ => true
def noLs : List PyData → Bool
  | [] => true
  | d :: r => noL d && noLs r
end
theorem emptyDict {X : Cx} {pins : List (Addr × Obj)} {σ : L2.St} {H : Hp} {s : Shared} (I : L2.Inv X pins σ H s) {a : Addr} (h : H a = some (.dK [])) :
    (a == sysModules) = false ∧ ∃ o n, s.heap.get? a = some o ∧ o.cls = .type "dict" ∧ o.data = .dict #[] n := by
  obtain ⟨_, e, vs, hk, o, es, ep, h1, h2, h3, h4, h5, h6⟩ := I.hok a (.dK []) h
  cases hk
  obtain ⟨el⟩ := es
  cases h5
  exact ⟨e, o, ep, h1, h2.1, h3⟩
mutual
theorem Dq.reads {X : Cx} {pins : List (Addr × Obj)} {σ : L2.St} {H : Hp} {s : Shared} (I : L2.Inv X pins σ H s) : ∀ {d : PyData} {v : V} {u : Value}, Dq X.K H v d → L2.RelV v u → ∃ as, Reads s.heap u d as ∧ (noL d = true → sysModules ∉ as)
  | _, _, _, .non, r => by cases r; exact ⟨[], .none, fun _ => List.not_mem_nil⟩
  | _, _, _, .bl b, r => by cases r; exact ⟨[], .bool b, fun _ => List.not_mem_nil⟩
  | _, _, _, .int i, r => by obtain ⟨t, rfl⟩ := r; exact ⟨[], .int i t, fun _ => List.not_mem_nil⟩
  | _, _, _, .str x, r => by obtain ⟨t, rfl⟩ := r; exact ⟨[], .str x t, fun _ => List.not_mem_nil⟩
  | _, _, _, .lst h hs, r => by
    cases r
    obtain ⟨its, rv, pl, _⟩ := I.list h
    obtain ⟨o, e1, e2, n, e3⟩ := PlainL.isList pl
    obtain ⟨as, ra, _⟩ := DqAll.reads I hs rv
    exact ⟨_, .list e1 e2 e3 (by simpa using ra), fun z => by cases z⟩
  | _, _, _, .tup h hs, r => by
    cases r
    obtain ⟨its, rv, it, _⟩ := I.tuple h
    obtain ⟨o, e1, e2, n, e3⟩ := it
    obtain ⟨as, ra, z⟩ := DqAll.reads I hs rv
    exact ⟨_, .tuple e1 e2 e3 (by simpa using ra), fun q => z (by simpa [noL] using q)⟩
  | _, _, _, .dct h, r => by
    cases r
    obtain ⟨ne, o, n, e1, e2, e3⟩ := emptyDict I h
    refine ⟨_, .dict e1 e2 e3 .nil .nil, fun _ => ?_⟩
    simp only [List.append_nil, List.mem_singleton]
    intro z
    rw [← z] at ne
    simp at ne
theorem DqAll.reads {X : Cx} {pins : List (Addr × Obj)} {σ : L2.St} {H : Hp} {s : Shared} (I : L2.Inv X pins σ H s) : ∀ {ds : List PyData} {vs : List V} {us : List Value}, DqAll X.K H vs ds → Vals vs us → ∃ as, ReadsAll s.heap us ds as ∧ (noLs ds = true → sysModules ∉ as)
  | _, _, _, .nil, r => by cases r; exact ⟨[], .nil, fun _ => List.not_mem_nil⟩
  | _, _, _, .cons h hs, r => by
    cases r with
    | cons r1 r2 =>
      obtain ⟨as, ra, za⟩ := Dq.reads I h r1
      obtain ⟨bs, rb, zb⟩ := DqAll.reads I hs r2
      refine ⟨_, .cons ra rb, fun q => ?_⟩
      simp only [noLs, Bool.and_eq_true] at q
      rw [List.mem_append]
      rintro (h | h)
      · exact za q.1 h
      · exact zb q.2 h
end
/-! ## a tuple beside the empty one, beside a text alone; a list beside the empty one -/
section
variable {X : Cx}
def rEqNil (K : PySem.W.Frag) : R2 := fun x y H Q => ∃ p q xs, x = .ref p ∧ y = .ref q ∧ SqT K H p xs ∧ SqT K H q [] ∧ Q (.bl xs.isEmpty) H
def rNeHd (K : PySem.W.Frag) : R2 := fun x y H Q => ∃ p q a r b, x = .ref p ∧ y = .ref q ∧ SqT K H p (.str a :: r) ∧ SqT K H q [.str b] ∧ Q (.bl (!(a == b && r.isEmpty))) H
def rNeNilL (K : PySem.W.Frag) : R2 := fun x y H Q => ∃ p q xs, x = .ref p ∧ y = .ref q ∧ SqL K H p xs ∧ SqL K H q [] ∧ Q (.bl (!xs.isEmpty)) H
theorem op_eqNil (hu : X.A.units < cLine) : OpR X (compareOp .Eq) (rEqNil X.K) := by
  rintro pins s σ H x y v u Q I rx ry ⟨p, q, xs, rfl, rfl, hp, hq, h⟩
  cases rx
  cases ry
  obtain ⟨it1, r1, t1, _⟩ := I.tuple hp
  obtain ⟨it2, r2, t2, _⟩ := I.tuple hq
  cases r2
  have e := SeqAt.RcAt.tuples (A := X.A) (s := s) (e := fun _ => true) t1 t2 hu (fun j _ h2 => by simp at h2)
  have el : ((List.range (min it1.toArray.size ([] : List Value).toArray.size)).all (fun _ => true) && it1.toArray.size == ([] : List Value).toArray.size) = xs.isEmpty := by
    have := r1.length
    cases xs <;> cases it1 <;> simp at this ⊢
  rw [el] at e
  exact e _ _ _ _ ⟨.bl _, H, I, rfl, h⟩
theorem op_neHd (hu : X.A.units < cLine) : OpR X (compareOp .NotEq) (rNeHd X.K) := by
  rintro pins s σ H x y v u Q I rx ry ⟨p, q, a, r, b, rfl, rfl, hp, hq, h⟩
  cases rx
  cases ry
  obtain ⟨it1, r1, t1, _⟩ := I.tuple hp
  obtain ⟨it2, r2, t2, _⟩ := I.tuple hq
  cases r1 with
  | cons ra rr =>
    cases r2 with
    | cons rb rr2 =>
      cases rr2
      obtain ⟨ta, rfl⟩ := ra
      obtain ⟨tb, rfl⟩ := rb
      rename_i us
      have e := SeqAt.RcNeAt.tuples (A := X.A) (s := s) (e := fun _ => a == b) t1 t2 hu (fun j h1 h2 => by
        have : j = 0 := by simpa using h2
        subst this
        exact SeqAt.EqAt.str_str a ta b tb)
      have el : ((List.range (min (Value.str a ta :: us).toArray.size [Value.str b tb].toArray.size)).all (fun _ => a == b) && (Value.str a ta :: us).toArray.size == [Value.str b tb].toArray.size) = (a == b && r.isEmpty) := by
        have := rr.length
        cases r <;> cases us <;> simp at this ⊢
      rw [el] at e
      exact e _ _ _ _ ⟨.bl _, H, I, rfl, h⟩
theorem op_neNilL (hu : X.A.units < cLine) : OpR X (compareOp .NotEq) (rNeNilL X.K) := by
  rintro pins s σ H x y v u Q I rx ry ⟨p, q, xs, rfl, rfl, hp, hq, h⟩
  cases rx
  cases ry
  obtain ⟨it1, r1, t1, _⟩ := I.list hp
  obtain ⟨it2, r2, t2, _⟩ := I.list hq
  cases r2
  cases r1 with
  | nil =>
    have e := SeqAt.RcNeAt.lists (A := X.A) (s := s) (e := fun _ => true) (PlainL.isList t1) (PlainL.isList t2) rfl hu (fun j h1 _ => by simp at h1)
    exact e _ _ _ _ ⟨.bl _, H, I, rfl, h⟩
  | cons _ _ =>
    have e := SeqAt.RcNeAt.lists_lengths (A := X.A) (s := s) (PlainL.isList t1) (PlainL.isList t2) (by simp) hu
    exact e _ _ _ _ ⟨.bl _, H, I, rfl, h⟩
end
/-! ## repr of data -/
def rRepr (K : PySem.W.Frag) : List V → Hp → VK → Prop := fun xs H Q => ∃ x d, xs = [x] ∧ Dq K H x d ∧ d.showable = true ∧ (d.hasDict = true → noL d = true) ∧ d.depth ≤ 190 ∧ d.shown.length ≤ sizeLine ∧ Q (.str d.shown) H
theorem call_reprD {X : Cx} (hg : X.A.guards = some []) (hu : X.A.units + 200 < cLine) : CallR X (.builtin "repr") (rRepr X.K) := by
  rintro pins s σ H xs us Q I r ⟨x, d, rfl, hd, hsh, hno, hdp, hlen, q⟩
  cases r with
  | cons rx rr =>
    cases rr
    obtain ⟨as, ra, hs⟩ := Dq.reads I hd rx
    cases hd with
    | non => cases rx; exact P.repr_of_none ⟨.str _, H, Inv.tok I _, ⟨_, rfl⟩, q⟩
    | bl b => cases rx; refine P.repr_of_bool ⟨.str (if b = true then "True" else "False"), H, Inv.tok I _, ⟨_, rfl⟩, ?_⟩; cases b <;> exact q
    | int i =>
      obtain ⟨t, rfl⟩ := rx
      exact P.repr_of_int (by rw [PyData.showable] at hsh; exact of_decide_eq_true hsh) ⟨.str _, H, Inv.tok I _, ⟨_, rfl⟩, q⟩
    | str z =>
      obtain ⟨t, rfl⟩ := rx
      exact P.repr_of_str ⟨.str _, H, Inv.tok I _, ⟨_, rfl⟩, q⟩ hlen
    | lst h hs' =>
      cases rx
      exact repr_of_reads' ra hsh (fun z => hs (hno z)) hg (by omega) (fun _ _ e => e) (fun h' u tk k => ⟨.str _, H, I.kept k, ⟨_, rfl⟩, q⟩) hlen
    | tup h hs' =>
      cases rx
      exact repr_of_reads' ra hsh (fun z => hs (hno z)) hg (by omega) (fun _ _ e => e) (fun h' u tk k => ⟨.str _, H, I.kept k, ⟨_, rfl⟩, q⟩) hlen
    | dct h =>
      cases rx
      exact repr_of_reads' ra hsh (fun z => hs (hno z)) hg (by omega) (fun _ _ e => e) (fun h' u tk k => ⟨.str _, H, I.kept k, ⟨_, rfl⟩, q⟩) hlen
/-! ## small data: what its repr is at most -/
mutual
def Sm : PyData → Bool
  | .none => true
  | .bool _ => true
  | .int i => decide (i.natAbs ≤ 20)
  | .str x => x.cps.toList.all (fun c => decide (c < 128)) && decide (x.cps.size ≤ 10)
  | .list xs => Sms xs
  | .tuple xs => Sms xs
  | .dict kvs => kvs.isEmpty
def Sms : List PyData → Bool
  | [] => true
  | d :: r => Sm d && Sms r
end
theorem small_int (i : Int) (h : i.natAbs ≤ 20) : (PyData.int i).shown.length ≤ 10 ∧ (PyData.int i).showable = true := by
  have a : ∀ n : Fin 21, (PyData.int (n.val : Int)).shown.length ≤ 10 ∧ (PyData.int (n.val : Int)).showable = true := by decide +kernel
  have b : ∀ n : Fin 21, (PyData.int (-(n.val : Int))).shown.length ≤ 10 ∧ (PyData.int (-(n.val : Int))).showable = true := by decide +kernel
  rcases Int.natAbs_eq i with e | e <;> rw [e]
  · exact a ⟨i.natAbs, by omega⟩
  · exact b ⟨i.natAbs, by omega⟩
mutual
theorem Sm.fine : ∀ d : PyData, Sm d = true → d.showable = true ∧ PyData.leavesShort 10 d = true ∧ d.bulk + 3 ≤ 13 * sz d
  | .none, _ => ⟨by rw [PyData.showable], by rw [PyData.leavesShort], by simp [PyData.bulk, sz]⟩
  | .bool _, _ => ⟨by rw [PyData.showable], by rw [PyData.leavesShort], by simp [PyData.bulk, sz]⟩
  | .int i, h => by
    have h' : i.natAbs ≤ 20 := of_decide_eq_true h
    exact ⟨(small_int i h').2, by rw [PyData.leavesShort]; exact decide_eq_true (small_int i h').1, by simp [PyData.bulk, sz]⟩
  | .str x, h => by
    have h' : (x.cps.toList.all fun c => decide (c < 128)) = true ∧ x.cps.size ≤ 10 := by
      rw [Sm, Bool.and_eq_true] at h
      exact ⟨h.1, of_decide_eq_true h.2⟩
    refine ⟨by rw [PyData.showable], ?_, by simp only [PyData.bulk, sz]; omega⟩
    rw [PyData.leavesShort, List.all_eq_true]
    intro c hc
    have := of_decide_eq_true (List.all_eq_true.mp h'.1 c hc)
    exact decide_eq_true (Nat.lt_trans this (by decide))
  | .list xs, h => by
    have := Sms.fine xs (by rwa [Sm] at h)
    exact ⟨by rw [PyData.showable]; exact this.1, by rw [PyData.leavesShort]; exact this.2.1, by simp only [PyData.bulk, sz]; omega⟩
  | .tuple xs, h => by
    have := Sms.fine xs (by rwa [Sm] at h)
    exact ⟨by rw [PyData.showable]; exact this.1, by rw [PyData.leavesShort]; exact this.2.1, by simp only [PyData.bulk, sz]; omega⟩
  | .dict [], _ => ⟨by rw [PyData.showable, PyData.showableKv], by rw [PyData.leavesShort, PyData.leavesShortKv], by simp [PyData.bulk, PyData.bulkKv, sz]⟩
  | .dict (_ :: _), h => by rw [Sm] at h; cases h
theorem Sms.fine : ∀ ds : List PyData, Sms ds = true → PyData.showableAll ds = true ∧ PyData.leavesShortAll 10 ds = true ∧ PyData.bulkAll ds ≤ 13 * szs ds
  | [], _ => ⟨by rw [PyData.showableAll], by rw [PyData.leavesShortAll], by simp [PyData.bulkAll]⟩
  | d :: r, h => by
    rw [Sms, Bool.and_eq_true] at h
    have a := Sm.fine d h.1
    have b := Sms.fine r h.2
    have c := sz_pos d
    exact ⟨by rw [PyData.showableAll, a.1, b.1]; rfl, by rw [PyData.leavesShortAll, a.2.1, b.2.1]; rfl, by simp only [PyData.bulkAll, szs]; omega⟩
end
/-- what a law's thing is like: small, and not both a list and a dict in it -/
structure Fine (d : PyData) : Prop where
  sm : Sm d = true
  nd : d.hasDict = true → noL d = true
theorem Fine.shown {d : PyData} (f : Fine d) (h : sz d ≤ 10000) : d.shown.length ≤ sizeLine := by
  have a := Sm.fine d f.sm
  have b := PyData.shown_le_bulk 10 (by decide) d a.2.1
  exact fits (by omega)
theorem Kd.noD : ∀ k : Kd, k.dat.hasDict = false ∧ noL k.dat = true
  | .b _ => by simp [Kd.dat, PyData.hasDict, PyData.hasDictAll, noL, noLs]
  | .u => by simp [Kd.dat, PyData.hasDict, PyData.hasDictAll, noL, noLs]
  | .p x y => by simp [Kd.dat, PyData.hasDict, PyData.hasDictAll, noL, noLs, Kd.noD x, Kd.noD y]
  | .f x y => by simp [Kd.dat, PyData.hasDict, PyData.hasDictAll, noL, noLs, Kd.noD x, Kd.noD y]
theorem Kd.sm : ∀ k : Kd, k.ok → Sm k.dat = true
  | .b n, h => by
    have h' : n < 8 := h
    have e : Sm (.str "base") = true := by decide +kernel
    simp only [Kd.dat, Sm, Sms, Bool.and_true] at e ⊢
    rw [e]
    simp
    omega
  | .u, _ => by decide +kernel
  | .p x y, h => by
    have e : Sm (.str "both") = true := by decide +kernel
    simp only [Kd.dat, Sm, Sms, Kd.sm x h.1, Kd.sm y h.2, Bool.and_true] at e ⊢
    exact e
  | .f x y, h => by
    have e : Sm (.str "from") = true := by decide +kernel
    simp only [Kd.dat, Sm, Sms, Kd.sm x h.1, Kd.sm y h.2, Bool.and_true] at e ⊢
    exact e
theorem Kd.fine (k : Kd) (h : k.ok) : Fine k.dat := ⟨k.sm h, fun z => by rw [k.noD.1] at z; cases z⟩
end KB

namespace KB
open PySem PySem.Spec PyProof.Rows L2
/-! ## factors, and the order of tuples on them -/
inductive Fc where
  | mk (ws : List Fc) (n : Nat)
namespace Fc
mutual
def dat : Fc → PyData
  | mk ws n => .tuple [.tuple (dats ws), .int n]
def dats : List Fc → List PyData
  | [] => []
  | f :: r => dat f :: dats r
end
mutual
def cmp : Fc → Fc → Ordering
  | mk ws n, mk vs m => (cmps ws vs).then (compare n m)
def cmps : List Fc → List Fc → Ordering
  | [], [] => .eq
  | [], _ :: _ => .lt
  | _ :: _, [] => .gt
  | a :: r, b :: s => (cmp a b).then (cmps r s)
end
mutual
theorem cmp_eq : ∀ a b : Fc, cmp a b = .eq ↔ a = b
  | mk ws n, mk vs m => by
    rw [cmp, Ordering.then_eq_eq, cmps_eq ws vs, Nat.compare_eq_eq, mk.injEq]
theorem cmps_eq : ∀ a b : List Fc, cmps a b = .eq ↔ a = b
  | [], [] => by simp [cmps]
  | [], _ :: _ => by simp [cmps]
  | _ :: _, [] => by simp [cmps]
  | a :: r, b :: s => by rw [cmps, Ordering.then_eq_eq, cmp_eq a b, cmps_eq r s, List.cons.injEq]
end
mutual
theorem cmp_swap : ∀ a b : Fc, cmp b a = (cmp a b).swap
  | mk ws n, mk vs m => by
    rw [cmp, cmp, Ordering.swap_then, cmps_swap ws vs, Nat.compare_swap]
theorem cmps_swap : ∀ a b : List Fc, cmps b a = (cmps a b).swap
  | [], [] => by simp [cmps]
  | [], _ :: _ => by simp [cmps]
  | _ :: _, [] => by simp [cmps]
  | a :: r, b :: s => by rw [cmps, cmps, Ordering.swap_then, cmp_swap a b, cmps_swap r s]
end
mutual
theorem cmp_tr : ∀ a b c : Fc, cmp a b = .lt → cmp b c = .lt → cmp a c = .lt
  | mk ws n, mk vs m, mk us k => by
    rw [cmp, cmp, cmp, Ordering.then_eq_lt, Ordering.then_eq_lt, Ordering.then_eq_lt, Nat.compare_eq_lt, Nat.compare_eq_lt, Nat.compare_eq_lt]
    rintro (h1 | ⟨h1, h2⟩) (h3 | ⟨h3, h4⟩)
    · exact .inl (cmps_tr ws vs us h1 h3)
    · rw [cmps_eq] at h3; subst h3; exact .inl h1
    · rw [cmps_eq] at h1; subst h1; exact .inl h3
    · rw [cmps_eq] at h1 h3; subst h1; subst h3; exact .inr ⟨(cmps_eq _ _).mpr rfl, by omega⟩
theorem cmps_tr : ∀ a b c : List Fc, cmps a b = .lt → cmps b c = .lt → cmps a c = .lt
  | [], [], c => by simp [cmps]
  | [], _ :: _, [] => by simp [cmps]
  | [], _ :: _, _ :: _ => by simp [cmps]
  | _ :: _, [], _ => by simp [cmps]
  | _ :: _, _ :: _, [] => by simp [cmps]
  | a :: r, b :: s, c :: t => by
    rw [cmps, cmps, cmps, Ordering.then_eq_lt, Ordering.then_eq_lt, Ordering.then_eq_lt]
    rintro (h1 | ⟨h1, h2⟩) (h3 | ⟨h3, h4⟩)
    · exact .inl (cmp_tr a b c h1 h3)
    · rw [cmp_eq] at h3; subst h3; exact .inl h1
    · rw [cmp_eq] at h1; subst h1; exact .inl h3
    · rw [cmp_eq] at h1 h3; subst h1; subst h3; exact .inr ⟨(cmp_eq _ _).mpr rfl, cmps_tr r s t h2 h4⟩
end
def lt (a b : Fc) : Bool := cmp a b == .lt
theorem swo : SrtO.Swo lt := by
  refine ⟨fun x y h => ?_, fun x y z h1 h2 => ?_⟩
  · have h' : cmp x y = .lt := by simpa [lt] using h
    simp [lt, cmp_swap x y, h']
  · have h1' : cmp y x ≠ .lt := by simpa [lt] using h1
    have h2' : cmp z y ≠ .lt := by simpa [lt] using h2
    have : cmp z x ≠ .lt := by
      intro h
      cases e : cmp y x with
      | lt => exact h1' e
      | eq => rw [cmp_eq] at e; subst e; exact h2' h
      | gt => exact h2' (cmp_tr z x y h (by rw [cmp_swap y x, e]; rfl))
    simpa [lt] using this
mutual
theorem lay : ∀ f : Fc, (dat f).canLay0 = true
  | mk ws n => by simp [dat, PyData.canLay0, PyData.canLayAll0, lays ws]
theorem lays : ∀ fs : List Fc, PyData.canLayAll0 (dats fs) = true
  | [] => by simp [dats, PyData.canLayAll0]
  | f :: r => by simp [dats, PyData.canLayAll0, lay f, lays r]
end
theorem nat_ev (n m : Nat) : ((n : Int) == (m : Int)) = (compare n m == .eq) := by
  by_cases h : n = m
  · subst h; simp
  · have h2 : ¬ compare n m = .eq := fun z => h (Nat.compare_eq_eq.mp z)
    rw [beq_eq_false_iff_ne.mpr (fun z => h (by omega)), beq_eq_false_iff_ne.mpr h2]
theorem then_ev (a b : Ordering) : (a.then b == .eq) = (a == .eq && b == .eq) := by cases a <;> cases b <;> rfl
mutual
theorem eqv : ∀ f g : Fc, (dat f).eqv (dat g) = (cmp f g == .eq)
  | mk ws n, mk vs m => by
    rw [dat, dat, ev_tup, ev_cons, ev_cons, ev_nil, ev_tup, ev_int, eqvs ws vs, nat_ev, cmp, then_ev, Bool.and_true]
theorem eqvs : ∀ fs gs : List Fc, PyData.eqvAll (dats fs) (dats gs) = (cmps fs gs == .eq)
  | [], [] => by rw [dats, ev_nil, cmps]; rfl
  | [], g :: r => by rw [dats, dats, ev_nilc, cmps]; rfl
  | f :: r, [] => by rw [dats, dats, ev_cnil, cmps]; rfl
  | f :: r, g :: t => by rw [dats, dats, ev_cons, eqv f g, eqvs r t, cmps, then_ev]
end
theorem dats_length : ∀ fs : List Fc, (dats fs).length = fs.length
  | [] => rfl
  | f :: r => by rw [dats, List.length_cons, dats_length r, List.length_cons]
def eF (fs gs : List Fc) (j : Nat) : Bool := match fs[j]?, gs[j]? with | some f, some g => cmp f g == .eq | _, _ => false
def rF (fs gs : List Fc) (j : Nat) : Bool := match fs[j]?, gs[j]? with | some f, some g => lt f g | _, _ => false
theorem firstLt_map (e r : Nat → Bool) (fin : Bool) (g : Nat → Nat) : ∀ l : List Nat, SeqAt.firstLt e r fin (l.map g) = SeqAt.firstLt (fun j => e (g j)) (fun j => r (g j)) fin l
  | [] => by rw [List.map_nil, SeqAt.firstLt.eq_1, SeqAt.firstLt.eq_1]
  | j :: t => by rw [List.map_cons, SeqAt.firstLt.eq_2, SeqAt.firstLt.eq_2, firstLt_map e r fin g t]
theorem then_lt (a b : Ordering) : (a.then b == .lt) = (if (a == .eq) = true then (b == .lt) else (a == .lt)) := by cases a <;> cases b <;> rfl
theorem firstLt_cmps : ∀ fs gs : List Fc, SeqAt.firstLt (eF fs gs) (rF fs gs) (decide (fs.length < gs.length)) (List.range (min fs.length gs.length)) = (cmps fs gs == .lt)
  | [], [] => by simp [SeqAt.firstLt.eq_1, cmps]
  | [], _ :: _ => by simp [SeqAt.firstLt.eq_1, cmps]
  | _ :: _, [] => by simp [SeqAt.firstLt.eq_1, cmps]
  | f :: r, g :: t => by
    have hm : min (f :: r).length (g :: t).length = min r.length t.length + 1 := by simp only [List.length_cons]; omega
    have hd : decide ((f :: r).length < (g :: t).length) = decide (r.length < t.length) := by simp
    rw [hm, hd, List.range_succ_eq_map, SeqAt.firstLt.eq_2, firstLt_map]
    have h1 : (fun j => eF (f :: r) (g :: t) (Nat.succ j)) = eF r t := funext fun j => rfl
    have h2 : (fun j => rF (f :: r) (g :: t) (Nat.succ j)) = rF r t := funext fun j => rfl
    rw [h1, h2, firstLt_cmps r t, cmps, then_lt]
    rfl
theorem tup_inv {h : Heap} {v : Value} {ds : List PyData} {as : List Addr} (r : Reads h v (.tuple ds) as) : ∃ a items, v = .ref a ∧ h.IsTuple a items ∧ ReadsAll h items.toList ds as := by
  cases r with
  | tuple e1 e2 e3 ra => exact ⟨_, _, rfl, ⟨_, e1, e2, _, e3⟩, ra⟩
theorem rc_int {A : Around} {s : Shared} (a : Int) (t : Tok) (b : Int) (u : Tok) : SeqAt.RcLt A s (.int a t) (.int b u) (decide (a < b)) := fun prog w E Q h => lt_int h
theorem reads_at {h : Heap} : ∀ {vs : List Value} {fs : List Fc} {as : List Addr}, ReadsAll h vs (dats fs) as → vs.length = fs.length ∧ ∀ (j : Nat) (hj : j < vs.length), ∃ f bs, fs[j]? = some f ∧ Reads h vs[j] (dat f) bs
  | _, [], _, r => by
    rw [dats] at r
    cases r
    exact ⟨rfl, fun j hj => absurd hj (Nat.not_lt_zero _)⟩
  | _, f :: t, _, r => by
    rw [dats] at r
    cases r with
    | cons r1 r2 =>
      obtain ⟨hl, hr⟩ := reads_at r2
      refine ⟨by simp [hl], fun j hj => ?_⟩
      cases j with
      | zero => exact ⟨f, _, rfl, r1⟩
      | succ j =>
        obtain ⟨g, bs, e, q⟩ := hr j (by simpa using hj)
        exact ⟨g, bs, by simpa using e, q⟩
theorem depth_mem {fs : List Fc} {f : Fc} {j : Nat} (h : fs[j]? = some f) : (dat f).depth ≤ PyData.depthAll (dats fs) := by
  induction fs generalizing j with
  | nil => simp at h
  | cons g r ih =>
    rw [dats]
    simp only [PyData.depthAll]
    cases j with
    | zero => simp at h; subst h; omega
    | succ j => have := ih (j := j) (by simpa using h); omega
mutual
theorem rcLt : ∀ (f g : Fc) {A : Around} {s : Shared} {v u : Value} {as bs : List Addr}, Reads s.heap v (dat f) as → Reads s.heap u (dat g) bs → A.units + (dat f).depth < cLine → SeqAt.RcLt A s v u (lt f g)
  | mk ws n, mk vs m, A, s, v, u, as, bs, rv, ru, hu => by
    rw [dat] at rv ru hu
    simp only [PyData.depth, PyData.depthAll] at hu
    obtain ⟨a, items, rfl, t1, ra⟩ := tup_inv rv
    obtain ⟨b, items2, rfl, t2, rb⟩ := tup_inv ru
    obtain ⟨il⟩ := items
    obtain ⟨il2⟩ := items2
    cases ra with
    | cons r1 r2 => cases r2 with
    | cons r3 r4 => cases r4 with
    | nil => cases rb with
    | cons p1 p2 => cases p2 with
    | cons p3 p4 => cases p4 with
    | nil =>
    cases r3
    cases p3
    have eq0 := SeqAt.eqAt_reads _ _ A.in1 s _ _ _ _ r1 p1 (by simpa [PyData.canLay0] using lays ws) (by simpa [PyData.canLay0] using lays vs) (by show A.units + 1 + _ < cLine; simp only [PyData.depth]; omega)
    rw [ev_tup, eqvs] at eq0
    obtain ⟨a1, w1, rfl, tw, rw1⟩ := tup_inv r1
    obtain ⟨b1, w2, rfl, tv, rv1⟩ := tup_inv p1
    obtain ⟨l1, f1⟩ := reads_at rw1
    obtain ⟨l2, f2⟩ := reads_at rv1
    have lt0 : SeqAt.RcLt A.in1 s (.ref a1) (.ref b1) (cmps ws vs == .lt) := by
      have h := SeqAt.RcLt.tuples (A := A.in1) (s := s) (e := eF ws vs) (r := rF ws vs) tw tv (by show A.units + 1 < cLine; omega) (fun j h1 h2 => ?_) (fun j h1 h2 _ => ?_)
      · have s1 : w1.size = ws.length := by rw [← l1]; simp
        have s2 : w2.size = vs.length := by rw [← l2]; simp
        rw [s1, s2, firstLt_cmps] at h
        exact h
      · obtain ⟨f, as1, e1, q1⟩ := f1 j (by simpa using h1)
        obtain ⟨g, bs1, e2, q2⟩ := f2 j (by simpa using h2)
        have d1 := depth_mem e1
        have := SeqAt.eqAt_reads _ _ A.in1.in1 s _ _ _ _ q1 q2 (lay f) (lay g) (by show A.units + 1 + 1 + _ < cLine; omega)
        rw [eqv f g] at this
        have ef : eF ws vs j = (cmp f g == .eq) := by simp [eF, e1, e2]
        rw [ef]
        simpa using this
      · obtain ⟨f, as1, e1, q1⟩ := f1 j (by simpa using h1)
        obtain ⟨g, bs1, e2, q2⟩ := f2 j (by simpa using h2)
        have := rcLts ws vs (A := A.in1.in1) j e1 q1 q2 (by show A.units + 1 + 1 + _ < cLine; omega)
        have ef : rF ws vs j = lt f g := by simp [rF, e1, e2]
        rw [ef]
        simpa using this
    have h := SeqAt.RcLt.tuples (A := A) (s := s) (e := fun j => if j = 0 then (cmps ws vs == .eq) else ((n : Int) == (m : Int))) (r := fun j => if j = 0 then (cmps ws vs == .lt) else decide ((n : Int) < (m : Int))) t1 t2 (by omega) (fun j h1 h2 => ?_) (fun j h1 h2 _ => ?_)
    · have e : SeqAt.firstLt (fun j => if j = 0 then (cmps ws vs == .eq) else ((n : Int) == (m : Int))) (fun j => if j = 0 then (cmps ws vs == .lt) else decide ((n : Int) < (m : Int))) (decide (2 < 2)) [0, 1] = lt (mk ws n) (mk vs m) := by
        rw [SeqAt.firstLt.eq_2, SeqAt.firstLt.eq_2, SeqAt.firstLt.eq_1, lt, cmp, then_lt]
        have hnm : decide ((n : Int) < (m : Int)) = (compare n m == .lt) := by
          by_cases h : n < m
          · have h2 : compare n m = .lt := Nat.compare_eq_lt.mpr h
            have h3 : ((n : Int) < (m : Int)) := by omega
            simp [h2, h3]
          · have h2 : compare n m ≠ .lt := fun z => h (Nat.compare_eq_lt.mp z)
            have h3 : ¬ ((n : Int) < (m : Int)) := by omega
            simp [h2, h3]
        simp only [hnm, nat_ev]
        generalize cmps ws vs = c
        generalize compare n m = d
        cases c <;> cases d <;> rfl
      rw [← e]
      exact h
    · match j, h1, h2 with
      | 0, _, _ => exact eq0
      | 1, _, _ => exact SeqAt.EqAt.int_int _ _ _ _
      | j + 2, h1, _ => exact absurd h1 (by simp)
    · match j, h1, h2 with
      | 0, _, _ => exact lt0
      | 1, _, _ => exact rc_int _ _ _ _
      | j + 2, h1, _ => exact absurd h1 (by simp)
theorem rcLts : ∀ (fs gs : List Fc) {A : Around} {s : Shared} (j : Nat) {f g : Fc} {v u : Value} {as bs : List Addr}, fs[j]? = some f → Reads s.heap v (dat f) as → Reads s.heap u (dat g) bs → A.units + PyData.depthAll (dats fs) < cLine → SeqAt.RcLt A s v u (lt f g)
  | [], _, _, _, _, _, _, _, _, _, _, h, _, _, _ => by simp at h
  | f0 :: r, gs, A, s, 0, f, g, v, u, as, bs, h, rv, ru, hu => by
    have e : f0 = f := by simpa using h
    subst e
    rw [dats] at hu
    simp only [PyData.depthAll] at hu
    exact rcLt f0 g rv ru (by omega)
  | f0 :: r, gs, A, s, j + 1, f, g, v, u, as, bs, h, rv, ru, hu => by
    rw [dats] at hu
    simp only [PyData.depthAll] at hu
    exact rcLts r gs j (by simpa using h) rv ru (by omega)
end
theorem rcLtW {ws vs : List Fc} {A : Around} {s : Shared} {v u : Value} {as bs : List Addr} (r1 : Reads s.heap v (.tuple (dats ws)) as) (p1 : Reads s.heap u (.tuple (dats vs)) bs) (hu : A.units + (PyData.depthAll (dats ws) + 2) < cLine) : SeqAt.RcLt A s v u (cmps ws vs == .lt) := by
  obtain ⟨a1, w1, rfl, tw, rw1⟩ := tup_inv r1
  obtain ⟨b1, w2, rfl, tv, rv1⟩ := tup_inv p1
  obtain ⟨l1, f1⟩ := reads_at rw1
  obtain ⟨l2, f2⟩ := reads_at rv1
  have h := SeqAt.RcLt.tuples (A := A) (s := s) (e := eF ws vs) (r := rF ws vs) tw tv (by omega) (fun j h1 h2 => ?_) (fun j h1 h2 _ => ?_)
  · have s1 : w1.size = ws.length := by rw [← l1]; simp
    have s2 : w2.size = vs.length := by rw [← l2]; simp
    rw [s1, s2, firstLt_cmps] at h
    exact h
  · obtain ⟨f, as1, e1, q1⟩ := f1 j (by simpa using h1)
    obtain ⟨g, bs1, e2, q2⟩ := f2 j (by simpa using h2)
    have d1 := depth_mem e1
    have := SeqAt.eqAt_reads _ _ A.in1 s _ _ _ _ q1 q2 (lay f) (lay g) (by show A.units + 1 + _ < cLine; omega)
    rw [eqv f g] at this
    have ef : eF ws vs j = (cmp f g == .eq) := by simp [eF, e1, e2]
    rw [ef]
    simpa using this
  · obtain ⟨f, as1, e1, q1⟩ := f1 j (by simpa using h1)
    obtain ⟨g, bs1, e2, q2⟩ := f2 j (by simpa using h2)
    have := rcLts ws vs (A := A.in1) j e1 q1 q2 (by show A.units + 1 + _ < cLine; omega)
    have ef : rF ws vs j = lt f g := by simp [rF, e1, e2]
    rw [ef]
    simpa using this
mutual
theorem keeps {h h' : Heap} (k : ∀ (b : Addr) (o : Obj), o.cls = .type "tuple" → h.get? b = some o → h'.get? b = some o) : ∀ (f : Fc) {v : Value} {as : List Addr}, Reads h v (dat f) as → Reads h' v (dat f) as
  | mk ws n, v, as, r => by
    rw [dat] at r ⊢
    obtain ⟨a, ⟨il⟩, rfl, ⟨o, e1, e2, n1, e3⟩, ra⟩ := tup_inv r
    cases ra with
    | cons r1 r2 => cases r2 with
    | cons r3 r4 =>
      cases r4
      cases r3
      obtain ⟨a2, ⟨il2⟩, rfl, ⟨o2, g1, g2, n2, g3⟩, rb⟩ := tup_inv r1
      exact .tuple (k _ _ e2 e1) e2 e3 (.cons (.tuple (k _ _ g2 g1) g2 g3 (keepsAll k ws rb)) (.cons (.int _ _) .nil))
theorem keepsAll {h h' : Heap} (k : ∀ (b : Addr) (o : Obj), o.cls = .type "tuple" → h.get? b = some o → h'.get? b = some o) : ∀ (fs : List Fc) {vs : List Value} {as : List Addr}, ReadsAll h vs (dats fs) as → ReadsAll h' vs (dats fs) as
  | [], _, _, r => by rw [dats] at r ⊢; cases r; exact .nil
  | f :: t, _, _, r => by
    rw [dats] at r ⊢
    cases r with
    | cons r1 r2 => exact .cons (keeps k f r1) (keepsAll k t r2)
end
theorem nat_ltv (n m : Nat) : decide ((n : Int) < (m : Int)) = (compare n m == .lt) := by
  by_cases h : n < m
  · have h2 : compare n m = .lt := Nat.compare_eq_lt.mpr h
    have h3 : ((n : Int) < (m : Int)) := by omega
    simp [h2, h3]
  · have h2 : compare n m ≠ .lt := fun z => h (Nat.compare_eq_lt.mp z)
    have h3 : ¬ ((n : Int) < (m : Int)) := by omega
    simp [h2, h3]
theorem cmp_self (f : Fc) : cmp f f = .eq := (cmp_eq f f).mpr rfl
theorem dat_inj {f g : Fc} (h : dat f = dat g) : f = g := by
  have a := eqv f g
  have b := eqv f f
  rw [cmp_self] at b
  rw [← h, b] at a
  exact (cmp_eq f g).mp (by simpa using a.symm)
open Classical in
noncomputable def kOf (h : Heap) (v : Value) : Fc := if e : ∃ f as, Reads h v (dat f) as then e.choose else .mk [] 0
theorem kOf_eq {h : Heap} {v : Value} {f : Fc} {as : List Addr} (r : Reads h v (dat f) as) : kOf h v = f := by
  have e : ∃ f as, Reads h v (dat f) as := ⟨f, as, r⟩
  unfold kOf
  rw [dif_pos e]
  obtain ⟨bs, q⟩ := e.choose_spec
  exact dat_inj (SeqAt.Reads.unique _ _ _ _ _ (lay _) q r)
theorem firsts {h : Heap} : ∀ {vs : List Value}, (∀ v ∈ vs, ∃ f as, Reads h v (dat f) as) → ∃ fs, PySem.W.KatTups h vs fs ∧ fs.length = vs.length ∧ ∀ f ∈ fs, ∃ a o, f = Value.ref a ∧ h.get? a = some o ∧ o.cls = .type "tuple"
  | [], _ => ⟨[], by simp only [PySem.W.KatTups], rfl, fun f hf => absurd hf List.not_mem_nil⟩
  | v :: r, hv => by
    obtain ⟨fs, h1, h2, h3⟩ := firsts (vs := r) fun x hx => hv x (List.mem_cons_of_mem _ hx)
    obtain ⟨f, as, rf⟩ := hv v List.mem_cons_self
    obtain ⟨ws, n⟩ := f
    rw [dat] at rf
    obtain ⟨a, ⟨il⟩, rfl, ⟨o, e1, e2, n1, e3⟩, ra⟩ := tup_inv rf
    cases ra with
    | cons r1 r2 =>
      obtain ⟨a2, ⟨il2⟩, rfl, ⟨o2, g1, g2, n2, g3⟩, rb⟩ := tup_inv r1
      refine ⟨.ref a2 :: fs, by simp only [PySem.W.KatTups]; exact ⟨⟨a, o, _, _, rfl, e1, e2, e3, rfl⟩, h1⟩, by simp [h2], fun f hf => ?_⟩
      rcases List.mem_cons.mp hf with rfl | hf
      · exact ⟨a2, o2, rfl, g1, g2⟩
      · exact h3 f hf
theorem cmp_sort {prog : Program} {w : World} {A : Around} {s : Shared} {vs : List Value} {k : Value → Fc} (hp : ∀ v ∈ vs, ∃ as, Reads s.heap v (dat (k v)) as ∧ A.units + ((dat (k v)).depth + 2) < cLine) :
    SrtO.Cmp prog w A s (tuples' false) (fun p => p.fst ∈ vs) (SrtO.lt2 fun v u => lt (k v) (k u)) := by
  intro p q hm hm'
  obtain ⟨as, rf, hu⟩ := hp p.fst hm
  obtain ⟨bs, rg, _⟩ := hp q.fst hm'
  show wpAny (model prog w) A (keyLt' (tuples' false) p.fst q.fst) (fun r s' => s' = s ∧ r = lt (k p.fst) (k q.fst)) (fun x x_1 => False) s
  generalize k p.fst = f at rf hu ⊢
  generalize k q.fst = g at rg ⊢
  obtain ⟨ws, n⟩ := f
  obtain ⟨us, m⟩ := g
  rw [dat] at rf rg hu
  simp only [PyData.depth, PyData.depthAll] at hu
  obtain ⟨a, ⟨il⟩, e0, ⟨o, e1, e2, n1, e3⟩, ra⟩ := tup_inv rf
  obtain ⟨b, ⟨il2⟩, g0, ⟨o2, g1, g2, n2, g3⟩, rb⟩ := tup_inv rg
  rw [e0, g0]
  cases ra with
  | cons r1 r2 => cases r2 with
  | cons r3 r4 =>
    cases r4
    cases r3
    cases rb with
    | cons p1 p2 => cases p2 with
    | cons p3 p4 =>
      cases p4
      cases p3
      have eq0 := SeqAt.eqAt_reads _ _ A s _ _ _ _ r1 p1 (by simpa [PyData.canLay0] using lays ws) (by simpa [PyData.canLay0] using lays us) (by simp only [PyData.depth]; omega)
      rw [ev_tup, eqvs] at eq0
      have lt0 := rcLtW (A := A) r1 p1 (by omega)
      have val : lt (mk ws n) (mk us m) = (if (cmps ws us == .eq) = true then (compare n m == .lt) else (cmps ws us == .lt)) := by rw [lt, cmp, then_lt]
      refine PySem.W.kat_lt e1 e3 g1 g3 (PySem.W.kat_cons (eq0 prog w _ _ (PySem.W.kat_go (fun c1 => PySem.W.kat_yes (PySem.W.kat_cons (SeqAt.EqAt.int_int _ _ _ _ prog w _ _ (PySem.W.kat_go (fun c2 => PySem.W.kat_yes (PySem.W.kat_nil ⟨rfl, ?_⟩)) fun c2 => PySem.W.kat_no (PySem.W.kat_one _ _ (lt_int ⟨rfl, ?_⟩)))))) fun c1 => PySem.W.kat_no (PySem.W.kat_one _ _ (lt0 prog w _ _ ⟨rfl, ?_⟩)))))
      · rw [val, if_pos c1]
        have : n = m := by have := eq_of_beq c2; omega
        subst this; simp
      · rw [val, if_pos c1]; exact nat_ltv n m
      · rw [val, c1]; rfl
theorem sortable {prog : Program} {w : World} {A : Around} {s : Shared} {a : Addr} {vs : List Value} {k : Value → Fc} (h0 : 0 < vs.length) (hp : ∀ v ∈ vs, ∃ as, Reads s.heap v (dat (k v)) as ∧ A.units + ((dat (k v)).depth + 2) < cLine)
    (ha : ∀ o : Obj, s.heap.get? a = some o → o.cls ≠ .type "tuple") : SrtO.SortableO prog w A s a vs (fun v u => lt (k v) (k u)) := by
  intro h' keep
  have kp : ∀ (b : Addr) (o : Obj), o.cls = .type "tuple" → s.heap.get? b = some o → h'.get? b = some o := fun b o c e => keep b o (fun z => by subst z; exact ha o e c) e
  have hp' : ∀ v ∈ vs, ∃ as, Reads h' v (dat (k v)) as ∧ A.units + ((dat (k v)).depth + 2) < cLine := fun v hv => by
    obtain ⟨as, r, u⟩ := hp v hv
    exact ⟨as, keeps kp _ r, u⟩
  obtain ⟨fs, h1, h2, h3⟩ := firsts (h := h') (vs := vs) fun v hv => by
    obtain ⟨as, r, _⟩ := hp' v hv
    exact ⟨_, as, r⟩
  refine ⟨tuples' false, fun Q E hq => PySem.W.kat_kind (T := .type "tuple") h1 (by omega) (fun f hf => ?_) (by decide) ?_, cmp_sort (s := { heap := h', gens := s.gens, drawn := s.drawn, toks := s.toks, os := s.os }) hp'⟩
  · obtain ⟨b, o, rfl, e1, e2⟩ := h3 f hf
    exact fun A Q E s k q => wpAny_typeOf_ref (k b o e1) (by rw [e2]; exact q)
  · have e : ((Value.type "tuple" : Value) != .type "tuple") = false := by decide
    rw [e]; exact hq
theorem sorted_fc {prog : Program} {w : World} {A : Around} {E : Value → Shared → Prop} {s : Shared} {l : Addr} {vs : List Value} {k : Value → Fc} {Q : Value → Shared → Prop} (hl : s.heap.IsList l vs.toArray) (hz : vs.length ≤ sizeLine)
    (hp : ∀ v ∈ vs, ∃ as, Reads s.heap v (dat (k v)) as ∧ A.units + ((dat (k v)).depth + 4) < cLine)
    (h : ∀ (h' : Heap) (d : Addr) (out : List Value), SrtO.Srtd (fun v u => lt (k v) (k u)) out → out.Perm vs → (∀ (b : Addr) (o : Obj), s.heap.get? b = some o → h'.get? b = some o) → s.heap.objs.size ≤ d → (∃ n, h'.get? d = some (seqObj "list" out.toArray n)) →
      Q (.ref d) { heap := h', gens := s.gens, drawn := s.drawn, toks := s.toks, os := s.os }) :
    wpAny (model prog w) A (call (.builtin "sorted") [.ref l]) Q E s := by
  refine SrtO.sorted_ord (ltv := fun v u => lt (k v) (k u)) ⟨fun x y => swo.asym _ _, fun x y z => swo.tr _ _ _⟩ hl hz (fun h2 h₁ a ha kk => ?_) fun out hs hb => ?_
  · refine sortable (s := { heap := h₁, gens := s.gens, drawn := s.drawn, toks := s.toks, os := s.os }) (by omega) (fun v hv => ?_) fun o e => ?_
    · obtain ⟨as, r, u⟩ := hp v hv
      exact ⟨as, keeps (fun b o _ e => (kk b o e).2) _ r, by show A.units + 1 + 1 + _ < cLine; omega⟩
    · have e2 := ha.symm.trans e
      cases e2
      intro z
      exact absurd (Value.type.inj z) (by decide)
  · obtain ⟨n, e⟩ := sortedAll_at s.heap vs out.toArray
    exact h _ _ out hs hb.perm (fun b o e => sortedAll_old e) (Nat.le_succ _) ⟨n, e⟩
/-! ## the one sorted list -/
def ins (f : Fc) : List Fc → List Fc
  | [] => [f]
  | g :: r => if lt g f = true then g :: ins f r else f :: g :: r
def srt : List Fc → List Fc
  | [] => []
  | f :: r => ins f (srt r)
theorem ins_perm (f : Fc) : ∀ l : List Fc, (ins f l).Perm (f :: l)
  | [] => .refl _
  | g :: r => by
    unfold ins
    split
    · exact ((ins_perm f r).cons g).trans (.swap f g r)
    · exact .refl _
theorem srt_perm : ∀ l : List Fc, (srt l).Perm l
  | [] => .refl _
  | f :: r => (ins_perm f (srt r)).trans ((srt_perm r).cons f)
abbrev Ord (l : List Fc) : Prop := l.Pairwise fun x y => lt y x = false
theorem ins_ord (f : Fc) : ∀ l : List Fc, Ord l → Ord (ins f l)
  | [], _ => List.pairwise_singleton _ _
  | g :: r, h => by
    have h' := List.pairwise_cons.mp h
    unfold ins
    split
    · rename_i c
      refine List.pairwise_cons.mpr ⟨fun x hx => ?_, ins_ord f r h'.2⟩
      rcases List.mem_cons.mp ((ins_perm f r).mem_iff.mp hx) with rfl | hx
      · exact swo.asym _ _ c
      · exact h'.1 x hx
    · rename_i c
      have c' : lt g f = false := Bool.eq_false_iff.mpr c
      refine List.pairwise_cons.mpr ⟨fun x hx => ?_, h⟩
      rcases List.mem_cons.mp hx with rfl | hx
      · exact c'
      · exact swo.tr _ _ _ c' (h'.1 x hx)
theorem srt_ord : ∀ l : List Fc, Ord (srt l)
  | [] => List.Pairwise.nil
  | f :: r => ins_ord f _ (srt_ord r)
theorem anti {a b : Fc} (h1 : lt a b = false) (h2 : lt b a = false) : a = b := by
  have h1' : cmp a b ≠ .lt := by simpa [lt] using h1
  have h2' : cmp b a ≠ .lt := by simpa [lt] using h2
  cases e : cmp a b with
  | lt => exact absurd e h1'
  | eq => exact (cmp_eq a b).mp e
  | gt => exact absurd (by rw [cmp_swap a b, e]; rfl) h2'
theorem ord_one : ∀ l m : List Fc, Ord l → Ord m → l.Perm m → l = m
  | [], m, _, _, p => p.nil_eq
  | a :: r, [], _, _, p => absurd p.length_eq (by simp)
  | a :: r, b :: t, h1, h2, p => by
    have g1 := List.pairwise_cons.mp h1
    have g2 := List.pairwise_cons.mp h2
    have e : a = b := by
      have ma : a ∈ b :: t := p.mem_iff.mp List.mem_cons_self
      have mb : b ∈ a :: r := p.mem_iff.mpr List.mem_cons_self
      rcases List.mem_cons.mp ma with h | h
      · exact h
      · rcases List.mem_cons.mp mb with k | k
        · exact k.symm
        · exact anti (g2.1 a h) (g1.1 b k)
    subst e
    rw [ord_one r t g1.2 g2.2 (p.cons_inv)]
/-! ## sorted of factors -/
theorem map_k {h : Heap} : ∀ {vs : List Value} {fs : List Fc} {as : List Addr}, ReadsAll h vs (dats fs) as → vs.map (kOf h) = fs
  | _, [], _, r => by rw [dats] at r; cases r; rfl
  | _, f :: t, _, r => by
    rw [dats] at r
    cases r with
    | cons r1 r2 => rw [List.map_cons, kOf_eq r1, map_k r2]
theorem dq_each {K : PySem.W.Frag} {H : Hp} (f : Value → V) (g : Value → Fc) : ∀ {l : List Value}, DqAll K H (l.map f) (dats (l.map g)) → ∀ v ∈ l, Dq K H (f v) (dat (g v))
  | [], _, v, hv => absurd hv List.not_mem_nil
  | x :: r, h, v, hv => by
    rw [List.map_cons, List.map_cons, dats] at h
    cases h with
    | cons a b =>
      rcases List.mem_cons.mp hv with rfl | hv
      · exact a
      · exact dq_each f g b v hv
theorem dq_all {K : PySem.W.Frag} {H : Hp} (f : Value → V) (g : Value → Fc) : ∀ {l : List Value}, (∀ v ∈ l, Dq K H (f v) (dat (g v))) → DqAll K H (l.map f) (dats (l.map g))
  | [], _ => by rw [List.map_nil, List.map_nil, dats]; exact .nil
  | x :: r, h => by
    rw [List.map_cons, List.map_cons, dats]
    exact .cons (h x List.mem_cons_self) (dq_all f g fun v hv => h v (List.mem_cons_of_mem _ hv))
theorem dq_ref {K : PySem.W.Frag} {H : Hp} {v : V} {f : Fc} (h : Dq K H v (dat f)) : ∃ a, v = .ref a := by
  obtain ⟨ws, n⟩ := f
  rw [dat] at h
  cases h
  exact ⟨_, rfl⟩
theorem dq_refs {K : PySem.W.Frag} {H : Hp} : ∀ {xs : List V} {fs : List Fc}, DqAll K H xs (dats fs) → ∀ x ∈ xs, ∃ a, x = .ref a
  | _, [], h, x, hx => by rw [dats] at h; cases h; exact absurd hx List.not_mem_nil
  | _, f :: r, h, x, hx => by
    rw [dats] at h
    cases h with
    | cons a b =>
      rcases List.mem_cons.mp hx with rfl | hx
      · exact dq_ref a
      · exact dq_refs b x hx
end Fc
def rSortF (K : PySem.W.Frag) : List V → Hp → VK → Prop := fun vs H Q => ∃ a xs fs, vs = [.ref a] ∧ SqL K H a xs ∧ DqAll K H xs (Fc.dats fs) ∧ PyData.depthAll (Fc.dats fs) ≤ 180 ∧
  ∀ ys p, DqAll K H ys (Fc.dats (Fc.srt fs)) → H p = none → Q (.ref p) (upd H p (.lst ys))
theorem call_sortF {X : Cx} (hu : X.A.units + 200 < cLine) : CallR X (.builtin "sorted") (rSortF X.K) := by
  rintro pins s σ H vs us Q I r ⟨a, xs, fs, rfl, hs, hd, hdep, q⟩
  obtain ⟨its, rv, hl, hz⟩ := I.list hs
  cases r with
  | cons r1 r2 =>
    cases r2
    cases r1
    obtain ⟨as, ra, _⟩ := DqAll.reads I hd rv
    obtain ⟨e1, e2⟩ := L2.refs_back rv (Fc.dq_refs hd)
    have hk := Fc.map_k ra
    obtain ⟨hlen, hat⟩ := Fc.reads_at ra
    have hd' : DqAll X.K H (its.map L2.backV) (Fc.dats (its.map (Fc.kOf s.heap))) := by rw [← e1, hk]; exact hd
    have each := Fc.dq_each _ _ hd'
    refine Fc.sorted_fc (k := Fc.kOf s.heap) (PlainL.isList hl) (by rw [← rv.length]; exact hz) (fun v hv => ?_) fun h' d out ho hp kp hsz hn => ?_
    · obtain ⟨j, hj, rfl⟩ := List.getElem_of_mem hv
      obtain ⟨f, bs, ef, rf⟩ := hat j hj
      rw [Fc.kOf_eq rf]
      have := Fc.depth_mem ef
      exact ⟨bs, rf, by omega⟩
    · obtain ⟨n, hn⟩ := hn
      have h3 : ∀ u ∈ out, ∃ a, u = Value.ref a := fun u hu => e2 u (hp.mem_iff.mp hu)
      have es : out.map (Fc.kOf s.heap) = Fc.srt fs := by
        refine Fc.ord_one _ _ (List.pairwise_map.mpr ho) (Fc.srt_ord _) ?_
        have p1 := hp.map (Fc.kOf s.heap)
        rw [hk] at p1
        exact p1.trans (Fc.srt_perm fs).symm
      refine ⟨.ref d, upd H d (.lst (out.map L2.backV)), I.laid kp hsz ⟨?_, out, n, L2.vals_back h3, hn⟩, rfl, q _ d ?_ (HOk.fresh I.hok hsz)⟩
      · rw [List.length_map, hp.length_eq, ← rv.length]; exact hz
      · rw [← es]
        exact Fc.dq_all _ _ fun v hv => each v (hp.mem_iff.mp hv)
end KB

namespace KB
open PySem L2
/-! ## the factors of a kind -/
namespace Fc
theorem srt_congr {l m : List Fc} (p : l.Perm m) : srt l = srt m := ord_one _ _ (srt_ord l) (srt_ord m) ((srt_perm l).trans (p.trans (srt_perm m).symm))
theorem srt_of {l : List Fc} (h : Ord l) : srt l = l := ord_one _ _ (srt_ord l) h (srt_perm l)
theorem srt_srt (l : List Fc) : srt (srt l) = srt l := srt_of (srt_ord l)
theorem srt_left (a b : List Fc) : srt (srt a ++ b) = srt (a ++ b) := srt_congr ((srt_perm a).append_right b)
theorem srt_right (a b : List Fc) : srt (a ++ srt b) = srt (a ++ b) := srt_congr ((srt_perm b).append_left a)
mutual
theorem pure_dat : ∀ f : Fc, pureT (dat f) = true
  | mk ws n => by simp [dat, pureT, pureTs, pure_dats ws]
theorem pure_dats : ∀ l : List Fc, pureTs (dats l) = true
  | [] => by simp [dats, pureTs]
  | f :: r => by simp [dats, pureTs, pure_dat f, pure_dats r]
end
theorem dats_append : ∀ a b : List Fc, dats (a ++ b) = dats a ++ dats b
  | [], b => by rw [dats]; rfl
  | f :: r, b => by rw [List.cons_append, dats, dats_append r b, dats]; rfl
theorem depth_le {B : Nat} : ∀ {l : List Fc}, (∀ f ∈ l, (dat f).depth ≤ B) → PyData.depthAll (dats l) ≤ B
  | [], _ => by rw [dats]; simp [PyData.depthAll]
  | f :: r, h => by
    rw [dats]
    simp only [PyData.depthAll]
    have a := h f List.mem_cons_self
    have b := depth_le (l := r) fun g hg => h g (List.mem_cons_of_mem _ hg)
    omega
theorem depth_of {l : List Fc} {f : Fc} (h : f ∈ l) : (dat f).depth ≤ PyData.depthAll (dats l) := by
  obtain ⟨j, hj, e⟩ := List.getElem_of_mem h
  exact depth_mem (j := j) (by rw [List.getElem?_eq_getElem hj, e])
theorem depth_perm {l m : List Fc} (p : l.Perm m) : PyData.depthAll (dats l) = PyData.depthAll (dats m) :=
  Nat.le_antisymm (depth_le fun f hf => depth_of (p.mem_iff.mp hf)) (depth_le fun f hf => depth_of (p.mem_iff.mpr hf))
theorem depth_srt (l : List Fc) : PyData.depthAll (dats (srt l)) = PyData.depthAll (dats l) := depth_perm (srt_perm l)
theorem depth_append (a b : List Fc) : PyData.depthAll (dats (a ++ b)) = max (PyData.depthAll (dats a)) (PyData.depthAll (dats b)) := by
  refine Nat.le_antisymm (depth_le fun f hf => ?_) (Nat.max_le.mpr ⟨depth_le fun f hf => depth_of (List.mem_append.mpr (.inl hf)), depth_le fun f hf => depth_of (List.mem_append.mpr (.inr hf))⟩)
  rcases List.mem_append.mp hf with h | h
  · have := depth_of h; omega
  · have := depth_of h; omega
end Fc
/-- the factors of a kind, each wanting W besides, in no order -/
def Kd.fac : Kd → List Fc → List Fc
  | .b n, W => [.mk W n]
  | .u, _ => []
  | .p x y, W => x.fac W ++ y.fac W
  | .f x y, W => y.fac (Fc.srt (W ++ Fc.srt (x.fac [])))
def Kd.form (k : Kd) : List Fc := Fc.srt (k.fac [])
/-- how far functions are handed to functions -/
def Kd.rk : Kd → Nat
  | .b _ => 0
  | .u => 0
  | .p x y => max x.rk y.rk
  | .f x y => max (x.rk + 1) y.rk
theorem Kd.fac_depth : ∀ (k : Kd) (W : List Fc), PyData.depthAll (Fc.dats (k.fac W)) ≤ 2 + max (PyData.depthAll (Fc.dats W)) (2 * k.rk)
  | .b n, W => by
    rw [Kd.fac, Fc.dats, Fc.dats, Fc.dat]
    simp only [PyData.depthAll, PyData.depth]
    omega
  | .u, W => by rw [Kd.fac, Fc.dats]; simp [PyData.depthAll]
  | .p x y, W => by
    have a := Kd.fac_depth x W
    have b := Kd.fac_depth y W
    rw [Kd.fac, Fc.depth_append, Kd.rk]
    omega
  | .f x y, W => by
    have a := Kd.fac_depth x []
    have b := Kd.fac_depth y (Fc.srt (W ++ Fc.srt (x.fac [])))
    rw [Fc.depth_srt, Fc.depth_append, Fc.depth_srt] at b
    rw [Fc.dats] at a
    simp only [PyData.depthAll] at a
    rw [Kd.fac, Kd.rk]
    omega
/-- a factor that wants V besides -/
def Fc.add (V : List Fc) : Fc → Fc
  | .mk ws n => .mk (Fc.srt (V ++ ws)) n
theorem Kd.fac_add : ∀ (k : Kd) (V W : List Fc), k.fac (Fc.srt (V ++ W)) = (k.fac W).map (Fc.add V)
  | .b n, V, W => by rw [Kd.fac, Kd.fac]; rfl
  | .u, V, W => by rw [Kd.fac, Kd.fac]; rfl
  | .p x y, V, W => by rw [Kd.fac, Kd.fac, List.map_append, Kd.fac_add x V W, Kd.fac_add y V W]
  | .f x y, V, W => by
    rw [Kd.fac, Kd.fac, Fc.srt_left, List.append_assoc, ← Kd.fac_add y V]
    rw [Fc.srt_right]
theorem Kd.fac_length : ∀ (k : Kd) (W : List Fc), (k.fac W).length ≤ k.leaves
  | .b n, W => by rw [Kd.fac]; simp [Kd.leaves]
  | .u, W => by rw [Kd.fac]; simp
  | .p x y, W => by have := Kd.fac_length x W; have := Kd.fac_length y W; rw [Kd.fac, List.length_append, Kd.leaves]; omega
  | .f x y, W => by have := Kd.fac_length y (Fc.srt (W ++ Fc.srt (x.fac []))); rw [Kd.fac, Kd.leaves]; omega
theorem Fc.srt_length (l : List Fc) : (Fc.srt l).length = l.length := (Fc.srt_perm l).length_eq
theorem Kd.form_length (k : Kd) : k.form.length ≤ k.leaves := by rw [Kd.form, Fc.srt_length]; exact k.fac_length []
theorem Kd.form_depth (k : Kd) : PyData.depthAll (Fc.dats k.form) ≤ 2 + 2 * k.rk := by
  have := k.fac_depth []
  rw [Kd.form, Fc.depth_srt]
  simp only [Fc.dats, PyData.depthAll] at this
  omega
/-- a walk over what is either of two sorts -/
theorem pi_or {X : Cx} {tg l : Expr} {w1 w2 : TI} (a : PI X tg l w1) (b : PI X tg l w2) : PI X tg l (fun σ H R => w1 σ H R ∨ w2 σ H R) :=
  ⟨fun pins s σ H R I h => h.elim (a.run pins s σ H R I) (b.run pins s σ H R I)⟩
theorem pi_seq {X : Cx} {tg l : Expr} {tl : TE} (h : PE X l tl) : PI X tg l (fun σ H R => iList X.K tl σ H R ∨ iTup X.K tl σ H R) := pi_or (pi_list h) (pi_tup h)
/-! ## the kind of factors -/
mutual
def Fc.kd : Fc → Kd
  | .mk ws n => Fc.kdw (.b n) ws
/-- what wants these gives the base -/
def Fc.kdw (b : Kd) : List Fc → Kd
  | [] => b
  | f :: r => .f (Fc.kdf (Fc.kd f) r) b
/-- a first kind, and those of the rest behind it -/
def Fc.kdf (k : Kd) : List Fc → Kd
  | [] => k
  | f :: r => .p k (Fc.kdf (Fc.kd f) r)
end
def Fc.kds : List Fc → Kd
  | [] => .u
  | f :: r => Fc.kdf f.kd r
end KB

namespace KB
open PySem L2
/-! ## forms by their parts; what keeps them -/
theorem Kd.form_p (x y : Kd) : (Kd.p x y).form = Fc.srt (x.form ++ y.form) := by
  rw [Kd.form, Kd.fac, Kd.form, Kd.form, Fc.srt_left, Fc.srt_right]
theorem Kd.fac_f (x y : Kd) : (Kd.f x y).fac [] = (y.fac []).map (Fc.add x.form) := by
  rw [Kd.fac, List.nil_append, Fc.srt_srt]
  have := Kd.fac_add y x.form []
  rw [List.append_nil, Kd.form, Fc.srt_srt] at this
  rw [Kd.form]; exact this
theorem Kd.form_f (x y : Kd) : (Kd.f x y).form = Fc.srt (y.form.map (Fc.add x.form)) := by
  rw [Kd.form, Kd.fac_f]
  exact Fc.srt_congr ((Fc.srt_perm (y.fac [])).map _).symm
theorem Kd.form_u : Kd.u.form = [] := by rw [Kd.form, Kd.fac]; rfl
theorem Kd.form_b (n : Nat) : (Kd.b n).form = [.mk [] n] := by rw [Kd.form, Kd.fac]; rfl
theorem Kd.cong_p {x x' y y' : Kd} (a : x.form = x'.form) (b : y.form = y'.form) : (Kd.p x y).form = (Kd.p x' y').form := by rw [Kd.form_p, Kd.form_p, a, b]
theorem Kd.cong_f {x x' y y' : Kd} (a : x.form = x'.form) (b : y.form = y'.form) : (Kd.f x y).form = (Kd.f x' y').form := by rw [Kd.form_f, Kd.form_f, a, b]
theorem Kd.form_srt (k : Kd) : Fc.srt k.form = k.form := Fc.srt_srt _
theorem Kd.q_unitR (x : Kd) : (Kd.p x .u).form = x.form := by rw [Kd.form_p, Kd.form_u, List.append_nil, Kd.form_srt]
theorem Kd.q_unitF (x : Kd) : (Kd.f .u x).form = x.form := by
  rw [Kd.form, Kd.fac, Kd.fac]
  rfl
theorem Kd.q_toU (x : Kd) : (Kd.f x .u).form = Kd.u.form := by rw [Kd.form, Kd.form, Kd.fac, Kd.fac, Kd.fac]
theorem Kd.q_comm (x y : Kd) : (Kd.p y x).form = (Kd.p x y).form := by rw [Kd.form_p, Kd.form_p]; exact Fc.srt_congr List.perm_append_comm
theorem Kd.q_assoc (x y z : Kd) : (Kd.p (.p x y) z).form = (Kd.p x (.p y z)).form := by
  rw [Kd.form, Kd.form, Kd.fac, Kd.fac, Kd.fac, Kd.fac, List.append_assoc]
theorem Kd.q_part (a x y : Kd) : (Kd.p (.f a x) (.f a y)).form = (Kd.f a (.p x y)).form := by
  rw [Kd.form, Kd.form, Kd.fac, Kd.fac, Kd.fac, Kd.fac, Kd.fac]
theorem Kd.q_curry (a b y : Kd) : (Kd.f (.p a b) y).form = (Kd.f a (.f b y)).form := by
  have h : Fc.srt ([] ++ Fc.srt ((Kd.p a b).fac [])) = Fc.srt (Fc.srt ([] ++ Fc.srt (a.fac [])) ++ Fc.srt (b.fac [])) := by
    rw [Kd.fac, List.nil_append, List.nil_append, Fc.srt_srt, Fc.srt_srt, Fc.srt_left, Fc.srt_right]
  show Fc.srt (y.fac (Fc.srt ([] ++ Fc.srt ((Kd.p a b).fac [])))) = Fc.srt (y.fac (Fc.srt (Fc.srt ([] ++ Fc.srt (a.fac [])) ++ Fc.srt (b.fac []))))
  rw [h]
theorem Kd.rk_lt : ∀ k : Kd, k.rk < k.leaves
  | .b _ => by simp [Kd.rk, Kd.leaves]
  | .u => by simp [Kd.rk, Kd.leaves]
  | .p x y => by have := Kd.rk_lt x; have := Kd.rk_lt y; simp only [Kd.rk, Kd.leaves]; omega
  | .f x y => by have := Kd.rk_lt x; have := Kd.rk_lt y; have := y.leaves_pos; simp only [Kd.rk, Kd.leaves]; omega
/-! ## the numbers in factors; bases -/
namespace Fc
mutual
def num : Fc → List Nat
  | mk ws n => n :: nums ws
def nums : List Fc → List Nat
  | [] => []
  | f :: r => num f ++ nums r
end
theorem mem_nums {n : Nat} : ∀ {l : List Fc}, n ∈ nums l ↔ ∃ f ∈ l, n ∈ num f
  | [] => by rw [nums]; simp
  | f :: r => by rw [nums, List.mem_append, mem_nums (l := r)]; simp
theorem nums_perm {n : Nat} {l m : List Fc} (p : l.Perm m) : n ∈ nums l ↔ n ∈ nums m := by
  rw [mem_nums, mem_nums]
  exact ⟨fun ⟨f, h, e⟩ => ⟨f, p.mem_iff.mp h, e⟩, fun ⟨f, h, e⟩ => ⟨f, p.mem_iff.mpr h, e⟩⟩
theorem nums_srt {n : Nat} (l : List Fc) : n ∈ nums (srt l) ↔ n ∈ nums l := nums_perm (srt_perm l)
theorem nums_app {n : Nat} (a b : List Fc) : n ∈ nums (a ++ b) ↔ n ∈ nums a ∨ n ∈ nums b := by
  rw [mem_nums, mem_nums, mem_nums]
  constructor
  · rintro ⟨f, h, e⟩
    rcases List.mem_append.mp h with h | h
    · exact .inl ⟨f, h, e⟩
    · exact .inr ⟨f, h, e⟩
  · rintro (⟨f, h, e⟩ | ⟨f, h, e⟩)
    · exact ⟨f, List.mem_append.mpr (.inl h), e⟩
    · exact ⟨f, List.mem_append.mpr (.inr h), e⟩
theorem num_add {n : Nat} (V : List Fc) : ∀ f : Fc, n ∈ num (add V f) ↔ n ∈ nums V ∨ n ∈ num f
  | mk ws m => by
    rw [add, num, num, List.mem_cons, List.mem_cons, nums_srt, nums_app]
    constructor
    · rintro (h | h | h)
      · exact .inr (.inl h)
      · exact .inl h
      · exact .inr (.inr h)
    · rintro (h | h | h)
      · exact .inr (.inl h)
      · exact .inl h
      · exact .inr (.inr h)
theorem nums_addL {n : Nat} (V : List Fc) (l : List Fc) : n ∈ nums (l.map (add V)) ↔ (l ≠ [] ∧ n ∈ nums V) ∨ n ∈ nums l := by
  rw [mem_nums (l := l.map (add V)), mem_nums (l := l)]
  constructor
  · rintro ⟨f, h, e⟩
    obtain ⟨g, hg, rfl⟩ := List.mem_map.mp h
    rcases (num_add V g).mp e with e | e
    · exact .inl ⟨fun z => (by rw [z] at hg; cases hg), e⟩
    · exact .inr ⟨g, hg, e⟩
  · rintro (⟨h, e⟩ | ⟨g, hg, e⟩)
    · cases l with
      | nil => exact absurd rfl h
      | cons g r => exact ⟨_, List.mem_map.mpr ⟨g, List.mem_cons_self, rfl⟩, (num_add V g).mpr (.inl e)⟩
    · exact ⟨_, List.mem_map.mpr ⟨g, hg, rfl⟩, (num_add V g).mpr (.inr e)⟩
end Fc
namespace Kd
def bases : Kd → List Nat
  | b n => [n]
  | u => []
  | p x y => x.bases ++ y.bases
  | f x y => x.bases ++ y.bases
theorem bases_ok : ∀ {k : Kd}, k.ok → ∀ n ∈ k.bases, n < 8
  | b m, h, n, e => by rw [bases, List.mem_singleton] at e; rw [e]; exact h
  | u, _, n, e => by rw [bases] at e; cases e
  | p x y, h, n, e => by rw [bases] at e; exact (List.mem_append.mp e).elim (bases_ok h.1 n) (bases_ok h.2 n)
  | f x y, h, n, e => by rw [bases] at e; exact (List.mem_append.mp e).elim (bases_ok h.1 n) (bases_ok h.2 n)
theorem bases_length : ∀ k : Kd, k.bases.length ≤ k.leaves
  | b _ => Nat.le_refl _
  | u => by simp [bases]
  | p x y => by have := bases_length x; have := bases_length y; simp only [bases, List.length_append, leaves]; omega
  | f x y => by have := bases_length x; have := bases_length y; simp only [bases, List.length_append, leaves]; omega
/-- one base exchanged, by its place -/
def chg (c : Nat) : Kd → Int → Kd
  | b n, i => if i = 0 then b c else b n
  | u, _ => u
  | p x y, i => p (x.chg c i) (y.chg c (i - x.bases.length))
  | f x y, i => f (x.chg c i) (y.chg c (i - x.bases.length))
theorem chg_ok {c : Nat} (hc : c < 8) : ∀ {k : Kd} (i : Int), k.ok → (k.chg c i).ok
  | b n, i, h => by rw [chg]; split; exact hc; exact h
  | u, _, h => h
  | p x y, i, h => ⟨chg_ok hc _ h.1, chg_ok hc _ h.2⟩
  | f x y, i, h => ⟨chg_ok hc _ h.1, chg_ok hc _ h.2⟩
theorem chg_leaves {c : Nat} : ∀ (k : Kd) (i : Int), (k.chg c i).leaves = k.leaves
  | b n, i => by rw [chg]; split <;> rfl
  | u, _ => rfl
  | p x y, i => by rw [chg, leaves, leaves, chg_leaves x, chg_leaves y]
  | f x y, i => by rw [chg, leaves, leaves, chg_leaves x, chg_leaves y]
/-- where the base exchanged is not in the form, this is as it was -/
theorem chg_form {c : Nat} : ∀ (k : Kd) (i : Int), c ∉ Fc.nums (k.chg c i).form → (k.chg c i).form = k.form
  | b n, i, h => by
    rw [chg] at h ⊢
    split at h
    · rw [form_b] at h; exact absurd (by simp [Fc.nums, Fc.num]) h
    · rename_i z; rw [if_neg z]
  | u, _, _ => rfl
  | p x y, i, h => by
    rw [chg] at h ⊢
    rw [form_p, Fc.nums_srt, Fc.nums_app] at h
    exact cong_p (chg_form x _ fun z => h (.inl z)) (chg_form y _ fun z => h (.inr z))
  | f x y, i, h => by
    rw [chg] at h ⊢
    rw [form_f, Fc.nums_srt, Fc.nums_addL] at h
    have hy := chg_form y (i - x.bases.length) fun z => h (.inr z)
    by_cases e : (y.chg c (i - x.bases.length)).form = []
    · rw [form_f, form_f, ← hy, e]; rfl
    · exact cong_f (chg_form x _ fun z => h (.inl ⟨e, z⟩)) hy
theorem nums_form {n : Nat} : ∀ {k : Kd}, n ∈ Fc.nums k.form → n ∈ k.bases
  | b m, h => by rw [form_b] at h; simpa [Fc.nums, Fc.num, bases] using h
  | u, h => by rw [form_u] at h; cases h
  | p x y, h => by
    rw [form_p, Fc.nums_srt, Fc.nums_app] at h
    rw [bases, List.mem_append]
    exact h.imp nums_form nums_form
  | f x y, h => by
    rw [form_f, Fc.nums_srt, Fc.nums_addL] at h
    rw [bases, List.mem_append]
    exact h.imp (fun z => nums_form z.2) nums_form
end Kd
mutual
theorem Fc.bases_kd (n : Nat) : ∀ f : Fc, n ∈ f.kd.bases ↔ n ∈ Fc.num f
  | .mk ws m => by
    rw [Fc.kd, Fc.num, Fc.bases_kdw n (.b m) ws, Kd.bases]
    simp only [List.mem_cons, List.not_mem_nil, or_false]
    exact or_comm
theorem Fc.bases_kdw (n : Nat) (b : Kd) : ∀ l : List Fc, n ∈ (Fc.kdw b l).bases ↔ n ∈ Fc.nums l ∨ n ∈ b.bases
  | [] => by rw [Fc.kdw, Fc.nums]; simp
  | f :: r => by rw [Fc.kdw, Kd.bases, List.mem_append, Fc.bases_kdf n f.kd r, Fc.nums, List.mem_append, Fc.bases_kd n f]
theorem Fc.bases_kdf (n : Nat) (k : Kd) : ∀ l : List Fc, n ∈ (Fc.kdf k l).bases ↔ n ∈ k.bases ∨ n ∈ Fc.nums l
  | [] => by rw [Fc.kdf, Fc.nums]; simp
  | f :: r => by rw [Fc.kdf, Kd.bases, List.mem_append, Fc.bases_kdf n f.kd r, Fc.nums, List.mem_append, Fc.bases_kd n f]
end
theorem Fc.bases_kds (n : Nat) : ∀ l : List Fc, n ∈ (Fc.kds l).bases ↔ n ∈ Fc.nums l
  | [] => by rw [Fc.kds, Fc.nums]; simp [Kd.bases]
  | f :: r => by rw [Fc.kds, Fc.bases_kdf, Fc.nums, List.mem_append, Fc.bases_kd n f]
/-- what the law of the base exchanged asks -/
theorem Kd.chg_law {k : Kd} {c : Nat} (hc : c ∉ k.bases) (i : Int) : (Fc.cmps k.form (k.chg c i).form == .eq) = !decide (c ∈ (Fc.kds (k.chg c i).form).bases) := by
  by_cases h : c ∈ (Fc.kds (k.chg c i).form).bases
  · rw [decide_eq_true h]
    rw [Fc.bases_kds] at h
    have : k.form ≠ (k.chg c i).form := fun e => hc (Kd.nums_form (by rw [e]; exact h))
    have : Fc.cmps k.form (k.chg c i).form ≠ .eq := fun z => this ((Fc.cmps_eq _ _).mp z)
    simpa using this
  · rw [decide_eq_false h]
    rw [Fc.bases_kds] at h
    rw [Kd.chg_form k i h, (Fc.cmps_eq _ _).mpr rfl]
    rfl
end KB

namespace KB
open PySem PySem.Spec PyProof.Rows L2
/-! ## sorted of a tuple of factors -/
section
variable {P : Program} {W : World} {A : Around} {X : Value → Shared → Prop} {s : Shared}
/-- the heap behind the gathering of the items -/
abbrev gath (h : Heap) (its : List Value) : Heap := (h.push (seqObj "list" #[] 0)).update h.objs.size (Obj.mapSeq (· ++ its.toArray))
theorem gather_tup {t : Addr} {its : List Value} {R : List Value → Shared → Prop} (ht : IsTup s.heap t its.toArray) (hn : its.length ≤ sizeLine) (q : R its { s with heap := gath s.heap its }) : wpAny (model P W) A (collect (.ref t)) R X s := by
  obtain ⟨ob, get, cl, m, dat⟩ := id ht
  have get2 : (s.heap.push (seqObj "list" #[] 0)).get? t = some ob := Heap.get?_push_of_some _ get
  have new : (s.heap.push (seqObj "list" #[] 0)).get? s.heap.objs.size = some (seqObj "list" #[] 0) := Heap.get?_push_size _ rfl
  unfold collect
  refine wpAny_bind (wpAny_runValue (codeAny_builtin entry_proto_collect' (?_ : wpAny _ _ (do again (.builtin "list.__iadd__" ⟨[← newList [], .ref t], []⟩)) _ _ s)))
  refine wpAny_bind (wpAny_newList (wpAny_pure ⟨Code.quiet_builtin _ (by decide +kernel), codeAny_builtin entry_list_iadd' (?_ : wpAny _ _ (Builtin.List.listExtendWith (.ref s.heap.objs.size) (.ref t) (.ref s.heap.objs.size)) _ _ { s with heap := s.heap.push (seqObj "list" #[] 0) })⟩))
  unfold Builtin.List.listExtendWith
  refine wpAny_bind (wpAny_typeOf (T := "tuple") ⟨ob, get2, cl⟩ (?_ : wpAny _ _ _ _ _ _))
  have yes : (Value.type "tuple" == Value.type "tuple") = true := by decide
  rw [if_pos (by rw [yes]; simp)]
  refine wpAny_bind (listItems_at get2 dat (wpAny_bind (listItems_at new rfl ?_)))
  rw [if_neg (by simp)]
  have fits : (#[] ++ its.toArray).size ≤ sizeLine + 1 := by simp only [Array.size_append, List.size_toArray, List.length_nil]; omega
  refine wpAny_bind (listUpdate_at new rfl (wpAny_pure ?_) (Nat.zero_le _) fits)
  have back : (#[] ++ its.toArray).toList = its := by simp
  refine wpAny_bind (wpAny_load (get?_update_seq new _) (?_ : wpAny _ _ (pure ((#[] : Array Value) ++ its.toArray).toList) R X _))
  rw [back]
  exact wpAny_pure q
theorem sorted_tup {t : Addr} {its : List Value} {lt : Value → Value → Bool} {R : Value → Shared → Prop} (O : SrtO.Swo lt) (ht : IsTup s.heap t its.toArray) (hn : its.length ≤ sizeLine)
    (S : 2 ≤ its.length → ∀ (g : Heap) (a : Addr), g.get? a = some (seqObj "list" its.toArray 0) → (∀ b o, s.heap.get? b = some o → b ≠ a ∧ g.get? b = some o) → SrtO.SortableO P W A.in1.in1 { s with heap := g } a its lt)
    (q : ∀ res : List Value, SrtO.Srtd lt res → SrtO.Stb lt res its → R (.ref (s.heap.objs.size + 1)) { s with heap := sortedAll s.heap its res.toArray }) :
    wpAny (model P W) A (call (.builtin "sorted") [.ref t]) R X s := by
  have size2 : (gath s.heap its).objs.size = s.heap.objs.size + 1 := by rw [Heap.size_update, size_push']
  have at2 : ((gath s.heap its).push (seqObj "list" its.toArray 0)).get? (s.heap.objs.size + 1) = some (seqObj "list" its.toArray 0) := by rw [← size2]; exact Heap.get?_push_size _ rfl
  have old : ∀ b o, s.heap.get? b = some o → b ≠ s.heap.objs.size + 1 ∧ ((gath s.heap its).push (seqObj "list" its.toArray 0)).get? b = some o := fun b o e => by
    have below : b < s.heap.objs.size := Heap.lt_size e
    refine ⟨Nat.ne_of_lt (Nat.lt_succ_of_lt below), Heap.get?_push_of_some _ ?_⟩
    rw [Heap.get?_update_ne _ _ _ _ (Nat.ne_of_lt below)]; exact Heap.get?_push_of_some _ e
  refine Calls.call_function_entry kind_sorted plain_sorted entry_sorted (args_sorted1 _) (?_ : wpAny _ _ _ _ _ _)
  unfold Builtin.«sorted»
  refine wpAny_bind (m := checkCount "sorted" 1 1 _) (wpAny_pure (wpAny_bind (gather_tup ht hn (wpAny_bind (wpAny_newList ?_ hn)))))
  show wpAny _ _ _ _ _ { s with heap := (gath s.heap its).push (seqObj "list" its.toArray 0) }
  rw [size2]
  refine wpAny_bind (wpAny_holding (wpAny_call_entry slot_list_sort ⟨_, at2, rfl⟩ entry_list_sort (SrtO.list_sort_ord O at2 hn (fun two => S two _ _ at2 old) fun res a b => ⟨_, rfl, (?_ : wpAny _ _ _ _ _ _)⟩) (args_list_sort _)))
  exact wpAny_pure ⟨_, rfl, q res a b⟩
theorem Fc.sorted_fcT {l : Addr} {vs : List Value} {k : Value → Fc} {Q : Value → Shared → Prop} (hl : IsTup s.heap l vs.toArray) (hz : vs.length ≤ sizeLine)
    (hp : ∀ v ∈ vs, ∃ as, Reads s.heap v (dat (k v)) as ∧ A.units + ((dat (k v)).depth + 4) < cLine)
    (h : ∀ (h' : Heap) (d : Addr) (out : List Value), SrtO.Srtd (fun v u => Fc.lt (k v) (k u)) out → out.Perm vs → (∀ (b : Addr) (o : Obj), s.heap.get? b = some o → h'.get? b = some o) → s.heap.objs.size ≤ d → (∃ n, h'.get? d = some (seqObj "list" out.toArray n)) →
      Q (.ref d) { heap := h', gens := s.gens, drawn := s.drawn, toks := s.toks, os := s.os }) :
    wpAny (model P W) A (call (.builtin "sorted") [.ref l]) Q X s := by
  refine sorted_tup (lt := fun v u => Fc.lt (k v) (k u)) ⟨fun x y => swo.asym _ _, fun x y z => swo.tr _ _ _⟩ hl hz (fun h2 h₁ a ha kk => ?_) fun out hs hb => ?_
  · refine sortable (s := { heap := h₁, gens := s.gens, drawn := s.drawn, toks := s.toks, os := s.os }) (by omega) (fun v hv => ?_) fun o e => ?_
    · obtain ⟨as, r, u⟩ := hp v hv
      exact ⟨as, keeps (fun b o _ e => (kk b o e).2) _ r, by show A.units + 1 + 1 + _ < cLine; omega⟩
    · have e2 := ha.symm.trans e
      cases e2
      intro z
      exact absurd (Value.type.inj z) (by decide)
  · obtain ⟨n, e⟩ := sortedAll_at s.heap vs out.toArray
    exact h _ _ out hs hb.perm (fun b o e => sortedAll_old e) (Nat.le_succ _) ⟨n, e⟩
end
def rSortG (K : PySem.W.Frag) : List V → Hp → VK → Prop := fun vs H Q => ∃ a xs fs, vs = [.ref a] ∧ (SqL K H a xs ∨ SqT K H a xs) ∧ DqAll K H xs (Fc.dats fs) ∧ PyData.depthAll (Fc.dats fs) ≤ 180 ∧
  ∀ ys p, DqAll K H ys (Fc.dats (Fc.srt fs)) → H p = none → Q (.ref p) (upd H p (.lst ys))
theorem call_sortG {X : Cx} (hu : X.A.units + 200 < cLine) : CallR X (.builtin "sorted") (rSortG X.K) := by
  rintro pins s σ H vs us Q I r ⟨a, xs, fs, rfl, hs, hd, hdep, q⟩
  rcases hs with hs | hs
  · exact call_sortF hu pins s σ H _ us Q I r ⟨a, xs, fs, rfl, hs, hd, hdep, q⟩
  obtain ⟨its, rv, hl, hz⟩ := I.tuple hs
  cases r with
  | cons r1 r2 =>
    cases r2
    cases r1
    obtain ⟨as, ra, _⟩ := DqAll.reads I hd rv
    obtain ⟨e1, e2⟩ := L2.refs_back rv (Fc.dq_refs hd)
    have hk := Fc.map_k ra
    obtain ⟨hlen, hat⟩ := Fc.reads_at ra
    have hd' : DqAll X.K H (its.map L2.backV) (Fc.dats (its.map (Fc.kOf s.heap))) := by rw [← e1, hk]; exact hd
    have each := Fc.dq_each _ _ hd'
    refine Fc.sorted_fcT (k := Fc.kOf s.heap) hl (by rw [← rv.length]; exact hz) (fun v hv => ?_) fun h' d out ho hp kp hsz hn => ?_
    · obtain ⟨j, hj, rfl⟩ := List.getElem_of_mem hv
      obtain ⟨f, bs, ef, rf⟩ := hat j hj
      rw [Fc.kOf_eq rf]
      have := Fc.depth_mem ef
      exact ⟨bs, rf, by omega⟩
    · obtain ⟨n, hn⟩ := hn
      have h3 : ∀ u ∈ out, ∃ a, u = Value.ref a := fun u hu => e2 u (hp.mem_iff.mp hu)
      have es : out.map (Fc.kOf s.heap) = Fc.srt fs := by
        refine Fc.ord_one _ _ (List.pairwise_map.mpr ho) (Fc.srt_ord _) ?_
        have p1 := hp.map (Fc.kOf s.heap)
        rw [hk] at p1
        exact p1.trans (Fc.srt_perm fs).symm
      refine ⟨.ref d, upd H d (.lst (out.map L2.backV)), I.laid kp hsz ⟨?_, out, n, L2.vals_back h3, hn⟩, rfl, q _ d ?_ (HOk.fresh I.hok hsz)⟩
      · rw [List.length_map, hp.length_eq, ← rv.length]; exact hz
      · rw [← es]
        exact Fc.dq_all _ _ fun v hv => each v (hp.mem_iff.mp hv)
/-! ## rows of a form: it, and what each factor wants, and so on -/
def Fc.ws : Fc → List Fc
  | .mk ws _ => ws
def Fc.n : Fc → Nat
  | .mk _ n => n
mutual
def Fc.rowsF : Fc → List (List Fc)
  | .mk ws _ => ws :: Fc.rowsW ws
def Fc.rowsW : List Fc → List (List Fc)
  | [] => []
  | f :: r => Fc.rowsF f ++ Fc.rowsW r
end
def Fc.rows (l : List Fc) : List (List Fc) := l :: Fc.rowsW l
theorem Fc.rowsW_map (l : List Fc) : Fc.rowsW l = (l.map fun f => Fc.rows f.ws).flatten := by
  induction l with
  | nil => rfl
  | cons f r ih => obtain ⟨ws, n⟩ := f; rw [Fc.rowsW, ih, Fc.rowsF]; rfl
def Fc.her (l : List Fc) : Bool := (Fc.rows l).all fun r => Fc.cmps r (Fc.srt r) == .eq
mutual
/-- each row in order, each number that of a base -/
def Fc.good : Fc → Prop
  | .mk ws n => n < 8 ∧ Fc.Ord ws ∧ Fc.goods ws
def Fc.goods : List Fc → Prop
  | [] => True
  | f :: r => Fc.good f ∧ Fc.goods r
end
theorem Fc.goods_iff : ∀ {l : List Fc}, Fc.goods l ↔ ∀ f ∈ l, Fc.good f
  | [] => by rw [Fc.goods]; simp
  | f :: r => by rw [Fc.goods, Fc.goods_iff (l := r)]; simp
theorem Fc.goods_srt (l : List Fc) : Fc.goods (Fc.srt l) ↔ Fc.goods l := by
  rw [Fc.goods_iff, Fc.goods_iff]
  exact ⟨fun h f hf => h f ((Fc.srt_perm l).mem_iff.mpr hf), fun h f hf => h f ((Fc.srt_perm l).mem_iff.mp hf)⟩
theorem Fc.goods_app (a b : List Fc) : Fc.goods (a ++ b) ↔ Fc.goods a ∧ Fc.goods b := by
  rw [Fc.goods_iff, Fc.goods_iff, Fc.goods_iff]
  exact ⟨fun h => ⟨fun f hf => h f (List.mem_append.mpr (.inl hf)), fun f hf => h f (List.mem_append.mpr (.inr hf))⟩, fun h f hf => (List.mem_append.mp hf).elim (h.1 f) (h.2 f)⟩
theorem Kd.fac_good : ∀ {k : Kd} {W : List Fc}, k.ok → Fc.Ord W → Fc.goods W → Fc.goods (k.fac W)
  | .b n, W, h, o, g => by rw [Kd.fac, Fc.goods, Fc.goods, Fc.good]; exact ⟨⟨h, o, g⟩, trivial⟩
  | .u, W, h, o, g => by rw [Kd.fac, Fc.goods]; trivial
  | .p x y, W, h, o, g => by rw [Kd.fac, Fc.goods_app]; exact ⟨Kd.fac_good h.1 o g, Kd.fac_good h.2 o g⟩
  | .f x y, W, h, o, g => by
    rw [Kd.fac]
    refine Kd.fac_good h.2 (Fc.srt_ord _) ?_
    rw [Fc.goods_srt, Fc.goods_app, Fc.goods_srt]
    exact ⟨g, Kd.fac_good h.1 .nil (by rw [Fc.goods]; trivial)⟩
theorem Kd.form_good {k : Kd} (h : k.ok) : Fc.goods k.form := by
  rw [Kd.form, Fc.goods_srt]
  exact Kd.fac_good h .nil (by rw [Fc.goods]; trivial)
mutual
theorem Fc.her_rowsF : ∀ {f : Fc}, Fc.good f → ∀ r ∈ Fc.rowsF f, Fc.Ord r
  | .mk ws n, g, r, h => by
    rw [Fc.good] at g
    rw [Fc.rowsF] at h
    rcases List.mem_cons.mp h with h | h
    · rw [h]; exact g.2.1
    · exact Fc.her_rowsW g.2.2 r h
theorem Fc.her_rowsW : ∀ {l : List Fc}, Fc.goods l → ∀ r ∈ Fc.rowsW l, Fc.Ord r
  | [], g, r, h => by rw [Fc.rowsW] at h; cases h
  | f :: t, g, r, h => by
    rw [Fc.goods] at g
    rw [Fc.rowsW] at h
    exact (List.mem_append.mp h).elim (Fc.her_rowsF g.1 r) (Fc.her_rowsW g.2 r)
end
theorem Kd.form_her {k : Kd} (h : k.ok) : Fc.her k.form = true := by
  refine List.all_eq_true.mpr fun r hr => ?_
  have o : Fc.Ord r := by
    rcases List.mem_cons.mp hr with e | e
    · rw [e]; exact Fc.srt_ord _
    · exact Fc.her_rowsW (Kd.form_good h) r e
  rw [Fc.srt_of o, (Fc.cmps_eq _ _).mpr rfl]; rfl
mutual
theorem Fc.good_num : ∀ {f : Fc}, Fc.good f → ∀ n ∈ Fc.num f, n < 8
  | .mk ws m, g, n, h => by
    rw [Fc.good] at g
    rw [Fc.num] at h
    rcases List.mem_cons.mp h with e | e
    · rw [e]; exact g.1
    · exact Fc.goods_num g.2.2 n e
theorem Fc.goods_num : ∀ {l : List Fc}, Fc.goods l → ∀ n ∈ Fc.nums l, n < 8
  | [], g, n, h => by rw [Fc.nums] at h; cases h
  | f :: r, g, n, h => by
    rw [Fc.goods] at g
    rw [Fc.nums] at h
    exact (List.mem_append.mp h).elim (Fc.good_num g.1 n) (Fc.goods_num g.2 n)
end
/-! ## how much there is of a form -/
mutual
def Fc.cnt : Fc → Nat
  | .mk ws _ => 1 + Fc.cnts ws
def Fc.cnts : List Fc → Nat
  | [] => 0
  | f :: r => Fc.cnt f + Fc.cnts r
end
theorem Fc.cnts_app (a b : List Fc) : Fc.cnts (a ++ b) = Fc.cnts a + Fc.cnts b := by
  induction a with
  | nil => rw [List.nil_append, Fc.cnts, Nat.zero_add]
  | cons f r ih => rw [List.cons_append, Fc.cnts, Fc.cnts, ih, Nat.add_assoc]
theorem Fc.cnts_perm {l m : List Fc} (p : l.Perm m) : Fc.cnts l = Fc.cnts m := by
  induction p with
  | nil => rfl
  | cons x _ ih => rw [Fc.cnts, Fc.cnts, ih]
  | swap x y l => simp only [Fc.cnts]; omega
  | trans _ _ a b => exact a.trans b
theorem Fc.cnts_add (V : List Fc) : ∀ l : List Fc, Fc.cnts (l.map (Fc.add V)) = Fc.cnts l + l.length * Fc.cnts V
  | [] => by rw [List.map_nil, Fc.cnts]; simp
  | .mk ws n :: r => by
    rw [List.map_cons, Fc.cnts, Fc.cnts_add V r, Fc.cnts, Fc.add, Fc.cnt, Fc.cnt, Fc.cnts_perm (Fc.srt_perm _), Fc.cnts_app, List.length_cons, Nat.succ_mul]
    omega
theorem Kd.cnts_form : ∀ k : Kd, Fc.cnts k.form + 1 ≤ 2 ^ k.leaves
  | .b n => by rw [Kd.form_b]; simp [Fc.cnts, Fc.cnt, Kd.leaves]
  | .u => by rw [Kd.form_u]; simp [Fc.cnts, Kd.leaves]
  | .p x y => by
    have a := Kd.cnts_form x
    have b := Kd.cnts_form y
    rw [Kd.form_p, Fc.cnts_perm (Fc.srt_perm _), Fc.cnts_app, Kd.leaves, Nat.pow_add]
    have c : 2 ^ x.leaves * 2 ^ y.leaves ≥ 2 ^ x.leaves * 1 + 1 * 2 ^ y.leaves - 1 := by
      have p1 : 1 ≤ 2 ^ x.leaves := Nat.one_le_two_pow
      have p2 : 1 ≤ 2 ^ y.leaves := Nat.one_le_two_pow
      obtain ⟨i, hi⟩ : ∃ i, 2 ^ x.leaves = i + 1 := ⟨_, (Nat.sub_add_cancel p1).symm⟩
      obtain ⟨j, hj⟩ : ∃ j, 2 ^ y.leaves = j + 1 := ⟨_, (Nat.sub_add_cancel p2).symm⟩
      rw [hi, hj, Nat.add_mul, Nat.mul_add]
      omega
    omega
  | .f x y => by
    have a := Kd.cnts_form x
    have b := Kd.cnts_form y
    have l := y.form_length
    have lt : y.leaves < 2 ^ y.leaves := Nat.lt_two_pow_self
    rw [Kd.form_f, Fc.cnts_perm (Fc.srt_perm _), Fc.cnts_add, Kd.leaves, Nat.pow_add]
    obtain ⟨i, hi⟩ : ∃ i, 2 ^ x.leaves = i + 1 := ⟨_, (Nat.sub_add_cancel Nat.one_le_two_pow).symm⟩
    obtain ⟨j, hj⟩ : ∃ j, 2 ^ y.leaves = j + 1 := ⟨_, (Nat.sub_add_cancel Nat.one_le_two_pow).symm⟩
    rw [hi] at a
    rw [hj] at b lt
    rw [hi, hj, Nat.add_mul, Nat.mul_add]
    have m : y.form.length * Fc.cnts x.form ≤ j * i := Nat.mul_le_mul (by omega) (by omega)
    have e := Nat.mul_comm i j
    omega
mutual
theorem Fc.sz_cnt : ∀ f : Fc, sz (Fc.dat f) = 3 * Fc.cnt f
  | .mk ws n => by rw [Fc.dat, Fc.cnt]; simp only [sz, szs]; rw [Fc.szs_cnt ws]; omega
theorem Fc.szs_cnt : ∀ l : List Fc, szs (Fc.dats l) = 3 * Fc.cnts l
  | [] => by rw [Fc.dats, Fc.cnts]; rfl
  | f :: r => by rw [Fc.dats, Fc.cnts]; simp only [szs]; rw [Fc.sz_cnt f, Fc.szs_cnt r]; omega
end
theorem Kd.form_szs (k : Kd) (h : k.leaves ≤ 16) : szs (Fc.dats k.form) ≤ 200000 := by
  have a := Kd.cnts_form k
  have b : 2 ^ k.leaves ≤ 2 ^ 16 := Nat.pow_le_pow_right (by decide) h
  rw [Fc.szs_cnt]
  have : (2 : Nat) ^ 16 = 65536 := by decide
  omega
end KB

namespace KB
open PySem PySem.Spec PyProof.Rows L2
/-- what follows is asked by a name of one's own -/
theorem pss_gen {X : Cx} {S : List Stmt} {t I : TS} (h : PSs X S t) (w : ∀ (D : Ends) (σ : L2.St) (H : Hp), I D σ H → t D σ H) : PSs X S I :=
  ⟨fun pins s σ H D J i => h.run pins s σ H D J (w D σ H i)⟩
/-- both ways of a test lead to the same -/
theorem ite2' {p : Prop} [Decidable p] {A B : Prop} (a : A) (b : ¬ p → B) : if p then A else B := by
  split
  · exact a
  · rename_i h; exact b h
end KB

namespace KB
open PySem L2
/-! ## how wide and deep the kind of a form is -/
theorem Kd.chg_rk {c : Nat} : ∀ (k : Kd) (i : Int), (k.chg c i).rk = k.rk
  | .b n, i => by rw [Kd.chg]; split <;> rfl
  | .u, _ => rfl
  | .p x y, i => by rw [Kd.chg, Kd.rk, Kd.rk, Kd.chg_rk x, Kd.chg_rk y]
  | .f x y, i => by rw [Kd.chg, Kd.rk, Kd.rk, Kd.chg_rk x, Kd.chg_rk y]
mutual
def Fc.wid : Fc → Nat
  | .mk ws _ => max ws.length (Fc.wids ws)
def Fc.wids : List Fc → Nat
  | [] => 0
  | f :: r => max (Fc.wid f) (Fc.wids r)
end
theorem Fc.wids_le {B : Nat} : ∀ {l : List Fc}, Fc.wids l ≤ B ↔ ∀ f ∈ l, Fc.wid f ≤ B
  | [] => by rw [Fc.wids]; simp
  | f :: r => by
    rw [Fc.wids, Nat.max_le, Fc.wids_le (l := r)]
    simp
theorem Fc.wids_app {B : Nat} (a b : List Fc) : Fc.wids (a ++ b) ≤ B ↔ Fc.wids a ≤ B ∧ Fc.wids b ≤ B := by
  rw [Fc.wids_le, Fc.wids_le, Fc.wids_le]
  exact ⟨fun h => ⟨fun f hf => h f (List.mem_append.mpr (.inl hf)), fun f hf => h f (List.mem_append.mpr (.inr hf))⟩, fun h f hf => (List.mem_append.mp hf).elim (h.1 f) (h.2 f)⟩
theorem Fc.wids_srt {B : Nat} (l : List Fc) : Fc.wids (Fc.srt l) ≤ B ↔ Fc.wids l ≤ B := by
  rw [Fc.wids_le, Fc.wids_le]
  exact ⟨fun h f hf => h f ((Fc.srt_perm l).mem_iff.mpr hf), fun h f hf => h f ((Fc.srt_perm l).mem_iff.mp hf)⟩
theorem Kd.fac_wid {B : Nat} : ∀ (k : Kd) {W : List Fc}, Fc.wids W ≤ B → W.length + k.leaves ≤ B → Fc.wids (k.fac W) ≤ B
  | .b n, W, h, l => by
    rw [Kd.fac, Fc.wids, Fc.wids, Fc.wid]
    simp only [Kd.leaves] at l
    omega
  | .u, W, h, l => by rw [Kd.fac, Fc.wids]; exact Nat.zero_le _
  | .p x y, W, h, l => by
    simp only [Kd.leaves] at l
    rw [Kd.fac, Fc.wids_app]
    exact ⟨Kd.fac_wid x h (by omega), Kd.fac_wid y h (by omega)⟩
  | .f x y, W, h, l => by
    simp only [Kd.leaves] at l
    have lx := x.fac_length []
    rw [Kd.fac]
    refine Kd.fac_wid y ?_ ?_
    · rw [Fc.wids_srt, Fc.wids_app, Fc.wids_srt]
      exact ⟨h, Kd.fac_wid x (by rw [Fc.wids]; exact Nat.zero_le _) (by simp only [List.length_nil]; omega)⟩
    · rw [Fc.srt_length, List.length_append, Fc.srt_length]; omega
theorem Kd.form_wid (k : Kd) : Fc.wids k.form ≤ k.leaves := by
  rw [Kd.form, Fc.wids_srt]
  exact Kd.fac_wid k (by rw [Fc.wids]; exact Nat.zero_le _) (by simp)
theorem Fc.kdf_deep {B : Nat} : ∀ (r : List Fc) (k : Kd), k.deep ≤ B → (∀ g ∈ r, g.kd.deep ≤ B) → (Fc.kdf k r).deep ≤ B + r.length
  | [], k, h, _ => by rw [Fc.kdf]; exact h
  | f :: r, k, h, hr => by
    have := Fc.kdf_deep r f.kd (hr f List.mem_cons_self) fun g hg => hr g (List.mem_cons_of_mem _ hg)
    rw [Fc.kdf, Kd.deep, List.length_cons]
    omega
theorem Fc.kds_deep (M : Nat) : ∀ (j : Nat) (l : List Fc), l.length ≤ M → Fc.wids l ≤ M → PyData.depthAll (Fc.dats l) ≤ 2 * j → (Fc.kds l).deep ≤ (M + 1) * j + 1
  | 0, l, _, _, hd => by
    cases l with
    | nil => rw [Fc.kds]; simp [Kd.deep]
    | cons f r =>
      obtain ⟨ws, n⟩ := f
      rw [Fc.dats, Fc.dat] at hd
      simp only [PyData.depthAll, PyData.depth] at hd
      omega
  | j + 1, l, hl, hw, hd => by
    cases l with
    | nil => rw [Fc.kds]; simp [Kd.deep]
    | cons f r =>
      have each : ∀ g ∈ f :: r, g.kd.deep ≤ (M + 1) * j + 2 := by
        intro g hg
        have dg := Fc.depth_of hg
        have wg := Fc.wids_le.mp hw g hg
        obtain ⟨ws, n⟩ := g
        rw [Fc.dat] at dg
        simp only [PyData.depthAll, PyData.depth] at dg
        rw [Fc.wid] at wg
        cases ws with
        | nil => rw [Fc.kd, Fc.kdw]; simp only [Kd.deep]; omega
        | cons g0 r0 =>
          have ih := Fc.kds_deep M j (g0 :: r0) (by omega) (by omega) (by omega)
          have e : (Fc.mk (g0 :: r0) n).kd = .f (Fc.kds (g0 :: r0)) (.b n) := by rw [Fc.kd, Fc.kdw, Fc.kds]
          rw [e]
          simp only [Kd.deep]
          omega
      have := Fc.kdf_deep r f.kd (each f List.mem_cons_self) fun g hg => each g (List.mem_cons_of_mem _ hg)
      rw [Fc.kds]
      rw [List.length_cons] at hl
      have e : (M + 1) * (j + 1) = (M + 1) * j + (M + 1) := Nat.mul_succ _ _
      omega
mutual
theorem Fc.kd_leaves : ∀ f : Fc, f.kd.leaves ≤ Fc.cnt f
  | .mk [] n => by rw [Fc.kd, Fc.kdw, Fc.cnt, Fc.cnts]; simp [Kd.leaves]
  | .mk (g :: r) n => by
    have a := Fc.kd_leaves g
    have b := Fc.kdf_leaves g.kd r
    rw [Fc.kd, Fc.kdw, Fc.cnt, Fc.cnts]
    simp only [Kd.leaves]
    omega
theorem Fc.kdf_leaves (k : Kd) : ∀ l : List Fc, (Fc.kdf k l).leaves ≤ k.leaves + Fc.cnts l
  | [] => by rw [Fc.kdf, Fc.cnts]; exact Nat.le_refl _
  | f :: r => by
    have a := Fc.kd_leaves f
    have b := Fc.kdf_leaves f.kd r
    rw [Fc.kdf, Kd.leaves, Fc.cnts]
    omega
end
theorem Fc.kds_leaves : ∀ l : List Fc, (Fc.kds l).leaves ≤ 1 + Fc.cnts l
  | [] => by rw [Fc.kds, Fc.cnts]; exact Nat.le_refl _
  | f :: r => by
    have a := Fc.kd_leaves f
    have b := Fc.kdf_leaves f.kd r
    rw [Fc.kds, Fc.cnts]
    omega
mutual
theorem Fc.kd_ok : ∀ {f : Fc}, Fc.good f → f.kd.ok
  | .mk [] n, h => by rw [Fc.good] at h; rw [Fc.kd, Fc.kdw]; exact h.1
  | .mk (g :: r) n, h => by
    rw [Fc.good, Fc.goods] at h
    rw [Fc.kd, Fc.kdw]
    exact ⟨Fc.kdf_ok (Fc.kd_ok h.2.2.1) h.2.2.2, h.1⟩
theorem Fc.kdf_ok {k : Kd} (hk : k.ok) : ∀ {l : List Fc}, Fc.goods l → (Fc.kdf k l).ok
  | [], _ => by rw [Fc.kdf]; exact hk
  | f :: r, h => by
    rw [Fc.goods] at h
    rw [Fc.kdf]
    exact ⟨hk, Fc.kdf_ok (Fc.kd_ok h.1) h.2⟩
end
theorem Fc.kds_ok : ∀ {l : List Fc}, Fc.goods l → (Fc.kds l).ok
  | [], _ => trivial
  | f :: r, h => by
    rw [Fc.goods] at h
    rw [Fc.kds]
    exact Fc.kdf_ok (Fc.kd_ok h.1) h.2
end KB

namespace KB
open PySem PySem.Spec PyProof.Rows L2
/-! ## kinds so deep; the kind of a form has this form -/
theorem Kd.rk_deep : ∀ k : Kd, k.rk + 1 ≤ k.deep
  | .b _ => by simp [Kd.rk, Kd.deep]
  | .u => by simp [Kd.rk, Kd.deep]
  | .p x y => by have := Kd.rk_deep x; have := Kd.rk_deep y; simp only [Kd.rk, Kd.deep]; omega
  | .f x y => by have := Kd.rk_deep x; have := Kd.rk_deep y; simp only [Kd.rk, Kd.deep]; omega
theorem Kd.leaves_deep : ∀ (n : Nat) (k : Kd), k.deep ≤ n + 1 → k.leaves ≤ 2 ^ n
  | _, .b _, _ => Nat.one_le_two_pow
  | _, .u, _ => Nat.one_le_two_pow
  | 0, .p x y, h => by have := x.leaves_pos; have := x.deep_le; have : 1 ≤ x.deep := by cases x <;> simp [Kd.deep] <;> omega
                       simp only [Kd.deep] at h; omega
  | 0, .f x y, h => by have : 1 ≤ x.deep := by cases x <;> simp [Kd.deep] <;> omega
                       simp only [Kd.deep] at h; omega
  | n + 1, .p x y, h => by
    simp only [Kd.deep] at h
    have a := Kd.leaves_deep n x (by omega)
    have b := Kd.leaves_deep n y (by omega)
    simp only [Kd.leaves]; rw [Nat.pow_succ]; omega
  | n + 1, .f x y, h => by
    simp only [Kd.deep] at h
    have a := Kd.leaves_deep n x (by omega)
    have b := Kd.leaves_deep n y (by omega)
    simp only [Kd.leaves]; rw [Nat.pow_succ]; omega
def cb : Nat → Nat
  | 0 => 1
  | n + 1 => cb n * (1 + 2 ^ n)
theorem cb_pos : ∀ n, 1 ≤ cb n
  | 0 => Nat.le_refl _
  | n + 1 => by
    rw [cb]
    have := cb_pos n
    exact Nat.le_trans this (Nat.le_mul_of_pos_right _ (Nat.lt_of_lt_of_le Nat.zero_lt_one (Nat.le_add_right 1 _)))
theorem Kd.cnts_deep : ∀ (n : Nat) (k : Kd), k.deep ≤ n + 1 → Fc.cnts k.form ≤ cb n
  | n, .b m, _ => by rw [Kd.form_b]; have := cb_pos n; simp [Fc.cnts, Fc.cnt]; omega
  | n, .u, _ => by rw [Kd.form_u]; simp [Fc.cnts]
  | 0, .p x y, h => by have : 1 ≤ x.deep := by cases x <;> simp [Kd.deep] <;> omega
                       simp only [Kd.deep] at h; omega
  | 0, .f x y, h => by have : 1 ≤ x.deep := by cases x <;> simp [Kd.deep] <;> omega
                       simp only [Kd.deep] at h; omega
  | n + 1, .p x y, h => by
    simp only [Kd.deep] at h
    have a := Kd.cnts_deep n x (by omega)
    have b := Kd.cnts_deep n y (by omega)
    rw [Kd.form_p, Fc.cnts_perm (Fc.srt_perm _), Fc.cnts_app, cb, Nat.mul_add]
    have : cb n * 1 ≤ cb n * 2 ^ n := Nat.mul_le_mul (Nat.le_refl _) Nat.one_le_two_pow
    omega
  | n + 1, .f x y, h => by
    simp only [Kd.deep] at h
    have a := Kd.cnts_deep n x (by omega)
    have b := Kd.cnts_deep n y (by omega)
    have l := y.form_length
    have ly := Kd.leaves_deep n y (by omega)
    rw [Kd.form_f, Fc.cnts_perm (Fc.srt_perm _), Fc.cnts_add, cb, Nat.mul_add, Nat.mul_comm (cb n) (2 ^ n)]
    have m : y.form.length * Fc.cnts x.form ≤ 2 ^ n * cb n := Nat.mul_le_mul (by omega) a
    omega
mutual
theorem Fc.kd_form : ∀ {f : Fc}, Fc.good f → f.kd.form = [f]
  | .mk [] n, h => by rw [Fc.kd, Fc.kdw, Kd.form_b]
  | .mk (g :: r) n, h => by
    rw [Fc.good, Fc.goods] at h
    have e : (Fc.kdf g.kd r).form = g :: r := by
      rw [Fc.kdf_form h.2.2.2, Fc.kd_form h.2.2.1, List.singleton_append, Fc.srt_of h.2.1]
    rw [Fc.kd, Fc.kdw, Kd.form_f, Kd.form_b, e, List.map_cons, List.map_nil, Fc.add, List.append_nil, Fc.srt_of h.2.1]
    rfl
theorem Fc.kdf_form {k : Kd} : ∀ {l : List Fc}, Fc.goods l → (Fc.kdf k l).form = Fc.srt (k.form ++ l)
  | [], _ => by rw [Fc.kdf, List.append_nil, Kd.form_srt]
  | f :: r, h => by
    rw [Fc.goods] at h
    rw [Fc.kdf, Kd.form_p, Fc.kdf_form h.2, Fc.kd_form h.1, Fc.srt_right, List.singleton_append]
end
theorem Fc.kds_form {l : List Fc} (g : Fc.goods l) (o : Fc.Ord l) : (Fc.kds l).form = l := by
  cases l with
  | nil => rw [Fc.kds, Kd.form_u]
  | cons f r =>
    rw [Fc.goods] at g
    rw [Fc.kds, Fc.kdf_form g.2, Fc.kd_form g.1, List.singleton_append, Fc.srt_of o]
theorem Kd.kds_form {k : Kd} (h : k.ok) : (Fc.kds k.form).form = k.form := Fc.kds_form (Kd.form_good h) (Fc.srt_ord _)
mutual
theorem Fc.kd_rk : ∀ f : Fc, 2 * f.kd.rk + 2 ≤ (Fc.dat f).depth
  | .mk [] n => by rw [Fc.kd, Fc.kdw, Fc.dat, Fc.dats]; simp only [Kd.rk, PyData.depth, PyData.depthAll]; omega
  | .mk (g :: r) n => by
    have a := Fc.kdf_rk g.kd r
    have b := Fc.kd_rk g
    have e : (Fc.mk (g :: r) n).kd.rk = (Fc.kdf g.kd r).rk + 1 := by rw [Fc.kd, Fc.kdw]; simp only [Kd.rk]; exact Nat.max_eq_left (Nat.zero_le _)
    rw [e, Fc.dat, Fc.dats]
    simp only [PyData.depth, PyData.depthAll]
    omega
theorem Fc.kdf_rk (k : Kd) : ∀ l : List Fc, 2 * (Fc.kdf k l).rk + 2 ≤ max (2 * k.rk + 2) (PyData.depthAll (Fc.dats l))
  | [] => by rw [Fc.kdf]; omega
  | f :: r => by
    have a := Fc.kdf_rk f.kd r
    have b := Fc.kd_rk f
    rw [Fc.kdf, Fc.dats]
    simp only [Kd.rk, PyData.depthAll]
    omega
end
theorem Fc.kds_rk (l : List Fc) : 2 * (Fc.kds l).rk ≤ PyData.depthAll (Fc.dats l) := by
  cases l with
  | nil => rw [Fc.kds]; simp [Kd.rk]
  | cons f r =>
    have a := Fc.kdf_rk f.kd r
    have b := Fc.kd_rk f
    rw [Fc.kds, Fc.dats]
    simp only [PyData.depthAll]
    omega
/-! ## what is read stays, but for tables of code -/
def notab (H : Hp) : Hp := fun b => match H b with | some (.tbl _) => none | o => o
theorem notab_sub (H : Hp) : Same (notab H) H := fun b o e => by
  unfold notab at e
  split at e
  · cases e
  · exact e
theorem notab_at {H : Hp} {b : Addr} {o : HO} (h : H b = some o) (n : ∀ ps, o ≠ .tbl ps) : notab H b = some o := by
  unfold notab
  rw [h]
  split
  · rename_i e
    exact absurd (Option.some.inj e) (n _)
  · rfl
theorem notab_ext {H H' : Hp} (e : LamX.ExtN H H') : Same (notab H) (notab H') := fun b o h => by
  have n : ∀ ps, o ≠ .tbl ps := fun ps z => by
    unfold notab at h
    split at h
    · cases h
    · rename_i hx; exact hx ps (by rw [h, z])
  exact notab_at (e b o (notab_sub H b o h) n) n
theorem notab_seq {K : PySem.W.Frag} {H : Hp} {a : Addr} {xs : List V} (h : SqL K H a xs) : SqL K (notab H) a xs := by
  rcases h with (h | ⟨o, h⟩) | h
  · exact .inl (.inl (notab_at h fun _ z => by cases z))
  · exact .inl (.inr ⟨o, notab_at h fun _ z => by cases z⟩)
  · exact .inr h
theorem notab_tup {K : PySem.W.Frag} {H : Hp} {a : Addr} {xs : List V} (h : SqT K H a xs) : SqT K (notab H) a xs := by
  rcases h with (h | ⟨o, h⟩) | h
  · exact .inl (.inl (notab_at h fun _ z => by cases z))
  · exact .inl (.inr ⟨o, notab_at h fun _ z => by cases z⟩)
  · exact .inr h
mutual
theorem Dq.notab {K : PySem.W.Frag} {H : Hp} : ∀ {d : PyData} {v : V}, Dq K H v d → Dq K (KB.notab H) v d
  | _, _, .non => .non
  | _, _, .bl b => .bl b
  | _, _, .int i => .int i
  | _, _, .str x => .str x
  | _, _, .lst h a => .lst (notab_seq h) (DqAll.notab a)
  | _, _, .tup h a => .tup (notab_tup h) (DqAll.notab a)
  | _, _, .dct h => .dct (notab_at h fun _ z => by cases z)
theorem DqAll.notab {K : PySem.W.Frag} {H : Hp} : ∀ {ds : List PyData} {vs : List V}, DqAll K H vs ds → DqAll K (KB.notab H) vs ds
  | _, _, .nil => .nil
  | _, _, .cons h a => .cons (Dq.notab h) (DqAll.notab a)
end
theorem Dq.extN {K : PySem.W.Frag} {H H' : Hp} {d : PyData} {v : V} (e : LamX.ExtN H H') (h : Dq K H v d) : Dq K H' v d := (h.notab.same (notab_ext e)).same (notab_sub H')
theorem seq_extN {K : PySem.W.Frag} {H H' : Hp} {a : Addr} {xs : List V} (e : LamX.ExtN H H') (h : SqL K H a xs) : SqL K H' a xs := L2.Same.seq (notab_sub H') (L2.Same.seq (notab_ext e) (notab_seq h))
end KB

namespace KB
open PySem PySem.Spec PyProof.Rows L2
/-! ## which of two tuples is greater -/
def RcGt (A : Around) (s : Shared) (y x : Value) (k : Bool) : Prop := ∀ (P : Program) (w : World) (E Q : Value → Shared → Prop), Q (.bool k) s → wpAny (model P w) A (richCompare .Gt y x) Q E s
section
open SeqAt AutoSeq1
theorem gt_at (p q : Addr) (us vs : Array Value) (m m2 : Nat) (d1 d2 : Option Addr) (k1 k2 : Array (Option Value)) (e r : Nat → Bool) :
    Meets (Builtin.«tuple.__gt__» ⟨[.ref p, .ref q], []⟩) fun A R s => s.heap.get? p = some ⟨.type "tuple", d1, .seq us m, k1⟩ ∧ s.heap.get? q = some ⟨.type "tuple", d2, .seq vs m2, k2⟩ ∧
      (∀ j (a : j < us.size) (b : j < vs.size), EqAt A.in1 s us[j] vs[j] (e j)) ∧ (∀ j (a : j < us.size) (b : j < vs.size), e j = false → RcGt A.in1 s us[j] vs[j] (r j)) ∧ R (.ok (.ret (.bool (firstLt e r (decide (us.size > vs.size)) (List.range (min us.size vs.size)))))) s :=
  .of_wp fun P w A R s ⟨gp, gq, heq, hgt, hR⟩ => by
    obtain ⟨hp, g, d, tk, os⟩ := s
    have kinds := AutoSeq1.sub_tuple_tuple
    have both : (us.toList.zip vs.toList).length = min us.size vs.size := by simp
    wp_walk using wpAny_loadPart' gp, wpAny_loadPart' gq, wpAny_forIn_list _ (fun left st s' => st.1 = none ∧ s' = ⟨hp, g, d, tk, os⟩ ∧ ∃ i, left = (us.toList.zip vs.toList).drop i ∧ R (.ok (.ret (.bool (firstLt e r (decide (us.size > vs.size)) ((List.range (min us.size vs.size)).drop i))))) ⟨hp, g, d, tk, os⟩) _
    case turn =>
      rintro ⟨y, x⟩ left st s' ⟨h0, rfl, i, hz, hR⟩
      have lt : i < (us.toList.zip vs.toList).length := by
        by_cases z : i < (us.toList.zip vs.toList).length
        · exact z
        · rw [List.drop_of_length_le (by omega)] at hz; cases hz
      have im : i < min us.size vs.size := both ▸ lt
      have i1 : i < us.size := by omega
      have i2 : i < vs.size := by omega
      rw [List.drop_eq_getElem_cons lt] at hz
      injection hz with hyx rest
      obtain rfl : y = us[i] := by simpa using congrArg Prod.fst hyx
      obtain rfl : x = vs[i] := by simpa using congrArg Prod.snd hyx
      have cut : (List.range (min us.size vs.size)).drop i = i :: (List.range (min us.size vs.size)).drop (i + 1) := by simp [List.drop_eq_getElem_cons, im]
      rw [cut] at hR
      refine wpAny_bind (heq i i1 i2 P w _ _ ?_)
      cases same : e i with
      | true => rw [firstLt_yes same] at hR; wp_walk; exact ⟨rfl, rfl, i + 1, rest, hR⟩
      | false =>
        rw [firstLt_no same] at hR
        have hg : ∀ (E Q : Value → Shared → Prop), Q (.bool (r i)) ⟨hp, g, d, tk, os⟩ → wpAny (model P w) A.in1 (richCompare .Gt us[i] vs[i]) Q E ⟨hp, g, d, tk, os⟩ := fun E Q h => hgt i i1 i2 same P w E Q h
        clear heq hgt
        generalize @PySem.richCompare = rc at hg ⊢
        wp_walk
        refine hg _ _ ?_
        wp_walk
        exact ⟨_, rfl, hR⟩
    case fin =>
      rintro ⟨c1, c2⟩ s' ⟨h0, rfl, i, hz, hR⟩
      simp only at h0
      subst h0
      have past : min us.size vs.size ≤ i := by
        by_cases z : i < (us.toList.zip vs.toList).length
        · rw [List.drop_eq_getElem_cons z] at hz; cases hz
        · omega
      rw [List.drop_of_length_le (by simpa using past)] at hR
      wp_walk
      exact ⟨_, rfl, by simpa [Builtin.Tuple.tupleCompareSizes, firstLt] using hR⟩
    case h => exact ⟨rfl, rfl, 0, rfl, by simpa using hR⟩
theorem gt_tuples {A : Around} {s : Shared} {p q : Addr} {us vs : Array Value} {e r : Nat → Bool} (hp : s.heap.IsTuple p us) (hq : s.heap.IsTuple q vs) (hu : A.units < cLine)
    (heq : ∀ j (a : j < us.size) (b : j < vs.size), EqAt A.in1 s us[j] vs[j] (e j)) (hgt : ∀ j (a : j < us.size) (b : j < vs.size), e j = false → RcGt A.in1 s us[j] vs[j] (r j)) :
    RcGt A s (.ref p) (.ref q) (firstLt e r (decide (us.size > vs.size)) (List.range (min us.size vs.size))) := fun P w E Q h => by
  obtain ⟨⟨c1, d1, da1, k1⟩, g1, t1, m1, z1⟩ := id hp
  obtain ⟨⟨c2, d2, da2, k2⟩, g2, t2, m2, z2⟩ := id hq
  simp only at t1 z1 t2 z2
  subst t1 z1 t2 z2
  exact richCompare_meets_room (op := .Gt) ⟨_, g1, rfl⟩ ⟨_, g2, rfl⟩ F.slot_tuple_gt F.entry_tuple_gt (F.args_tuple_gt_2 _ _) (gt_at p q us vs m1 m2 d1 d2 k1 k2 e r) ⟨g1, g2, heq, hgt, show _ ≠ Value.notImplemented ∧ Q (.bool _) s from ⟨(fun z => nomatch z), h⟩⟩ hu
end
namespace Fc
def gt (a b : Fc) : Bool := cmp a b == .gt
def gF (fs gs : List Fc) (j : Nat) : Bool := match fs[j]?, gs[j]? with | some f, some g => gt f g | _, _ => false
theorem then_gt (a b : Ordering) : (a.then b == .gt) = (if (a == .eq) = true then (b == .gt) else (a == .gt)) := by cases a <;> cases b <;> rfl
theorem firstGt_cmps : ∀ fs gs : List Fc, SeqAt.firstLt (eF fs gs) (gF fs gs) (decide (fs.length > gs.length)) (List.range (min fs.length gs.length)) = (cmps fs gs == .gt)
  | [], [] => by simp [SeqAt.firstLt.eq_1, cmps]
  | [], _ :: _ => by simp [SeqAt.firstLt.eq_1, cmps]
  | _ :: _, [] => by simp [SeqAt.firstLt.eq_1, cmps]
  | f :: r, g :: t => by
    have hm : min (f :: r).length (g :: t).length = min r.length t.length + 1 := by simp only [List.length_cons]; omega
    have hd : decide ((f :: r).length > (g :: t).length) = decide (r.length > t.length) := by simp
    rw [hm, hd, List.range_succ_eq_map, SeqAt.firstLt.eq_2, firstLt_map]
    have h1 : (fun j => eF (f :: r) (g :: t) (Nat.succ j)) = eF r t := funext fun j => rfl
    have h2 : (fun j => gF (f :: r) (g :: t) (Nat.succ j)) = gF r t := funext fun j => rfl
    rw [h1, h2, firstGt_cmps r t, cmps, then_gt]
    rfl
theorem rg_int {A : Around} {s : Shared} (a : Int) (t : Tok) (b : Int) (u : Tok) : RcGt A s (.int a t) (.int b u) (decide (b < a)) := fun prog w E Q h => gt_int h
mutual
theorem rcGt : ∀ (f g : Fc) {A : Around} {s : Shared} {v u : Value} {as bs : List Addr}, Reads s.heap v (dat f) as → Reads s.heap u (dat g) bs → A.units + (dat f).depth < cLine → RcGt A s v u (gt f g)
  | mk ws n, mk vs m, A, s, v, u, as, bs, rv, ru, hu => by
    rw [dat] at rv ru hu
    simp only [PyData.depth, PyData.depthAll] at hu
    obtain ⟨a, items, rfl, t1, ra⟩ := tup_inv rv
    obtain ⟨b, items2, rfl, t2, rb⟩ := tup_inv ru
    obtain ⟨il⟩ := items
    obtain ⟨il2⟩ := items2
    cases ra with
    | cons r1 r2 => cases r2 with
    | cons r3 r4 => cases r4 with
    | nil => cases rb with
    | cons p1 p2 => cases p2 with
    | cons p3 p4 => cases p4 with
    | nil =>
    cases r3
    cases p3
    have eq0 := SeqAt.eqAt_reads _ _ A.in1 s _ _ _ _ r1 p1 (by simpa [PyData.canLay0] using lays ws) (by simpa [PyData.canLay0] using lays vs) (by show A.units + 1 + _ < cLine; simp only [PyData.depth]; omega)
    rw [ev_tup, eqvs] at eq0
    obtain ⟨a1, w1, rfl, tw, rw1⟩ := tup_inv r1
    obtain ⟨b1, w2, rfl, tv, rv1⟩ := tup_inv p1
    obtain ⟨l1, f1⟩ := reads_at rw1
    obtain ⟨l2, f2⟩ := reads_at rv1
    have lt0 : RcGt A.in1 s (.ref a1) (.ref b1) (cmps ws vs == .gt) := by
      have h := gt_tuples (A := A.in1) (s := s) (e := eF ws vs) (r := gF ws vs) tw tv (by show A.units + 1 < cLine; omega) (fun j h1 h2 => ?_) (fun j h1 h2 _ => ?_)
      · have s1 : w1.size = ws.length := by rw [← l1]; simp
        have s2 : w2.size = vs.length := by rw [← l2]; simp
        rw [s1, s2, firstGt_cmps] at h
        exact h
      · obtain ⟨f, as1, e1, q1⟩ := f1 j (by simpa using h1)
        obtain ⟨g, bs1, e2, q2⟩ := f2 j (by simpa using h2)
        have d1 := depth_mem e1
        have := SeqAt.eqAt_reads _ _ A.in1.in1 s _ _ _ _ q1 q2 (lay f) (lay g) (by show A.units + 1 + 1 + _ < cLine; omega)
        rw [eqv f g] at this
        have ef : eF ws vs j = (cmp f g == .eq) := by simp [eF, e1, e2]
        rw [ef]
        simpa using this
      · obtain ⟨f, as1, e1, q1⟩ := f1 j (by simpa using h1)
        obtain ⟨g, bs1, e2, q2⟩ := f2 j (by simpa using h2)
        have := rcGts ws vs (A := A.in1.in1) j e1 q1 q2 (by show A.units + 1 + 1 + _ < cLine; omega)
        have ef : gF ws vs j = gt f g := by simp [gF, e1, e2]
        rw [ef]
        simpa using this
    have h := gt_tuples (A := A) (s := s) (e := fun j => if j = 0 then (cmps ws vs == .eq) else ((n : Int) == (m : Int))) (r := fun j => if j = 0 then (cmps ws vs == .gt) else decide ((m : Int) < (n : Int))) t1 t2 (by omega) (fun j h1 h2 => ?_) (fun j h1 h2 _ => ?_)
    · have e : SeqAt.firstLt (fun j => if j = 0 then (cmps ws vs == .eq) else ((n : Int) == (m : Int))) (fun j => if j = 0 then (cmps ws vs == .gt) else decide ((m : Int) < (n : Int))) (decide (2 > 2)) [0, 1] = gt (mk ws n) (mk vs m) := by
        rw [SeqAt.firstLt.eq_2, SeqAt.firstLt.eq_2, SeqAt.firstLt.eq_1, gt, cmp, then_gt]
        have hnm : decide ((m : Int) < (n : Int)) = (compare n m == .gt) := by
          by_cases h : m < n
          · have h2 : compare n m = .gt := Nat.compare_eq_gt.mpr h
            have h3 : ((m : Int) < (n : Int)) := by omega
            simp [h2, h3]
          · have h2 : compare n m ≠ .gt := fun z => h (Nat.compare_eq_gt.mp z)
            have h3 : ¬ ((m : Int) < (n : Int)) := by omega
            simp [h2, h3]
        simp only [hnm, nat_ev]
        generalize cmps ws vs = c
        generalize compare n m = d
        cases c <;> cases d <;> rfl
      rw [← e]
      exact h
    · match j, h1, h2 with
      | 0, _, _ => exact eq0
      | 1, _, _ => exact SeqAt.EqAt.int_int _ _ _ _
      | j + 2, h1, _ => exact absurd h1 (by simp)
    · match j, h1, h2 with
      | 0, _, _ => exact lt0
      | 1, _, _ => exact rg_int _ _ _ _
      | j + 2, h1, _ => exact absurd h1 (by simp)
theorem rcGts : ∀ (fs gs : List Fc) {A : Around} {s : Shared} (j : Nat) {f g : Fc} {v u : Value} {as bs : List Addr}, fs[j]? = some f → Reads s.heap v (dat f) as → Reads s.heap u (dat g) bs → A.units + PyData.depthAll (dats fs) < cLine → RcGt A s v u (gt f g)
  | [], _, _, _, _, _, _, _, _, _, _, h, _, _, _ => by simp at h
  | f0 :: r, gs, A, s, 0, f, g, v, u, as, bs, h, rv, ru, hu => by
    have e : f0 = f := by simpa using h
    subst e
    rw [dats] at hu
    simp only [PyData.depthAll] at hu
    exact rcGt f0 g rv ru (by omega)
  | f0 :: r, gs, A, s, j + 1, f, g, v, u, as, bs, h, rv, ru, hu => by
    rw [dats] at hu
    simp only [PyData.depthAll] at hu
    exact rcGts r gs j (by simpa using h) rv ru (by omega)
end
theorem gt_lt (a b : Fc) : gt a b = lt b a := by
  unfold gt lt
  rw [cmp_swap a b]
  cases cmp a b <;> rfl
end Fc
/-- a > b of two factors -/
def rGtF (K : PySem.W.Frag) : R2 := fun x y H Q => ∃ f g : Fc, Dq K H x (Fc.dat f) ∧ Dq K H y (Fc.dat g) ∧ (Fc.dat f).depth ≤ 190 ∧ Q (.bl (Fc.lt g f)) H
theorem op_gtF {X : Cx} (hu : X.A.units + 200 < cLine) : OpR X (compareOp .Gt) (rGtF X.K) := by
  intro pins s σ H x y v u Q I rx ry ⟨f, g, df, dg, dep, q⟩
  obtain ⟨as, ra, _⟩ := Dq.reads I df rx
  obtain ⟨bs, rb, _⟩ := Dq.reads I dg ry
  have h := Fc.rcGt f g (A := X.A) (s := s) ra rb (by omega)
  rw [Fc.gt_lt] at h
  exact h _ _ _ _ ⟨.bl _, H, I, rfl, q⟩
end KB

namespace KB
open PySem PySem.Spec L2
/-! ## data read as factors -/
def pQ (o : Option (List Fc)) (r : List PyData) : Option Fc := match o with
  | none => none
  | some ws => match r with
    | [.int n] => if 0 ≤ n ∧ n < 8 then some (.mk ws n.toNat) else none
    | _ => none
mutual
def pF : PyData → Option Fc
  | .tuple xs => pP xs
  | _ => none
def pP : List PyData → Option Fc
  | [] => none
  | w :: r => pQ (pW w) r
def pW : PyData → Option (List Fc)
  | .tuple ws => pL ws
  | _ => none
def pL : List PyData → Option (List Fc)
  | [] => some []
  | d :: r => match pF d, pL r with
    | some f, some l => some (f :: l)
    | _, _ => none
end
/-- a factor but for what stands in what it wants -/
def facSh : PyData → Bool
  | .tuple [w, b] => tyN w == "tuple" && isBn b
  | _ => false
def wOf : PyData → List PyData
  | .tuple (.tuple ws :: _) => ws
  | _ => []
theorem facSh_is {d : PyData} (h : facSh d = true) : ∃ (ws : List PyData) (n : Nat), d = .tuple [.tuple ws, .int (n : Int)] ∧ n < 8 := by
  match d, h with
  | .tuple [w, b], h =>
    simp only [facSh, Bool.and_eq_true, beq_iff_eq] at h
    cases w <;> simp [tyN] at h
    rename_i ws
    cases b <;> simp [isBn] at h
    rename_i n
    exact ⟨ws, n.toNat, by rw [Int.toNat_of_nonneg h.1], by omega⟩
theorem pF_sh (ws : List PyData) (n : Nat) (h : n < 8) : pF (.tuple [.tuple ws, .int (n : Int)]) = (pL ws).map fun l => .mk l n := by
  simp only [pF, pP, pW]
  cases pL ws with
  | none => rfl
  | some l =>
    have e : (0 : Int) ≤ (n : Int) ∧ (n : Int) < 8 := by omega
    simp only [Option.map_some, pQ]
    rw [if_pos e]; simp
theorem pQ_is {o : Option (List Fc)} {r : List PyData} {f : Fc} (h : pQ o r = some f) : ∃ (ws : List Fc) (n : Nat), o = some ws ∧ r = [.int (n : Int)] ∧ n < 8 ∧ f = .mk ws n := by
  cases o with
  | none => cases h
  | some ws =>
    simp only [pQ] at h
    split at h
    · rename_i n
      split at h
      · rename_i c
        cases h
        exact ⟨ws, n.toNat, rfl, by rw [Int.toNat_of_nonneg c.1], by omega, rfl⟩
      · cases h
    · cases h
mutual
theorem pF_dat : ∀ {d : PyData} {f : Fc}, pF d = some f → facSh d = true ∧ d = Fc.dat f ∧ ∀ n ∈ Fc.num f, n < 8
  | .tuple xs, f, h => by
    simp only [pF] at h
    obtain ⟨ws, n, e, hn, rfl, g⟩ := pP_dat h
    rw [e]
    refine ⟨?_, by rw [Fc.dat], fun k hk => ?_⟩
    · simp [facSh, tyN, isBn]; omega
    · rw [Fc.num] at hk
      rcases List.mem_cons.mp hk with z | z
      · rw [z]; exact hn
      · exact g k z
  | .none, f, h => by simp [pF] at h
  | .bool _, f, h => by simp [pF] at h
  | .int _, f, h => by simp [pF] at h
  | .str _, f, h => by simp [pF] at h
  | .list _, f, h => by simp [pF] at h
  | .dict _, f, h => by simp [pF] at h
theorem pP_dat : ∀ {xs : List PyData} {f : Fc}, pP xs = some f → ∃ (ws : List Fc) (n : Nat), xs = [.tuple (Fc.dats ws), .int (n : Int)] ∧ n < 8 ∧ f = .mk ws n ∧ ∀ k ∈ Fc.nums ws, k < 8
  | [], f, h => by simp [pP] at h
  | w :: r, f, h => by
    simp only [pP] at h
    obtain ⟨ws, n, e, rfl, hn, rfl⟩ := pQ_is h
    obtain ⟨ew, g⟩ := pW_dat e
    exact ⟨ws, n, by rw [ew], hn, rfl, g⟩
theorem pW_dat : ∀ {w : PyData} {ws : List Fc}, pW w = some ws → w = .tuple (Fc.dats ws) ∧ ∀ k ∈ Fc.nums ws, k < 8
  | .tuple xs, ws, h => by
    simp only [pW] at h
    obtain ⟨e, g⟩ := pL_dats h
    exact ⟨by rw [e], g⟩
  | .none, f, h => by simp [pW] at h
  | .bool _, f, h => by simp [pW] at h
  | .int _, f, h => by simp [pW] at h
  | .str _, f, h => by simp [pW] at h
  | .list _, f, h => by simp [pW] at h
  | .dict _, f, h => by simp [pW] at h
theorem pL_dats : ∀ {ds : List PyData} {F : List Fc}, pL ds = some F → ds = Fc.dats F ∧ ∀ n ∈ Fc.nums F, n < 8
  | [], F, h => by simp only [pL] at h; cases h; rw [Fc.dats]; exact ⟨rfl, fun n z => by rw [Fc.nums] at z; cases z⟩
  | d :: r, F, h => by
    simp only [pL] at h
    cases hd : pF d with
    | none => rw [hd] at h; cases h
    | some f =>
      cases hr : pL r with
      | none => rw [hd, hr] at h; cases h
      | some l =>
        rw [hd, hr] at h
        cases h
        obtain ⟨_, a, b⟩ := pF_dat hd
        obtain ⟨c, e⟩ := pL_dats hr
        refine ⟨by rw [Fc.dats, ← a, ← c], fun n hn => ?_⟩
        rw [Fc.nums] at hn
        exact (List.mem_append.mp hn).elim (b n) (e n)
end
theorem pF_no {d : PyData} (h : facSh d = false) : pF d = none := by
  cases e : pF d with
  | none => rfl
  | some f => rw [(pF_dat e).1] at h; cases h
mutual
theorem pF_of : ∀ {f : Fc}, (∀ n ∈ Fc.num f, n < 8) → pF (Fc.dat f) = some f
  | .mk ws n, h => by
    rw [Fc.num] at h
    rw [Fc.dat, pF_sh _ n (h n List.mem_cons_self), pL_of (l := ws) fun k hk => h k (List.mem_cons_of_mem _ hk)]
    rfl
theorem pL_of : ∀ {l : List Fc}, (∀ n ∈ Fc.nums l, n < 8) → pL (Fc.dats l) = some l
  | [], _ => by rw [Fc.dats, pL]
  | f :: r, h => by
    rw [Fc.nums] at h
    rw [Fc.dats, pL, pF_of fun n hn => h n (List.mem_append.mpr (.inl hn)), pL_of fun n hn => h n (List.mem_append.mpr (.inr hn))]
end
/-- where all are factors but for what is wanted, and what each wants is read, all is -/
theorem pL_all : ∀ {ds : List PyData}, (∀ d ∈ ds, facSh d = true) → (∀ d ∈ ds, pL (wOf d) ≠ none) → pL ds ≠ none
  | [], _, _ => by rw [pL]; simp
  | d :: r, h, g => by
    obtain ⟨ws, n, rfl, hn⟩ := facSh_is (h d List.mem_cons_self)
    have g1 := g _ List.mem_cons_self
    have g2 := pL_all (ds := r) (fun e he => h e (List.mem_cons_of_mem _ he)) fun e he => g e (List.mem_cons_of_mem _ he)
    rw [pL, pF_sh ws n hn]
    have e : wOf (.tuple [.tuple ws, .int (n : Int)]) = ws := rfl
    rw [e] at g1
    cases a : pL ws with
    | none => exact absurd a g1
    | some l => cases b : pL r with
      | none => exact absurd b g2
      | some m => simp
/-! ## what the law takes for a form -/
def lawF (d : PyData) : Bool := match pF d with | some f => Fc.her f.ws | none => false
def lawL : PyData → Bool
  | .list ds => (match pL ds with | some F => Fc.her F | none => false)
  | _ => false
theorem her_cons (l : List Fc) : Fc.her l = ((Fc.cmps l (Fc.srt l) == .eq) && l.all fun f => Fc.her f.ws) := by
  rw [Fc.her, Fc.rows, List.all_cons, Fc.rowsW_map, List.all_flatten, List.all_map]
  rfl
theorem lawF_all : ∀ ds : List PyData, ds.all lawF = (match pL ds with | some F => F.all fun f => Fc.her f.ws | none => false)
  | [] => by rw [pL]; rfl
  | d :: r => by
    rw [List.all_cons, lawF_all r, pL, lawF]
    cases pF d with
    | none => rfl
    | some f => cases pL r with
      | none => simp
      | some l => rfl
/-- a list is in order where no neighbours are turned -/
theorem ord_near : ∀ {l : List Fc}, (∀ k, 0 < k → k < l.length → ∀ f g, l[k - 1]? = some f → l[k]? = some g → Fc.lt g f = false) → Fc.Ord l
  | [], _ => .nil
  | [f], _ => List.pairwise_singleton _ _
  | f :: g :: r, h => by
    have t := ord_near (l := g :: r) fun k k0 k1 a b ha hb => h (k + 1) (by omega) (by simp only [List.length_cons] at k1 ⊢; omega) a b (by
      have : k + 1 - 1 = (k - 1) + 1 := by omega
      rw [this]; exact ha) hb
    have e : Fc.lt g f = false := h 1 (by decide) (by simp) f g rfl rfl
    refine List.pairwise_cons.mpr ⟨fun x hx => ?_, t⟩
    rcases List.mem_cons.mp hx with rfl | hx
    · exact e
    · have gx : Fc.lt x g = false := (List.pairwise_cons.mp t).1 x hx
      exact Fc.swo.tr f g x e gx
theorem near_ord {l : List Fc} (o : Fc.Ord l) {k : Nat} {f g : Fc} (k0 : 0 < k) (hf : l[k - 1]? = some f) (hg : l[k]? = some g) : Fc.lt g f = false := by
  have h1 := (List.getElem?_eq_some_iff.mp hf)
  have h2 := (List.getElem?_eq_some_iff.mp hg)
  obtain ⟨a, rfl⟩ := h1
  obtain ⟨b, rfl⟩ := h2
  exact List.pairwise_iff_getElem.mp o (k - 1) k a b (by omega)
theorem ord_iff (l : List Fc) : (Fc.cmps l (Fc.srt l) == .eq) = true ↔ Fc.Ord l := by
  constructor
  · intro h
    have : l = Fc.srt l := (Fc.cmps_eq _ _).mp (by simpa using h)
    rw [this]; exact Fc.srt_ord l
  · intro h
    rw [Fc.srt_of h, (Fc.cmps_eq _ _).mpr rfl]; rfl
end KB

/-! B18: refusals held as values: made, isinstance of them, their fields. -/
namespace KB
open PySem PySem.Spec PySem.Calls PyProof.Rows L2
/-- at a: a refusal of the class cls, held as a value; d: where its dict is, if it has one -/
def ExV (cls : Value) (d : Option Addr) (a : Addr) : HO := .ext fun h => ∃ (o : Obj) (fs : Array Value), h.get? a = some o ∧ Zc cls d o ∧ o.data = .fields fs
theorem exV_ok {P : Program} {w : World} {H : Hp} {h : Heap} {a : Addr} {cls : Value} {d : Option Addr} {o : Obj} {fs : Array Value} (e : h.get? a = some o) (z : Zc cls d o) (k : o.data = .fields fs) : ObjOk P w H h a (ExV cls d a) :=
  ⟨⟨o, fs, e, z, k⟩, ⟨o, e⟩, fun _ _ ⟨o', fs', e', r⟩ g => ⟨o', fs', g o' e', r⟩⟩
theorem inv_like {X : Cx} {pins : List (Addr × Obj)} {σ : L2.St} {H : Hp} {s s' : Shared} (I : Inv X pins σ H s) (h1 : s'.heap = s.heap) (h2 : s'.os = s.os) (h3 : AllBare s'.gens) : Inv X pins σ H s' := by
  obtain ⟨ok, os, bare, base, loc, cell, free, freeC, pin, hok, len⟩ := I
  rw [← h1] at base loc cell pin hok
  exact ⟨ok, h2.trans os, h3, base, loc, cell, free, freeC, pin, hok, len⟩
/-- what makes a refusal, as a value -/
def tHeld (t : L2.St → Hp → XK → Prop) : TE := fun σ H Q => t σ H fun cls d H' => ∀ a, H' a = none → Q (.ref a) (upd H' a (ExV cls d a))
theorem pe_held {X : Cx} {e : Expr} {t : L2.St → Hp → XK → Prop} (h : PMk X e t) : PE X e (tHeld t) := by
  refine ⟨fun pins s σ H Q I q => wpAny_mono (h pins s σ H _ I q) (fun u s1 hu => ?_) fun _ _ x => x⟩
  obtain ⟨a, oe, vs, sI, H', cls, d, eu, J, k, hne, ha, hz, hd, _, na, os, ag, _, q1⟩ := hu
  subst eu
  exact ⟨.ref a, upd H' a (ExV cls d a), inv_like (J.laidN (t' := s1.toks) k hne na (exV_ok ha hz hd)) rfl os ag, rfl, q1 a na⟩
/-- at a: a refusal of the class at D, one with a field (then its dict is known) or without -/
def Err (H : Hp) (a D : Addr) : Prop := ∃ d : Option Addr, H a = some (ExV (.ref D) d a) ∧ ∀ b, d = some b → ∃ fs, H b = some (.xd fs)
theorem Err.inst {P : Program} {w : World} {H : Hp} {h : Heap} {a D : Addr} (e : Err H a D) (k : HOk P w H h) : ∃ ox od, PySem.W.InstAt h a ox D od := by
  obtain ⟨d, e, ed⟩ := e
  obtain ⟨⟨oe, vs, ho, hz, hd⟩, _, _⟩ := k a _ e
  obtain ⟨oc, odd, oda, osl⟩ := oe
  obtain ⟨h1, h2⟩ := hz
  dsimp only at h1 h2 hd
  subst h1 h2 hd
  cases odd with
  | none => exact ⟨_, none, ho, rfl, rfl, trivial⟩
  | some b =>
    obtain ⟨fs, eb⟩ := ed b rfl
    obtain ⟨mA, ⟨o, es, ep, hod, _⟩, _⟩ : ∃ mA, h.Ns1 b mA ∧ ∀ f, RelO (fs.lookup f) (mA f) := k b _ eb
    exact ⟨_, some o, ho, rfl, rfl, hod⟩
/-- isinstance(e, c), e a refusal held as a value -/
def rIsX (K : PySem.W.Frag) : List V → Hp → VK → Prop := fun xs H Q => ∃ (a D : Addr) (c : V) (cv : Value) (b : Bool), xs = [.ref a, c] ∧ ExcC K D ∧ Err H a D ∧ (∀ u, RelV c u → u = cv) ∧ PySem.W.kitOne K (.ref D) cv = some b ∧ Q (.bl b) H
theorem call_isX {X : Cx} : CallR X (.builtin "isinstance") (rIsX X.K) := by
  intro pins s σ H xs us Q I r h
  obtain ⟨a, D, c, cv, b, rfl, C, er, hcv, e, q⟩ := h
  cases r with
  | cons rx rr =>
    cases rr with
    | cons rt rr =>
      cases rr
      cases rx
      have ec := hcv _ rt
      subst ec
      obtain ⟨ox, od, J⟩ := er.inst I.hok
      obtain ⟨cd, hc, _⟩ := PySem.W.any_some C.hd
      exact PySem.W.kia_one (PySem.W.kitx_exc (by rw [hc]; rfl) C.hg C.hk C.hs C.ha C.hn C.ht C.hm) I.kIn J e (fun z => nomatch z) fun tk => ⟨.bl b, H, I.kept (t' := tk) fun _ _ z => z, rfl, q⟩
/-- e.n, e a refusal with fields held as a value -/
def tXv (K : PySem.W.Frag) (n : Str) (te : TE) : TE := fun σ H Q => te σ H fun x H1 => ∃ (a C b : Addr) (fs : List (Str × V)) (v : V), x = .ref a ∧ XfC K C ∧ PySem.W.findIn K (.ref C) n = some none ∧
  H1 a = some (ExV (.ref C) (some b) a) ∧ H1 b = some (.xd fs) ∧ fs.lookup n = some v ∧ Q v H1
theorem pe_xv {X : Cx} {e : Expr} {te : TE} {pos : Pos} {n : Str} (he : PE X e te) (hb : attributeBase e n X.env (eval e X.env) = eval e X.env := by rfl) : PE X (.Attribute e n pos) (tXv X.K n te) := by
  refine ⟨fun pins s σ H Q I h => attr_of hb (thn (he.run pins s σ H _ I h) fun u s1 hh => ?_)⟩
  obtain ⟨x, H1, I1, rx, a, C, b, fs, v, ex, T, hno, ea, eb, l, q⟩ := hh
  subst ex
  obtain rfl : u = Value.ref a := rx
  obtain ⟨⟨oe, vs, ho, hz, hd⟩, _, _⟩ := I1.hok a _ ea
  obtain ⟨mA, hns, hr⟩ : ∃ mA, s1.heap.Ns1 b mA ∧ ∀ f, RelO (fs.lookup f) (mA f) := I1.hok b _ eb
  obtain ⟨od, hod, hl⟩ := lookIn_ns hns
  obtain ⟨u, hu, ru⟩ := RelO.some_of (v := v) (o := mA n) (by rw [← l]; exact hr n)
  have J : PySem.W.InstAt s1.heap a oe C (some od) := ⟨ho, hz.1, by unfold PySem.W.notCls; rw [hd] <;> rfl, by rw [hz.2]; exact hod⟩
  have hf := PySem.W.findObj_own T.hdC hno rfl (by rw [hl, hu])
  exact HandSPX.exc_get I1.kIn J T.ga T.gg T.exC hf (handed_of ru) ⟨v, H1, I1.tok _, ru, q⟩
end KB

/-! B19: a refusal made of its field by name. -/
namespace PySem
namespace KX
open PySem.W PySem.Calls PyProof.Rows PySem.HandSPX
section
variable {prog : Program} {w : World} {A : Around} {E : Value → Shared → Prop} {R : Result → Shared → Prop} {Q : Fin → Shared → Prop} {h : Heap} {g : Array GenState} {d : Drawn} {t : Nat} {os : OsState}
variable {nm q : Str} {C N fI : Addr} {bs bm bmB rest : List Value} {kw : List (Str × Value)} {hdct : Bool} {sn : List Str} {sub : List Value} {ab : Bool} {col : Option Bool} {dd : Option Addr} {k0 k1 k2 k3 k5 : Option Value} {B newId initId : String}
abbrev SameTypes (bm bmB : List Value) : Prop := ∀ X : String, bm.contains (.type X) = bmB.contains (.type X)
theorem own_has {T : String} {b : Bool} (s : SameTypes bm bmB) (e : bmB.contains (.type T) = b) : (Value.ref C :: bm).contains (.type T) = b := by
  have z : (Value.ref C == Value.type T) = false := rfl
  rw [List.contains_cons, s, e]
  cases b <;> rfl
theorem checkK_new (F : ExcBaseFacts B newId initId bmB) (s : SameTypes bm bmB) {M : Model} {Q : Unit → Shared → Prop} (hC : h.get? C = some (excClassObj nm q C N bs bm hdct sn sub ab col dd k0 k1 k2 k3 k5 newId))
    (k : Q () ⟨h, g, d, t, os⟩) : wpAny M A (checkBuiltinCall newId { pos := .ref C :: rest, kw := kw }) Q E ⟨h, g, d, t, os⟩ := by
  have sB := own_has (C := C) s F.hasB
  have ns := F.noStar
  simp only [checkBuiltinCall, F.newRow, F.newSplit, F.newKind]
  repeat (first
    | refine wpAny_madeBy_exc hC ?_
    | refine wpAny_staticBase_exc hC ?_
    | (refine wpAny_isSubtype_exc hC ?_; rw [sB])
    | refine wpAny_loadPart_at hC ?_
    | simp only [if_false, Bool.false_eq_true, bne_self_eq_false]
    | wp_step)
  exact k
theorem runK_new (F : ExcBaseFacts B newId initId bmB) (s : SameTypes bm bmB) (hC : h.get? C = some (excClassObj nm q C N bs bm hdct sn sub ab col dd k0 k1 k2 k3 k5 newId)) (sz : rest.length ≤ sizeLine)
    (k : R (.ok (.ret (.ref (h.objs.size + 1)))) ⟨(h.push (W.kdv_tup rest)).push (excO C h.objs.size), g, d, t, os⟩) :
    codeAny (model prog w) A (.builtin newId { pos := .ref C :: rest, kw := kw }) R ⟨h, g, d, t, os⟩ := by
  have ends := F.ends
  have sB := own_has (C := C) s F.hasB
  have sA := own_has (C := C) s F.noAttr
  have sN := own_has (C := C) s F.noName
  refine codeAny_builtinAt F.entry (wpAt_bind ?_)
  show wpAt _ _ _ (stack >>= _) _ _ _
  refine wpAt_bind (wpAt_stack fun _ _ => wpAt_of_wpAny ?_)
  wp_walk
  refine wpAt_of_wpAny ?_
  rw [F.owner]
  repeat (first
    | with_reducible refine wpAny_loadPart_at hC ?_
    | with_reducible refine wpAny_madeHere_exc F.canon hC ?_
    | (with_reducible refine wpAny_isSubtype_exc hC ?_; first | rw [sN] | rw [sA] | rw [sB])
    | wp_step)
  show R _ _
  rw [Heap.size_push]
  exact k
theorem typeK_new (F : ExcBaseFacts B newId initId bmB) (s : SameTypes bm bmB) (hC : h.get? C = some (excClassObj nm q C N bs bm hdct sn sub ab col dd k0 k1 k2 k3 k5 newId)) (sz : rest.length ≤ sizeLine)
    (hi : W.Looks (model prog w) h (typeLookup (.ref C) "__init__") (some (.ref fI))) (hb : ∀ self, W.Looks (model prog w) h (bindSpecial (.ref fI) self) (.ref fI, [self]))
    (k : codeAny (model prog w) A (.call (.ref fI) { pos := .ref (h.objs.size + 1) :: rest, kw := kw })
      (fun r s' => match r with
        | .ok (.ret v) => v = .none ∧ Q (.done (.ret (.ref (h.objs.size + 1)))) s'
        | .ok _ => False
        | .error e => E e s') ⟨(h.push (W.kdv_tup rest)).push (excO C h.objs.size), g, d, t, os⟩) :
    wpAny (model prog w) A (Builtin.«type.__call__» { pos := .ref C :: rest, kw := kw }) Q E ⟨h, g, d, t, os⟩ := by
  repeat (first | with_reducible refine wpAny_madeBy_exc hC ?_ | with_reducible refine wpAny_loadPart_at hC ?_ | wp_step)
  refine codeAny_call_builtin_code (Code.quiet_builtin _ F.quiet) (checkK_new F s hC (runK_new F s hC sz ?_))
  show wpAny _ _ _ _ _ _
  have up : ∀ b o, h.get? b = some o → ((h.push (W.kdv_tup rest)).push (excO C h.objs.size)).get? b = some o :=
    fun b o e => Heap.get?_push_of_some _ (Heap.get?_push_of_some _ e)
  have hC2 := up _ _ hC
  have hE : ((h.push (W.kdv_tup rest)).push (excO C h.objs.size)).get? (h.objs.size + 1) = some (excO C h.objs.size) := by heap_get
  have sC : (Value.ref C :: bm).contains (.ref C) = true := by simp
  unfold isInstance
  repeat (first | with_reducible refine wpAny_loadPart_at hE ?_ | (with_reducible refine wpAny_isSubtype_exc hC2 ?_; rw [sC]) | wp_step)
  show wpAny _ _ (typeLookup (.ref C) _) _ _ _
  refine (hi.keeps up).at (wpAny_holding (wpAny_bind (((hb (.ref (h.objs.size + 1))).keeps up).at ?_)))
  refine wpAny_bind (wpAny_call (codeAny_mono k fun r s' z => ?_))
  rcases r with e | (v | _ | _ | _) <;> first | exact z | exact z.elim | skip
  obtain ⟨rfl, z⟩ := z
  first | exact wpAny_pure (wpAny_pure z) | (wp_walk; exact z)
theorem checkK_type {M : Model} {Q : Unit → Shared → Prop} (hC : h.get? C = some (excClassObj nm q C N bs bm hdct sn sub ab col dd k0 k1 k2 k3 k5 newId)) (k : Q () ⟨h, g, d, t, os⟩) :
    wpAny M A (checkBuiltinCall "type.__call__" { pos := .ref C :: rest, kw := kw }) Q E ⟨h, g, d, t, os⟩ := by
  have ts := tc_sub
  have ty : (⟨h, g, d, t, os⟩ : Shared).TypeIs (.ref C) "type" := ⟨_, hC, rfl⟩
  simp only [checkBuiltinCall, tc_split, tc_kind]
  repeat (any_goals (first
    | assumption
    | with_reducible refine wpAny_map ?_
    | with_reducible refine wpAny_onRaise ?_
    | with_reducible refine wpAny_loadPart_at hC ?_
    | wp_step))
theorem callK_own (F : ExcBaseFacts B newId initId bmB) (s : SameTypes bm bmB) (hC : h.get? C = some (excClassObj nm q C N bs bm hdct sn sub ab col dd k0 k1 k2 k3 k5 newId)) (sz : rest.length ≤ sizeLine)
    (hi : W.Looks (model prog w) h (typeLookup (.ref C) "__init__") (some (.ref fI))) (hb : ∀ self, W.Looks (model prog w) h (bindSpecial (.ref fI) self) (.ref fI, [self]))
    (k : codeAny (model prog w) (A.under (.builtin "type.__call__" { pos := .ref C :: rest, kw := kw })) (.call (.ref fI) { pos := .ref (h.objs.size + 1) :: rest, kw := kw }) (W.InitBack (h.objs.size + 1) R)
      ⟨(h.push (W.kdv_tup rest)).push (excO C h.objs.size), g, d, t, os⟩) :
    codeAny (model prog w) A (.call (.ref C) { pos := rest, kw := kw }) R ⟨h, g, d, t, os⟩ := by
  have tl := tc_lookup
  have tb := tc_bind (.ref C)
  have ty : (⟨h, g, d, t, os⟩ : Shared).TypeIs (.ref C) "type" := ⟨_, hC, rfl⟩
  refine codeAny_of_tree ?_
  show wpAny _ _ (callAny (.ref C) _) _ _ _
  repeat (any_goals (first | assumption | with_reducible refine wpAny_loadPart_at hC ?_ | wp_step))
  refine ⟨rfl, codeAny_call_builtin_at (Code.quiet_builtin _ (by decide +kernel)) entry_typeCall (checkK_type hC (typeK_new F s hC sz hi hb (codeAny_mono k fun r s' z => ?_)))⟩
  rcases r with e | (v | _ | _ | _) <;> exact z
end
end KX
end PySem

/-! B20: the class above is asked for its __init__; a refusal made of its field by name, held. -/
namespace KB
open PySem PySem.Spec PySem.Calls PyProof.Rows L2
/-- what a class says, so that C.__init__ is ValueError's -/
structure InitC (K : PySem.W.Frag) (C : Addr) : Prop where
  ga : PySem.W.specialIn K (.ref C) "__getattribute__" = some (some (.builtin "type.__getattribute__"))
  ty : PySem.W.typeIn K (.ref C) = some (.type "type")
  rd : PySem.W.readsIn K C (.type "type") = true
  ini : PySem.W.findCls K (.ref C) (.type "type") "__init__" = some (.val (.builtin "ValueError.__init__"))
theorem hand_init : PySem.W.handedIn (.builtin "ValueError.__init__") = true := by decide +kernel
section
variable {X : Cx} {B C fI : Addr} {x : Str} {e : Expr} {es : List Expr} {ta : TA} {p1 p2 p pos : Pos}
theorem pe_ownInit {pl : Sem Bool} (T : InitC X.K B) (hg : Gl X x) (hm : X.mg x = some (.ref B)) (ha : PA X (e :: es) ta) (hdb : (x == ("__debug__" : Str)) = false := by decide)
    (hc : eval (.Call (.Attribute (.Name x p1) "__init__" p2) (e :: es) [] pos) X.env = (do
      let o ← eval (.Name x p1) X.env
      standAt p2.atName
      let (f, fs) ← holding [o] (getMethod o "__init__" pl)
      callWith pos f fs (backTo pos (starEach (e :: es) X.env)) (backToKw pos (keywordEach [] X.env))) := by rfl)
    (he : starEach (e :: es) X.env = (false, eval e X.env) :: starEach es X.env := by rfl) (hpl : (backTo pos (starEach es X.env)).any (·.1) = false := by rfl) :
    PE X (.Call (.Attribute (.Name x p1) "__init__" p2) (e :: es) [] pos) (tVeI X.K ta) := by
  refine ⟨fun pins s σ H Q I h => PySem.W.methodCall_KW (ld_glob I hg hm ?_ hdb) hc⟩
  obtain ⟨m, fr⟩ := I.fr
  refine PySem.W.method_of_cls fr I.ok.mod.kin T.ga (PySem.W.cls_val fr I.ok.mod.kin T.ty T.rd T.ini hand_init ?_)
  show wpAny _ _ (callWith pos (Value.builtin "ValueError.__init__") [] (backTo pos (starEach (e :: es) X.env)) []) _ _ _
  refine PyProof.Rows.callWith_method1 (thn (ha.run pos pins _ σ H _ (I.tok _) h) fun us s1 hh => ?_) he hpl
  obtain ⟨vs, H1, I1, rv, a, C, ws, rfl, sz, O, ea, k⟩ := hh
  cases rv with
  | @cons _ u _ ur ru rw =>
    obtain rfl : u = Value.ref a := ru
    refine oinit_ok O I1 ea ?_ fun s2 J => ⟨.non, H1, J, rfl, k⟩
    rw [← Paired.length rw, sizeLine_eq]
    omega
/-- C(k = v, ..), C's own __init__ keeping sp -/
def tMkK (C : Addr) (sp : Sp) (gV : List V → List V → List V) (tk : TA) : L2.St → Hp → XK → Prop := fun σ H Q => tk σ H fun zs H1 => ∀ a, H1 a = none → sp (gV [.ref a] zs) (upd H1 a (exo a C none))
  (fun v H2 => v = .non ∧ ∃ (d : Addr) (fs : List (Str × V)), H2 a = some (exo a C (some d)) ∧ H2 d = some (exd d fs) ∧ H1 d = none ∧ Q (.ref C) (some d) (upd (del H2 a) d (.xd fs))) (fun _ _ _ => False)
theorem pmk_oexK {CX : CXT} {k : Nat} {fd : FuncData} {ps ks : List Str} {g : List Value → List Value → List Value} {gV : List V → List V → List V} {sp : Sp} {kws : List Keyword} {tk : TA} (T : OexC X.K C)
    (iC : PySem.W.findIn X.K (.ref C) "__init__" = some (some (.ref fI))) (tI : PySem.W.typeIn X.K (.ref fI) = some (.type "function")) (F1 : FnOk X.prog X.w X.K X.mg X.base CX k fI fd ps sp) (hr : Room (k + 1) X.A)
    (hb : KBinds X.K fd ps ks g gV) (hx : Passes CX X (fun _ _ _ => False)) (hg : Gl X x) (hm : X.mg x = some (.ref C)) (hkw : PK X kws tk) (hdb : (x == ("__debug__" : Str)) = false := by decide)
    (hall : (backToKw pos (keywordEach kws X.env)).all (·.1.isSome) = true := by rfl) (hks : (backToKw pos (keywordEach kws X.env)).filterMap (·.1) = ks := by rfl)
    (hpl : ((backTo pos (starEach [] X.env)).any (·.1) || (backToKw pos (keywordEach kws X.env)).any (·.1.isNone)) = false := by rfl) : PMk X (.Call (.Name x p) [] kws pos) (tMkK C sp gV tk) := by
  intro pins s σ H Q I h
  obtain ⟨nm, q, N, bs, bm, sn, sub, ab, col, dd, k0, k1, k2, k3, k5, hC, hbm⟩ := T.cls
  refine wpAny_Call_Name_kw (ld_glob I hg hm (PySem.W.callWith_KW0 (h₀ := X.base) I.ok.mod.kin T.kC hall (thn (hkw.run pos pins s σ H _ I h) fun ws s1 hh => ⟨?_, ?_⟩) hpl) hdb)
  · obtain ⟨zs, H1, I1, rz, q1⟩ := hh
    exact I1.kIn
  obtain ⟨zs, H1, I1, rz, q1⟩ := hh
  rw [hks]
  obtain ⟨hp, g0, dr, tk0, os⟩ := s1
  have up : ∀ b o, hp.get? b = some o → ((hp.push (PySem.W.kdv_tup [])).push (PySem.HandSPX.excO C hp.objs.size)).get? b = some o := fun b o e => Heap.get?_push_of_some _ (Heap.get?_push_of_some _ e)
  have at_ : ((hp.push (PySem.W.kdv_tup [])).push (PySem.HandSPX.excO C hp.objs.size)).get? (hp.objs.size + 1) = some (PySem.HandSPX.excO C hp.objs.size) := by heap_get
  have new : H1 (hp.objs.size + 1) = none := I1.hok.fresh (Nat.le_succ _)
  have I2 : Inv X pins σ (upd H1 (hp.objs.size + 1) (exo (hp.objs.size + 1) C none)) ⟨(hp.push (PySem.W.kdv_tup [])).push (PySem.HandSPX.excO C hp.objs.size), g0, dr, tk0, os⟩ := I1.laid up (Nat.le_succ _) (exo_ok at_)
  have q2 := q1 _ new
  have r2 : Vals (gV [V.ref (hp.objs.size + 1)] zs) (g [Value.ref (hp.objs.size + 1)] ws) := hb.rel (.cons rfl .nil) rz
  have len : (g [Value.ref (hp.objs.size + 1)] ws).length = ps.length := by rw [← r2.length]; exact F1.len _ _ _ _ q2
  refine wpAny_call (PySem.KX.callK_own F.excBase_ValueError (fun Y => PySem.HandSPX.refsVE_contains Y bm hbm) (I1.kIn _ _ hC) (Nat.zero_le _) (PySem.W.looks_findIn I1.kIn iC) (fun self => PySem.W.bind_fn I1.kIn self tI) ?_)
  refine codeAny_mono (F1.run _ X.stack _ _ ⟨[.ref (hp.objs.size + 1)], ks.zip ws⟩ _ _ _ (fun _ _ _ => False) (hr.make C [] (ks.zip ws)) (I2.env0.make C [] (ks.zip ws)) (hb.to _ [.ref (hp.objs.size + 1)] ws I2.kIn len) r2 q2) fun r s2 z => ?_
  cases r with
  | error er => exact hx pins σ _ _ er s2 I2 z
  | ok fl =>
    cases fl with
    | next => exact z.elim
    | brk => exact z.elim
    | cont => exact z.elim
    | ret u =>
      obtain ⟨v, H2, os2, bare2, un2, hok2, rv, ev, d, fs, ea, ed, hd1, q3⟩ := z
      subst ev
      obtain ⟨h2, g2, d2, t2, o2⟩ := s2
      exact ⟨rv, mk_end (raises_own T.exC T.tyC) I1 (Nat.le_succ _) up un2 hok2 os2 bare2 ea ed hd1 q3⟩
end
end KB

/-! B21: truths of a list counted. -/
namespace KB
open PySem PySem.Spec PyProof.Rows L2 PySem.SeqAt
def isBl (c : Bool) (v : Value) : Bool := match v with
  | .bool b => b == c
  | _ => false
theorem isBl_at {A : Around} {s : Shared} {c : Bool} : ∀ {bs : List Bool} {us : List Value}, Vals (bs.map V.bl) us → ∀ y ∈ us, EqAt A s y (.bool c) (isBl c y)
  | [], us, r, y, hy => by
    rw [List.map_nil] at r
    cases r
    cases hy
  | b :: bs, us, r, y, hy => by
    rw [List.map_cons] at r
    cases r with
    | @cons _ u _ ur ru rr =>
      rcases List.mem_cons.mp hy with e | e
      · obtain rfl : u = Value.bool b := ru
        rw [e]
        exact EqAt.bool_bool b c
      · exact isBl_at rr y e
theorem isBl_count {c : Bool} : ∀ {bs : List Bool} {us : List Value}, Vals (bs.map V.bl) us → us.countP (isBl c) = bs.count c
  | [], us, r => by
    rw [List.map_nil] at r
    cases r
    rfl
  | b :: bs, us, r => by
    rw [List.map_cons] at r
    cases r with
    | @cons _ u _ ur ru rr =>
      obtain rfl : u = Value.bool b := ru
      rw [List.countP_cons, List.count_cons, isBl_count rr] <;> rfl
def rCntB (K : PySem.W.Frag) : V → List V → Hp → VK → Prop := fun x xs H Q => ∃ (p : Addr) (bs : List Bool) (c : Bool), x = .ref p ∧ xs = [.bl c] ∧ SqL K H p (bs.map V.bl) ∧ Q (.int (bs.count c : Nat)) H
theorem mt_lcountB {X : Cx} : MtR X "list.count" (rCntB X.K) := by
  intro pins s σ H x xs v us Q I rx rxs h
  obtain ⟨p, bs, c, rfl, rfl, hs, q⟩ := h
  cases rx
  obtain ⟨u, rfl, ru⟩ := rxs.one
  obtain rfl : u = Value.bool c := ru
  obtain ⟨its, rv, ⟨⟨cls, dd, data, sl⟩, n, ho, hc, hdn, hd⟩, _⟩ := I.list hs
  simp only at hc hd
  subst hc hd
  have cnt : its.toArray.toList.countP (isBl c) = bs.count c := isBl_count rv
  refine call_meets PySem.F.slot_list_count ⟨_, ho, rfl⟩ PySem.F.entry_list_count (PySem.F.args_list_count_2 _ _) (SeqAt.list_countAt p its.toArray n dd sl (.bool c) (isBl c)) ?_
  refine ⟨ho, fun y hy => isBl_at rv y (by simpa using hy), .int (bs.count c : Nat), H, I.tok _, ⟨s.toks, ?_⟩, q⟩
  rw [cnt]
end KB

namespace KW
open PySem PySem.Spec PyProof.Rows L2 KB
def top (i : Nat) : Stmt := PySem.Challenge.pw_kindswap_k16_refusals_apart.main.body.getD i (.Pass ⟨0, 0, 0, 0⟩)
/-- the first def of a class -/
def firstDef (s : Stmt) : Stmt := match s with
  | .ClassDef _ _ _ b _ _ _ _ _ _ _ => b.getD 0 (.Pass ⟨0, 0, 0, 0⟩)
  | _ => .Pass ⟨0, 0, 0, 0⟩
abbrev s_init : Stmt := firstDef (top 10)
theorem sc_init : FnScope ["self", "apart"] ["self", "apart"] (defScope s_init) := ⟨rfl, rfl, rfl, by decide +kernel, rfl, by decide +kernel, by decide +kernel⟩
structure Txt (K : PySem.W.Frag) (mg : Str → Option Value) (w : World) (CN CT : Addr) : Prop where
  z_len : mg "len" = none
  z_int : mg "int" = none
  z_min : mg "min" = none
  z_max : mg "max" = none
  z_range : mg "range" = none
  z_enumerate : mg "enumerate" = none
  z_isinstance : mg "isinstance" = none
  z_ValueError : mg "ValueError" = none
/-- the classes in the order in which they are made; the one above them behind -/
structure Refs (K : PySem.W.Frag) (mg : Str → Option Value) (w : World) (C : Nat → Addr) : Prop extends Txt K mg w (C 11) (C 10) where
  e_NoText : ExcF K mg "NoText" (C 0)
  e_NoKind : ExcF K mg "NoKind" (C 1)
  e_NoForm : ExcF K mg "NoForm" (C 2)
  e_NoSizes : ExcF K mg "NoSizes" (C 3)
  e_TooMany : ExcF K mg "TooMany" (C 4)
  e_NoDivisor : ExcF K mg "NoDivisor" (C 5)
  e_NoWorth : ExcF K mg "NoWorth" (C 6)
  e_NoTerm : ExcF K mg "NoTerm" (C 7)
  e_NoLibrary : ExcF K mg "NoLibrary" (C 8)
  e_NoName : ExcF K mg "NoName" (C 9)
  g_Unlike : mg "Unlike" = some (.ref (C 10))
  g_SwapError : mg "SwapError" = some (.ref (C 11))
  x : ∀ i, i < 11 → ExcC K (C i)
  k : ∀ i j, i < 11 → j < 11 → PySem.W.kitOne K (.ref (C i)) (.ref (C j)) = some (decide (i = j))
  kS : ∀ i, i < 11 → PySem.W.kitOne K (.ref (C i)) (.ref (C 11)) = some true
  kV : ∀ i, i < 11 → PySem.W.kitOne K (.ref (C i)) (.type "ValueError") = some true
  o : OexC K (C 10)
  xf : XfC K (C 10)
  no : PySem.W.findIn K (.ref (C 10)) "apart" = some none
  top : InitC K (C 11)
  ini : ∃ fI fd, Fun K "__init__" "Unlike.__init__" s_init fI fd ∧ PySem.W.findIn K (.ref (C 10)) "__init__" = some (some (.ref fI)) ∧ PySem.W.typeIn K (.ref fI) = some (.type "function")
namespace Refs
variable {K : PySem.W.Frag} {mg : Str → Option Value} {w : World} {C : Nat → Addr} (T : Refs K mg w C)
include T
theorem g_NoText : mg "NoText" = some (.ref (C 0)) := T.e_NoText.g
theorem g_NoKind : mg "NoKind" = some (.ref (C 1)) := T.e_NoKind.g
theorem g_NoForm : mg "NoForm" = some (.ref (C 2)) := T.e_NoForm.g
theorem g_NoSizes : mg "NoSizes" = some (.ref (C 3)) := T.e_NoSizes.g
theorem g_TooMany : mg "TooMany" = some (.ref (C 4)) := T.e_TooMany.g
theorem g_NoDivisor : mg "NoDivisor" = some (.ref (C 5)) := T.e_NoDivisor.g
theorem g_NoWorth : mg "NoWorth" = some (.ref (C 6)) := T.e_NoWorth.g
theorem g_NoTerm : mg "NoTerm" = some (.ref (C 7)) := T.e_NoTerm.g
theorem g_NoLibrary : mg "NoLibrary" = some (.ref (C 8)) := T.e_NoLibrary.g
theorem g_NoName : mg "NoName" = some (.ref (C 9)) := T.e_NoName.g
end Refs

/-! ## draws of the laws that keep a state: one cell at first, then three numbers -/
def Well (H : Hp) (w : Addr) : Prop := ∃ xs : List V, H w = some (.lst xs) ∧ ((∃ c : Int, xs = [.int c]) ∨ ∃ x y z : Int, xs = [.int x, .int y, .int z])
/-- what a draw leaves: all but the state, and that one -/
structure Aft (w : Addr) (H H' : Hp) : Prop where
  well : Well H' w
  but : Same (out w H) (out w H')
theorem Aft.refl {w : Addr} {H : Hp} (h : Well H w) : Aft w H H := ⟨h, Same.refl _⟩
theorem Aft.trans {w : Addr} {H H1 H2 : Hp} (a : Aft w H H1) (b : Aft w H1 H2) : Aft w H H2 := ⟨b.well, a.but.trans b.but⟩
theorem Well.same {w : Addr} {H H' : Hp} (h : Well H w) (s : Same H H') : Well H' w := by
  obtain ⟨xs, e, r⟩ := h
  exact ⟨xs, s _ _ e, r⟩
theorem Well.new {w p : Addr} {H : Hp} (h : Well H w) (n : H p = none) (o : HO) : Well (upd H p o) w := h.same (same_new n o)
theorem Aft.new {w p : Addr} {H H' : Hp} (a : Aft w H H') (n : H' p = none) (o : HO) : Aft w H (upd H' p o) := ⟨a.well.new n o, a.but.trans (out_new n o)⟩
theorem Aft.same {w : Addr} {H H1 H2 : Hp} (a : Aft w H H1) (s : Same H1 H2) : Aft w H H2 := ⟨a.well.same s, a.but.trans (out_same s)⟩
theorem Aft.at_ {w p : Addr} {H H' : Hp} {o : HO} (a : Aft w H H') (n : p ≠ w) (h : H p = some o) : H' p = some o := (out_some (a.but p o (out_at n h))).2
theorem Well.ne {w p : Addr} {H : Hp} (h : Well H w) (n : H p = none) : p ≠ w := by
  obtain ⟨xs, e, _⟩ := h
  exact (ne_of_none e n).symm
theorem Well.laid {w p : Addr} {H : Hp} (h : Well H w) (n : H p = none) (o : HO) : out w (upd H p o) p = some o := out_at (h.ne n) upd_same
def spCell (K : PySem.W.Frag) : Sp := fun vs H Q _ => ∃ (a : Addr) (ns : List Int) (k : Int), vs = [.ref a, .int k] ∧ SqL K H a (ns.map V.int) ∧ 0 ≤ k ∧ ∀ c, Q (.int c) H
def spDigit : Sp := fun vs H Q _ => ∃ (w : Addr) (n : Int), vs = [.ref w, .int n] ∧ Well H w ∧ 0 < n ∧ n < 1073741824 ∧ ∀ (d : Int) (H' : Hp), 0 ≤ d → d < n → Aft w H H' → Q (.int d) H'
abbrev s_law_cell_at : Stmt := top 14
theorem sc_law_cell_at : FnScope ["script", "k"] ["script", "k"] (defScope s_law_cell_at) := ⟨rfl, rfl, rfl, by decide +kernel, rfl, by decide +kernel, by decide +kernel⟩
abbrev s_law_digit : Stmt := top 15
theorem sc_law_digit : FnScope ["state", "base", "cell", "found", "number"] ["state", "base"] (defScope s_law_digit) := ⟨rfl, rfl, rfl, by decide +kernel, rfl, by decide +kernel, by decide +kernel⟩
theorem Three.ix0 {K : PySem.W.Frag} {w : Addr} {H : Hp} {W : World} {Q : VK} {x y z : Int} (e : H w = some (.lst [.int x, .int y, .int z])) (q : Q (.int x) H) : rIxB K W (.ref w) (.int 0) H Q := .inl (.inl ⟨w, _, 0, _, rfl, rfl, .of e, rfl, q⟩)
theorem Three.ix1 {K : PySem.W.Frag} {w : Addr} {H : Hp} {W : World} {Q : VK} {x y z : Int} (e : H w = some (.lst [.int x, .int y, .int z])) (q : Q (.int y) H) : rIxB K W (.ref w) (.int 1) H Q := .inl (.inl ⟨w, _, 1, _, rfl, rfl, .of e, rfl, q⟩)
theorem Three.ix2 {K : PySem.W.Frag} {w : Addr} {H : Hp} {W : World} {Q : VK} {x y z : Int} (e : H w = some (.lst [.int x, .int y, .int z])) (q : Q (.int z) H) : rIxB K W (.ref w) (.int 2) H Q := .inl (.inl ⟨w, _, 2, _, rfl, rfl, .of e, rfl, q⟩)
section
variable {P : Program} {w : World} {K : PySem.W.Frag} {mg : Str → Option Value} {base : Heap} {CN CT : Addr}
theorem ok_cell_at (A : At K mg "_law_cell_at" s_law_cell_at) (T : Txt K mg w CN CT) : Cal P w K mg base CX0 1 "_law_cell_at" ["script", "k"] (spCell K) := by
  obtain ⟨f, fd, F, m⟩ := A
  refine ⟨f, fd, F.ok sc_law_cell_at (fun vs H Q E h => ?_) (fun cdv A outer s H vs Q E hr h => ?_), F.binds (ps := ["script", "k"]) (fun _ _ _ _ _ _ us hl => match us, hl with | [_, _], _ => rfl), F.kp, m⟩
  · obtain ⟨a, ns, k, rfl, _⟩ := h; rfl
  obtain ⟨a, ns, k, rfl, hS, h0, q⟩ := h
  refine ⟨_, (pss_cons (ps_if (pt_cmpR op_lt (pv 1) (pe_callB call_len (by rfl) T.z_len (by decide +kernel) (pa_cons (pv 0) pa_nil)) (nomark _))
   (pss_one (ps_ret (pe_ix ix_B (pv 0) (pv 1) (fun _ _ => rfl))))
   pss_nil)
  (pss_one (ps_ret pe_int))), ?_⟩
  refine ⟨_, rfl, _, rfl, _, _, rfl, .inl ⟨_, hS, rfl⟩, _, _, rfl, rfl, _, rfl, ?_⟩
  rw [List.length_map]
  refine ite2 (fun c => ?_) (fun c => ?_)
  · have c' : k < (ns.length : Int) := of_decide_eq_true c
    obtain ⟨j, rfl⟩ := Int.eq_ofNat_of_zero_le h0
    have hj : j < ns.length := by omega
    refine ⟨_, rfl, _, rfl, .inl (.inl ⟨a, _, _, .int ns[j], rfl, rfl, hS, atI_nat (by rw [List.getElem?_map, List.getElem?_eq_getElem hj]; rfl), q _⟩)⟩
  · exact q 0
theorem digit_tail {f : Addr} {cdv : Value} {A : Around} {outer : List Env} {s : Shared} {H : Hp} {Q : VK} {E : XK} (T : Txt K mg w CN CT) (hr : Room 0 (A.deeper (envOfC "_law_digit" (defScope s_law_digit) s.heap.objs.size f cdv))) {wl : Addr} {n : Int} (n0 : 0 < n) (n1 : n < 1073741824)
    (q : ∀ (d : Int) (H' : Hp), 0 ≤ d → d < n → Aft wl H H' → Q (.int d) H') :
    ∃ t, PSs (cxOf CX0 P w K mg base ["state", "base", "cell", "found", "number"] "_law_digit" (defScope s_law_digit) f cdv A outer s H E).nox ((defBody s_law_digit).drop 1) t ∧
      ∀ (H0 : Hp) (o : Option V) (x y z : Int), Same (out wl H) (out wl H0) → H0 wl = some (.lst [.int x, .int y, .int z]) → t { nx := fun _ H' => Q .non H', rt := Q } [some (.ref wl), some (.int n), o, none, none] H0 := by
  refine ⟨_, (pss_cons (ps_if (pt_cmpR op_gt (pe_ix ix_B (pv 0) pe_int (fun _ _ => rfl)) pe_int (nomark _))
   (pss_cons (ps_set (i := 3) sc_law_digit.nd rfl (by first | exact Or.inl rfl | exact Or.inr rfl) (pe_op op_mod (pe_ix ix_B (pv 0) pe_int (fun _ _ => rfl)) (pv 1)))
  (pss_cons (ps_asg (pe_op op_fdiv (pe_ix ix_B (pv 0) pe_int (fun _ _ => rfl)) (pv 1)) (pg_sub (pv 0) pe_int set_list))
  (pss_one (ps_ret (pv 3)))))
   pss_nil)
  (pss_cons (ps_asg (pe_op op_addA (pe_ix ix_B (pv 0) pe_int (fun _ _ => rfl)) pe_int) (pg_sub (pv 0) pe_int set_list))
  (pss_cons (ps_set (i := 4) sc_law_digit.nd rfl (by first | exact Or.inl rfl | exact Or.inr rfl) (pe_op op_mod (pe_op op_mulA (pe_op op_addA (pe_op op_addA (pe_ix ix_B (pv 0) pe_int (fun _ _ => rfl)) (pe_op op_mulA pe_int (pe_ix ix_B (pv 0) pe_int (fun _ _ => rfl)))) pe_int) pe_int) pe_int))
  (pss_cons (ps_set (i := 4) sc_law_digit.nd rfl (by first | exact Or.inl rfl | exact Or.inr rfl) (pe_op op_mod (pe_op op_mulA (pv 4) (pe_op op_addA (pe_op op_fdiv (pv 4) pe_int) pe_int)) pe_int))
  (pss_one (ps_ret (pe_op op_mod (pe_op op_mod (pe_op op_mulA (pv 4) (pe_op op_addA (pe_op op_fdiv (pv 4) pe_int) pe_int)) pe_int) (pv 1)))))))), fun H0 o x y z sm e => ?_⟩
  refine ⟨_, rfl, Three.ix0 e ⟨_, _, rfl, rfl, _, rfl, ?_⟩⟩
  refine ite2 (fun c => ?_) (fun c => ?_)
  · refine ⟨_, rfl, Three.ix0 e ⟨_, rfl, _, _, rfl, rfl, n0, ?_⟩⟩
    refine ⟨_, rfl, Three.ix0 e ⟨_, rfl, _, _, rfl, rfl, ⟨n0, n1⟩, _, rfl, wl, _, 0, 0, rfl, rfl, e, rfl, ?_⟩⟩
    refine ⟨_, rfl, q _ _ (Int.emod_nonneg _ (by omega)) (Int.emod_lt_of_pos _ n0) ⟨⟨_, upd_same, .inr ⟨_, _, _, rfl⟩⟩, sm.trans (out_set _)⟩⟩
  · refine ⟨_, rfl, Three.ix2 e (.inl ⟨_, _, rfl, rfl, _, rfl, wl, _, 2, 2, rfl, rfl, e, rfl, ?_⟩)⟩
    have e1 : upd H0 wl (.lst ([V.int x, V.int y, V.int z].set 2 (.int (z + 1)))) wl = some (.lst [.int x, .int y, .int (z + 1)]) := upd_same
    refine ⟨_, rfl, Three.ix1 e1 ⟨_, rfl, Three.ix2 e1 (.inl ⟨_, _, rfl, rfl, .inl (by decide), .inl ⟨_, _, rfl, rfl, .inl ⟨_, _, rfl, rfl, .inl ⟨_, _, rfl, rfl, .inr (by decide), _, _, rfl, rfl, (by show (0 : Int) < 2147483647; decide), ?_⟩⟩⟩⟩)⟩⟩
    generalize hM : ((y + 7919 * (z + 1) + 1) * 48271) % 2147483647 = M
    have m0 : 0 ≤ M := by rw [← hM]; exact Int.emod_nonneg _ (by decide)
    have m1 : M < 2147483647 := by rw [← hM]; exact Int.emod_lt_of_pos _ (by decide)
    refine ⟨_, rfl, _, rfl, _, _, rfl, rfl, ⟨by decide, by decide⟩, .inl ⟨_, _, rfl, rfl, .inl ⟨_, _, rfl, rfl, .inl ⟨by omega, by omega⟩, _, _, rfl, rfl, (by show (0 : Int) < 2147483647; decide), ?_⟩⟩⟩
    generalize hN : M * (M / 1009 + 69621) % 2147483647 = N
    have k0 : 0 ≤ N := by rw [← hN]; exact Int.emod_nonneg _ (by decide)
    have k1 : N < 2147483647 := by rw [← hN]; exact Int.emod_lt_of_pos _ (by decide)
    refine ⟨_, rfl, _, rfl, _, _, rfl, rfl, ⟨by decide, by decide⟩, .inl ⟨_, _, rfl, rfl, .inl ⟨_, _, rfl, rfl, .inl ⟨by omega, by omega⟩, _, _, rfl, rfl, (by show (0 : Int) < 2147483399; decide), _, rfl, _, _, rfl, rfl, n0, ?_⟩⟩⟩
    exact q _ _ (Int.emod_nonneg _ (by omega)) (Int.emod_lt_of_pos _ n0) ⟨⟨_, e1, .inr ⟨_, _, _, rfl⟩⟩, sm.trans (out_set _)⟩
theorem ok_digit (A : At K mg "_law_digit" s_law_digit) (T : Txt K mg w CN CT) : Cal P w K mg base CX0 1 "_law_digit" ["state", "base"] spDigit := by
  obtain ⟨f, fd, F, m⟩ := A
  refine ⟨f, fd, F.ok sc_law_digit (fun vs H Q E h => ?_) (fun cdv A outer s H vs Q E hr h => ?_), F.binds (ps := ["state", "base"]) (fun _ _ _ _ _ _ us hl => match us, hl with | [_, _], _ => rfl), F.kp, m⟩
  · obtain ⟨w, n, rfl, _⟩ := h; rfl
  obtain ⟨wl, n, rfl, ⟨xs, e, hx⟩, n0, n1, q⟩ := h
  obtain ⟨tt, tp, tr⟩ := digit_tail (P := P) (base := base) (f := f) (cdv := cdv) (A := A) (outer := outer) (s := s) (H := H) (Q := Q) (E := E) T hr n0 n1 q
  refine ⟨_, (pss_cons (ps_if (pt_cmpR (op_eqA (room200 hr)) (pe_callB call_len (by rfl) T.z_len (by decide +kernel) (pa_cons (pv 0) pa_nil)) pe_int (nomark _))
   (pss_cons (ps_set (i := 2) sc_law_digit.nd rfl (by first | exact Or.inl rfl | exact Or.inr rfl) (pe_ix ix_B (pv 0) pe_int (fun _ _ => rfl)))
  (pss_cons (ps_asg (pe_ix ix_B (pe_lst (pa_cons pe_int (pa_cons (pv 2) pa_nil))) (pe_callTy call_int1 (by rfl) T.z_int (by decide +kernel) (pa_cons (pe_cmpR op_ge (pv 2) (pe_op op_pow pe_int pe_int) (nomark _)) pa_nil)) (fun _ _ => rfl)) (pg_sub (pv 0) pe_int set_list))
  (pss_one (ps_expr (pe_bm PySem.F.plainAttrs_list PySem.F.slot_list_extend PySem.F.type_list_extend mt_extend (pv 0) (pa_cons (pe_lst (pa_cons (pe_op op_mod (pv 2) pe_int) (pa_cons pe_int pa_nil))) pa_nil))))))
   pss_nil)
  tp), ?_⟩
  rcases hx with ⟨c, rfl⟩ | ⟨x, y, z, rfl⟩
  · refine ⟨_, rfl, _, _, rfl, .inl ⟨_, .of e, rfl⟩, .inl ⟨rfl, _, rfl, iteT' (decide_eq_true rfl) ?_⟩⟩
    refine ⟨_, rfl, .inl (.inl ⟨wl, _, 0, _, rfl, rfl, .of e, rfl, ?_⟩)⟩
    have pick : ∀ b : Bool, ∃ v : Int, atI [V.int 0, V.int c] (if b = true then 1 else 0) = some (.int v) := fun b => by cases b; exact ⟨0, rfl⟩; exact ⟨c, rfl⟩
    refine ⟨_, rfl, (by show 2 ≤ sizeLine; decide), fun l hl => ?_⟩
    have nlw : wl ≠ l := ne_of_none e hl
    have e2 := (upd_ne (o := .lst [.int 0, .int c]) nlw).trans e
    refine ⟨_, rfl, _, _, rfl, rfl, ⟨by decide, by decide, by decide⟩, _, _, rfl, rfl, .inr ⟨_, rfl, ?_⟩⟩
    refine .inl (.inl ⟨l, _, _, _, rfl, rfl, .of upd_same, (pick _).choose_spec, ?_⟩)
    generalize (pick _).choose = v0
    refine ⟨_, rfl, wl, _, 0, 0, rfl, rfl, e2, rfl, ?_⟩
    have s2 : Same (out wl H) (out wl (upd (upd H l (.lst [.int 0, .int c])) wl (.lst ([V.int c].set 0 (.int v0))))) := (out_new hl _).trans (out_set _)
    have e3 : upd (upd H l (.lst [.int 0, .int c])) wl (.lst ([V.int c].set 0 (.int v0))) wl = some (.lst [.int v0]) := upd_same
    generalize upd (upd H l (.lst [.int 0, .int c])) wl (.lst ([V.int c].set 0 (.int v0))) = H2 at s2 e3 ⊢
    refine ⟨_, rfl, .inl ⟨rfl, _, .of e3⟩, _, rfl, _, _, rfl, rfl, (by show (0 : Int) < 2147483647; decide), (by show 2 ≤ sizeLine; decide), fun l2 hl2 => ?_⟩
    have nl2 : wl ≠ l2 := ne_of_none e3 hl2
    refine ⟨wl, l2, _, _, rfl, rfl, (upd_ne nl2).trans e3, upd_same, (by show 3 ≤ sizeLine; decide), ?_⟩
    exact tr _ _ _ _ _ (s2.trans ((out_new hl2 _).trans (out_set _))) upd_same
  · refine ⟨_, rfl, _, _, rfl, .inl ⟨_, .of e, rfl⟩, .inl ⟨rfl, _, rfl, iteF' (decide_eq_false (by intro z; cases z)) ?_⟩⟩
    exact tr H none x y z (Same.refl _) e
end

/-! ## a refusal with a field is made -/
def spInit (D : Addr) : Sp := fun vs H Q _ => ∃ (a : Addr) (v : V), vs = [.ref a, v] ∧ H a = some (exo a D none) ∧ ∀ d, H d = none → d ≠ a → Q .non (upd (upd H d (exd d [("apart", v)])) a (exo a D (some d)))
section
variable {P : Program} {w : World} {K : PySem.W.Frag} {mg : Str → Option Value} {base : Heap} {C : Nat → Addr}
theorem ok_init (T : Refs K mg w C) : ∃ fI fd, FnOk P w K mg base CX0 1 fI fd ["self", "apart"] (spInit (C 10)) ∧ Fun K "__init__" "Unlike.__init__" s_init fI fd ∧ PySem.W.findIn K (.ref (C 10)) "__init__" = some (some (.ref fI)) ∧ PySem.W.typeIn K (.ref fI) = some (.type "function") := by
  obtain ⟨fI, fd, F, h1, h2⟩ := T.ini
  refine ⟨fI, fd, F.ok sc_init (fun vs H Q E h => ?_) (fun cdv A outer s H vs Q E hr h => ?_), F, h1, h2⟩
  · obtain ⟨a, v, rfl, _⟩ := h; rfl
  obtain ⟨a, v, rfl, e, q⟩ := h
  refine ⟨_, (pss_cons (ps_expr (pe_ownInit T.top (by rfl) T.g_SwapError (pa_cons (pv 0) (pa_cons pe_str pa_nil)))) (pss_one (ps_ost (pv 0) (pv 1)))), ?_⟩
  exact ⟨_, rfl, a, C 10, _, rfl, (by show 1 ≤ 1000; decide), T.o, e, _, rfl, _, rfl, a, C 10, rfl, T.o, T.no, .inl ⟨e, fun d n ne => q d n ne⟩⟩
end

/-! ## all refusals are made -/
theorem err_same {H H' : Hp} {a D : Addr} (e : Err H a D) (s : Same H H') : Err H' a D := by
  obtain ⟨d, e, ed⟩ := e
  refine ⟨d, s _ _ e, fun b hb => ?_⟩
  obtain ⟨fs, eb⟩ := ed b hb
  exact ⟨fs, s _ _ eb⟩
/-- the i-th of them is of the i-th class -/
def Made (C : Nat → Addr) (H : Hp) (as : List Addr) : Prop := ∀ i a, as[i]? = some a → Err H a (C i)
theorem Made.nil {C : Nat → Addr} {H : Hp} : Made C H [] := fun i a h => by rw [List.getElem?_nil] at h; cases h
theorem Made.same {C : Nat → Addr} {H H' : Hp} {as : List Addr} (m : Made C H as) (s : Same H H') : Made C H' as := fun i a h => err_same (m i a h) s
theorem Made.snoc {C : Nat → Addr} {H : Hp} {as : List Addr} {a : Addr} (m : Made C H as) (e : Err H a (C as.length)) : Made C H (as ++ [a]) := fun i b h => by
  by_cases c : i < as.length
  · rw [List.getElem?_append_left c] at h
    exact m i b h
  · rw [List.getElem?_append_right (by omega)] at h
    have z : i - as.length = 0 := by
      cases k : i - as.length with
      | zero => rfl
      | succ n => rw [k] at h; cases h
    rw [z] at h
    cases h
    have ei : i = as.length := by omega
    rw [ei]
    exact e
theorem Made.next {C : Nat → Addr} {H : Hp} {as : List Addr} {a : Addr} (m : Made C H as) (n : H a = none) : Made C (upd H a (ExV (.ref (C as.length)) none a)) (as ++ [a]) :=
  (m.same (same_new n _)).snoc ⟨none, upd_same, fun _ h => by cases h⟩
/-- the heap when one with a field is made: at a within, at b behind -/
def fieldH (H : Hp) (D : Addr) (v : V) (a d b : Addr) : Hp := upd (upd (L2.del (upd (upd (upd H a (exo a D none)) d (exd d [("apart", v)])) a (exo a D (some d))) a) d (.xd [("apart", v)])) b (ExV (.ref D) (some d) b)
theorem field_after {H : Hp} {D : Addr} {v : V} {a d b : Addr} (n : H a = none) (ne : d ≠ a) (nd : H d = none) (nb : upd (L2.del (upd (upd (upd H a (exo a D none)) d (exd d [("apart", v)])) a (exo a D (some d))) a) d (.xd [("apart", v)]) b = none) :
    Same H (fieldH H D v a d b) ∧ fieldH H D v a d b b = some (ExV (.ref D) (some d) b) ∧ fieldH H D v a d b d = some (.xd [("apart", v)]) := by
  refine ⟨?_, upd_same, ?_⟩
  · intro c o e
    have ca : c ≠ a := fun z => by rw [z, n] at e; cases e
    have cd : c ≠ d := fun z => by rw [z, nd] at e; cases e
    have h1 : upd (L2.del (upd (upd (upd H a (exo a D none)) d (exd d [("apart", v)])) a (exo a D (some d))) a) d (.xd [("apart", v)]) c = some o := by
      rw [upd_ne cd, L2.del_ne ca, upd_ne ca, upd_ne cd, upd_ne ca]
      exact e
    have cb : c ≠ b := fun z => by rw [z, nb] at h1; cases h1
    exact (upd_ne cb).trans h1
  · have db : d ≠ b := fun z => by rw [← z, upd_same] at nb; cases nb
    exact (upd_ne db).trans upd_same
def spMade (C : Nat → Addr) : Sp := fun vs H Q _ => ∃ (wd : Str) (v : V), vs = [.str wd, v] ∧ ∀ (l : Addr) (as : List Addr) (H' : Hp), as.length = 11 → Same H H' → H' l = some (.lst (as.map V.ref)) → Made C H' as → Q (.ref l) H'
abbrev s_law_made : Stmt := top 16
theorem sc_law_made : FnScope ["word", "thing", "found"] ["word", "thing"] (defScope s_law_made) := ⟨rfl, rfl, rfl, by decide +kernel, rfl, by decide +kernel, by decide +kernel⟩
section
variable {P : Program} {w : World} {K : PySem.W.Frag} {mg : Str → Option Value} {base : Heap} {C : Nat → Addr}
theorem ok_made (A : At K mg "_law_made" s_law_made) (T : Refs K mg w C) : Cal P w K mg base CX0 3 "_law_made" ["word", "thing"] (spMade C) := by
  obtain ⟨f, fd, F, m⟩ := A
  obtain ⟨fI, fdI, FI, GI, iC, tI⟩ := ok_init (P := P) (base := base) T
  refine ⟨f, fd, F.ok sc_law_made (fun vs H Q E h => ?_) (fun cdv A outer s H vs Q E hr h => ?_), F.binds (ps := ["word", "thing"]) (fun _ _ _ _ _ _ us hl => match us, hl with | [_, _], _ => rfl), F.kp, m⟩
  · obtain ⟨wd, v, rfl, _⟩ := h; rfl
  obtain ⟨wd, v, rfl, q⟩ := h
  have bI : Binds K fdI ["self", "apart"] [] := GI.binds (ps := ["self", "apart"]) (fun _ _ _ _ _ _ us hl => match us, hl with | [_, _], _ => rfl)
  refine ⟨_, (pss_cons (ps_set (i := 2) sc_law_made.nd rfl (by first | exact Or.inl rfl | exact Or.inr rfl) (pe_lst (pa_cons (pe_held (pmk_ownA PySem.F.excBase_ValueError T.e_NoText.q T.e_NoText.g T.e_NoText.k (raises_own T.e_NoText.b T.e_NoText.t) (by rfl) (pa_cons (pv 0) pa_nil))) (pa_cons (pe_held (pmk_ownA PySem.F.excBase_ValueError T.e_NoKind.q T.e_NoKind.g T.e_NoKind.k (raises_own T.e_NoKind.b T.e_NoKind.t) (by rfl) (pa_cons (pv 0) pa_nil))) (pa_cons (pe_held (pmk_ownA PySem.F.excBase_ValueError T.e_NoForm.q T.e_NoForm.g T.e_NoForm.k (raises_own T.e_NoForm.b T.e_NoForm.t) (by rfl) (pa_cons (pv 0) pa_nil))) (pa_cons (pe_held (pmk_ownA PySem.F.excBase_ValueError T.e_NoSizes.q T.e_NoSizes.g T.e_NoSizes.k (raises_own T.e_NoSizes.b T.e_NoSizes.t) (by rfl) (pa_cons (pv 0) pa_nil))) (pa_cons (pe_held (pmk_ownA PySem.F.excBase_ValueError T.e_TooMany.q T.e_TooMany.g T.e_TooMany.k (raises_own T.e_TooMany.b T.e_TooMany.t) (by rfl) (pa_cons (pv 0) pa_nil))) (pa_cons (pe_held (pmk_ownA PySem.F.excBase_ValueError T.e_NoDivisor.q T.e_NoDivisor.g T.e_NoDivisor.k (raises_own T.e_NoDivisor.b T.e_NoDivisor.t) (by rfl) (pa_cons (pv 0) pa_nil))) pa_nil))))))))
  (pss_one (ps_ret (pe_op op_addA (pv 2) (pe_lst (pa_cons (pe_held (pmk_ownA PySem.F.excBase_ValueError T.e_NoWorth.q T.e_NoWorth.g T.e_NoWorth.k (raises_own T.e_NoWorth.b T.e_NoWorth.t) (by rfl) (pa_cons (pv 0) pa_nil))) (pa_cons (pe_held (pmk_ownA PySem.F.excBase_ValueError T.e_NoTerm.q T.e_NoTerm.g T.e_NoTerm.k (raises_own T.e_NoTerm.b T.e_NoTerm.t) (by rfl) (pa_cons (pv 0) pa_nil))) (pa_cons (pe_held (pmk_ownA PySem.F.excBase_ValueError T.e_NoLibrary.q T.e_NoLibrary.g T.e_NoLibrary.k (raises_own T.e_NoLibrary.b T.e_NoLibrary.t) (by rfl) (pa_cons (pv 0) pa_nil))) (pa_cons (pe_held (pmk_ownA PySem.F.excBase_ValueError T.e_NoName.q T.e_NoName.g T.e_NoName.k (raises_own T.e_NoName.b T.e_NoName.t) (by rfl) (pa_cons (pv 0) pa_nil))) (pa_cons (pe_held (pmk_oex T.o iC tI FI (hr.mono (by first | decide | omega)) bI .nil pass0 (by rfl) T.g_Unlike (pa_cons (pv 1) pa_nil))) pa_nil)))))))))), ?_⟩
  have z1 : [V.str wd].length ≤ sizeLine := by show 1 ≤ sizeLine; decide
  refine ⟨_, rfl, z1, fun a0 n0 => ?_⟩
  have s0 := same_new n0 (ExV (.ref (C 0)) none a0)
  have m : Made C (upd H a0 (ExV (.ref (C 0)) none a0)) [a0] := Made.next (as := []) Made.nil n0
  generalize upd H a0 (ExV (.ref (C 0)) none a0) = H0 at s0 m ⊢
  refine ⟨_, rfl, z1, fun a1 n1 => ?_⟩
  have s1 := same_new n1 (ExV (.ref (C 1)) none a1)
  have m : Made C (upd H0 a1 (ExV (.ref (C 1)) none a1)) [a0, a1] := Made.next (as := [a0]) m n1
  generalize upd H0 a1 (ExV (.ref (C 1)) none a1) = H1 at s1 m ⊢
  refine ⟨_, rfl, z1, fun a2 n2 => ?_⟩
  have s2 := same_new n2 (ExV (.ref (C 2)) none a2)
  have m : Made C (upd H1 a2 (ExV (.ref (C 2)) none a2)) [a0, a1, a2] := Made.next (as := [a0, a1]) m n2
  generalize upd H1 a2 (ExV (.ref (C 2)) none a2) = H2 at s2 m ⊢
  refine ⟨_, rfl, z1, fun a3 n3 => ?_⟩
  have s3 := same_new n3 (ExV (.ref (C 3)) none a3)
  have m : Made C (upd H2 a3 (ExV (.ref (C 3)) none a3)) [a0, a1, a2, a3] := Made.next (as := [a0, a1, a2]) m n3
  generalize upd H2 a3 (ExV (.ref (C 3)) none a3) = H3 at s3 m ⊢
  refine ⟨_, rfl, z1, fun a4 n4 => ?_⟩
  have s4 := same_new n4 (ExV (.ref (C 4)) none a4)
  have m : Made C (upd H3 a4 (ExV (.ref (C 4)) none a4)) [a0, a1, a2, a3, a4] := Made.next (as := [a0, a1, a2, a3]) m n4
  generalize upd H3 a4 (ExV (.ref (C 4)) none a4) = H4 at s4 m ⊢
  refine ⟨_, rfl, z1, fun a5 n5 => ?_⟩
  have s5 := same_new n5 (ExV (.ref (C 5)) none a5)
  have m : Made C (upd H4 a5 (ExV (.ref (C 5)) none a5)) [a0, a1, a2, a3, a4, a5] := Made.next (as := [a0, a1, a2, a3, a4]) m n5
  generalize upd H4 a5 (ExV (.ref (C 5)) none a5) = H5 at s5 m ⊢
  refine ⟨(by show 6 ≤ sizeLine; decide), fun p hp => ?_⟩
  have ep : upd H5 p (.lst [.ref a0, .ref a1, .ref a2, .ref a3, .ref a4, .ref a5]) p = some (.lst [.ref a0, .ref a1, .ref a2, .ref a3, .ref a4, .ref a5]) := upd_same
  have sp := same_new hp (.lst [.ref a0, .ref a1, .ref a2, .ref a3, .ref a4, .ref a5])
  have st := s0.trans (s1.trans (s2.trans (s3.trans (s4.trans (s5.trans sp)))))
  have m := m.same sp
  generalize upd H5 p (.lst [.ref a0, .ref a1, .ref a2, .ref a3, .ref a4, .ref a5]) = H6 at ep st m ⊢
  clear sp s0 s1 s2 s3 s4 s5
  refine ⟨_, rfl, ?_⟩
  refine ⟨_, rfl, z1, fun a6 n6 => ?_⟩
  have s6 := same_new n6 (ExV (.ref (C 6)) none a6)
  have m : Made C (upd H6 a6 (ExV (.ref (C 6)) none a6)) [a0, a1, a2, a3, a4, a5, a6] := Made.next (as := [a0, a1, a2, a3, a4, a5]) m n6
  generalize upd H6 a6 (ExV (.ref (C 6)) none a6) = H7 at s6 m ⊢
  refine ⟨_, rfl, z1, fun a7 n7 => ?_⟩
  have s7 := same_new n7 (ExV (.ref (C 7)) none a7)
  have m : Made C (upd H7 a7 (ExV (.ref (C 7)) none a7)) [a0, a1, a2, a3, a4, a5, a6, a7] := Made.next (as := [a0, a1, a2, a3, a4, a5, a6]) m n7
  generalize upd H7 a7 (ExV (.ref (C 7)) none a7) = H8 at s7 m ⊢
  refine ⟨_, rfl, z1, fun a8 n8 => ?_⟩
  have s8 := same_new n8 (ExV (.ref (C 8)) none a8)
  have m : Made C (upd H8 a8 (ExV (.ref (C 8)) none a8)) [a0, a1, a2, a3, a4, a5, a6, a7, a8] := Made.next (as := [a0, a1, a2, a3, a4, a5, a6, a7]) m n8
  generalize upd H8 a8 (ExV (.ref (C 8)) none a8) = H9 at s8 m ⊢
  refine ⟨_, rfl, z1, fun a9 n9 => ?_⟩
  have s9 := same_new n9 (ExV (.ref (C 9)) none a9)
  have m : Made C (upd H9 a9 (ExV (.ref (C 9)) none a9)) [a0, a1, a2, a3, a4, a5, a6, a7, a8, a9] := Made.next (as := [a0, a1, a2, a3, a4, a5, a6, a7, a8]) m n9
  generalize upd H9 a9 (ExV (.ref (C 9)) none a9) = H10 at s9 m ⊢
  refine ⟨_, rfl, (by show 1 ≤ 1000; decide), fun a10 n10 => ⟨a10, v, rfl, upd_same, fun d nd ne => ?_⟩⟩
  have nd' : H10 d = none := by rw [upd_ne ne] at nd; exact nd
  refine ⟨rfl, d, _, upd_same, (upd_ne ne).trans upd_same, nd', fun b nb => ?_⟩
  obtain ⟨s10, e10, d10⟩ := field_after n10 ne nd' nb
  show _
  have m : Made C (fieldH H10 (C 10) v a10 d b) [a0, a1, a2, a3, a4, a5, a6, a7, a8, a9, b] := Made.snoc (as := [a0, a1, a2, a3, a4, a5, a6, a7, a8, a9]) (m.same s10) ⟨some d, e10, fun c hc => by cases hc; exact ⟨_, d10⟩⟩
  unfold fieldH at s10 m
  generalize upd (upd (L2.del (upd (upd (upd H10 a10 (exo a10 (C 10) none)) d (exd d [("apart", v)])) a10 (exo a10 (C 10) (some d))) a10) d (.xd [("apart", v)])) b (ExV (.ref (C 10)) (some d) b) = H11 at s10 m ⊢
  refine ⟨(by show 5 ≤ sizeLine; decide), fun p2 hp2 => ?_⟩
  have sf := same_new hp2 (.lst [.ref a6, .ref a7, .ref a8, .ref a9, .ref b])
  have s6' := s6.trans (s7.trans (s8.trans (s9.trans (s10.trans sf))))
  refine .inr (.inr (.inl ⟨p, p2, _, _, rfl, rfl, s6' _ _ ep, upd_same, (by show 11 ≤ sizeLine; decide), fun l hl => ?_⟩))
  have sl := same_new hl (.lst ([V.ref a0, .ref a1, .ref a2, .ref a3, .ref a4, .ref a5] ++ [.ref a6, .ref a7, .ref a8, .ref a9, .ref b]))
  exact q l [a0, a1, a2, a3, a4, a5, a6, a7, a8, a9, b] _ rfl (st.trans (s6'.trans sl)) upd_same ((m.same sf).same sl)
end

/-! ## of which classes a refusal is -/
def marksOf (i : Nat) : List Bool := [decide (i = 0), decide (i = 1), decide (i = 2), decide (i = 3), decide (i = 4), decide (i = 5), decide (i = 6), decide (i = 7), decide (i = 8), decide (i = 9), decide (i = 10)]
def spMarks (C : Nat → Addr) : Sp := fun vs H Q _ => ∃ (a : Addr) (i : Nat), vs = [.ref a] ∧ i < 11 ∧ Err H a (C i) ∧ ∀ (l : Addr) (H' : Hp), H l = none → Same H H' → H' l = some (.lst ((marksOf i).map V.bl)) → Q (.ref l) H'
abbrev s_law_marks : Stmt := top 17
theorem sc_law_marks : FnScope ["one", "found"] ["one"] (defScope s_law_marks) := ⟨rfl, rfl, rfl, by decide +kernel, rfl, by decide +kernel, by decide +kernel⟩
section
variable {P : Program} {w : World} {K : PySem.W.Frag} {mg : Str → Option Value} {base : Heap} {C : Nat → Addr}
theorem ok_marks (A : At K mg "_law_marks" s_law_marks) (T : Refs K mg w C) : Cal P w K mg base CX0 1 "_law_marks" ["one"] (spMarks C) := by
  obtain ⟨f, fd, F, m⟩ := A
  refine ⟨f, fd, F.ok sc_law_marks (fun vs H Q E h => ?_) (fun cdv A outer s H vs Q E hr h => ?_), F.binds (ps := ["one"]) (fun _ _ _ _ _ _ us hl => match us, hl with | [_], _ => rfl), F.kp, m⟩
  · obtain ⟨a, i, rfl, _⟩ := h; rfl
  obtain ⟨a, i, rfl, hi, er, q⟩ := h
  refine ⟨_, (pss_cons (ps_set (i := 1) sc_law_marks.nd rfl (by first | exact Or.inl rfl | exact Or.inr rfl) (pe_lst (pa_cons (pe_callB call_isX (by rfl) T.z_isinstance (by decide +kernel) (pa_cons (pv 0) (pa_cons (pe_glob (v := .ref (C 0)) (by rfl) T.g_NoText (by exact rfl)) pa_nil))) (pa_cons (pe_callB call_isX (by rfl) T.z_isinstance (by decide +kernel) (pa_cons (pv 0) (pa_cons (pe_glob (v := .ref (C 1)) (by rfl) T.g_NoKind (by exact rfl)) pa_nil))) (pa_cons (pe_callB call_isX (by rfl) T.z_isinstance (by decide +kernel) (pa_cons (pv 0) (pa_cons (pe_glob (v := .ref (C 2)) (by rfl) T.g_NoForm (by exact rfl)) pa_nil))) (pa_cons (pe_callB call_isX (by rfl) T.z_isinstance (by decide +kernel) (pa_cons (pv 0) (pa_cons (pe_glob (v := .ref (C 3)) (by rfl) T.g_NoSizes (by exact rfl)) pa_nil))) pa_nil))))))
  (pss_cons (ps_set (i := 1) sc_law_marks.nd rfl (by first | exact Or.inl rfl | exact Or.inr rfl) (pe_op op_addA (pv 1) (pe_lst (pa_cons (pe_callB call_isX (by rfl) T.z_isinstance (by decide +kernel) (pa_cons (pv 0) (pa_cons (pe_glob (v := .ref (C 4)) (by rfl) T.g_TooMany (by exact rfl)) pa_nil))) (pa_cons (pe_callB call_isX (by rfl) T.z_isinstance (by decide +kernel) (pa_cons (pv 0) (pa_cons (pe_glob (v := .ref (C 5)) (by rfl) T.g_NoDivisor (by exact rfl)) pa_nil))) (pa_cons (pe_callB call_isX (by rfl) T.z_isinstance (by decide +kernel) (pa_cons (pv 0) (pa_cons (pe_glob (v := .ref (C 6)) (by rfl) T.g_NoWorth (by exact rfl)) pa_nil))) pa_nil))))))
  (pss_cons (ps_set (i := 1) sc_law_marks.nd rfl (by first | exact Or.inl rfl | exact Or.inr rfl) (pe_op op_addA (pv 1) (pe_lst (pa_cons (pe_callB call_isX (by rfl) T.z_isinstance (by decide +kernel) (pa_cons (pv 0) (pa_cons (pe_glob (v := .ref (C 7)) (by rfl) T.g_NoTerm (by exact rfl)) pa_nil))) (pa_cons (pe_callB call_isX (by rfl) T.z_isinstance (by decide +kernel) (pa_cons (pv 0) (pa_cons (pe_glob (v := .ref (C 8)) (by rfl) T.g_NoLibrary (by exact rfl)) pa_nil))) (pa_cons (pe_callB call_isX (by rfl) T.z_isinstance (by decide +kernel) (pa_cons (pv 0) (pa_cons (pe_glob (v := .ref (C 9)) (by rfl) T.g_NoName (by exact rfl)) pa_nil))) pa_nil))))))
  (pss_one (ps_ret (pe_op op_addA (pv 1) (pe_lst (pa_cons (pe_callB call_isX (by rfl) T.z_isinstance (by decide +kernel) (pa_cons (pv 0) (pa_cons (pe_glob (v := .ref (C 10)) (by rfl) T.g_Unlike (by exact rfl)) pa_nil))) pa_nil)))))))), ?_⟩
  have cl : ∀ (x : Addr) (u : Value), RelV (.ref x) u → u = .ref x := fun x u r => r
  have x := T.x i hi
  refine ⟨_, rfl, a, C i, _, .ref (C 0), decide (i = 0), rfl, x, er, cl _, T.k i 0 hi (by decide), ?_⟩
  refine ⟨_, rfl, a, C i, _, .ref (C 1), decide (i = 1), rfl, x, er, cl _, T.k i 1 hi (by decide), ?_⟩
  refine ⟨_, rfl, a, C i, _, .ref (C 2), decide (i = 2), rfl, x, er, cl _, T.k i 2 hi (by decide), ?_⟩
  refine ⟨_, rfl, a, C i, _, .ref (C 3), decide (i = 3), rfl, x, er, cl _, T.k i 3 hi (by decide), ?_⟩
  refine ⟨(by show 4 ≤ sizeLine; decide), fun p hp => ?_⟩
  have s1 := same_new hp (.lst [.bl (decide (i = 0)), .bl (decide (i = 1)), .bl (decide (i = 2)), .bl (decide (i = 3))])
  have e1 : upd H p (.lst [.bl (decide (i = 0)), .bl (decide (i = 1)), .bl (decide (i = 2)), .bl (decide (i = 3))]) p = some (.lst [.bl (decide (i = 0)), .bl (decide (i = 1)), .bl (decide (i = 2)), .bl (decide (i = 3))]) := upd_same
  generalize upd H p (.lst [.bl (decide (i = 0)), .bl (decide (i = 1)), .bl (decide (i = 2)), .bl (decide (i = 3))]) = H1 at s1 e1 ⊢
  have er1 := err_same er s1
  refine ⟨_, rfl, ?_⟩
  refine ⟨_, rfl, a, C i, _, .ref (C 4), decide (i = 4), rfl, x, er1, cl _, T.k i 4 hi (by decide), ?_⟩
  refine ⟨_, rfl, a, C i, _, .ref (C 5), decide (i = 5), rfl, x, er1, cl _, T.k i 5 hi (by decide), ?_⟩
  refine ⟨_, rfl, a, C i, _, .ref (C 6), decide (i = 6), rfl, x, er1, cl _, T.k i 6 hi (by decide), ?_⟩
  refine ⟨(by show 3 ≤ sizeLine; decide), fun p2 hp2 => ?_⟩
  have sa := same_new hp2 (.lst [.bl (decide (i = 4)), .bl (decide (i = 5)), .bl (decide (i = 6))])
  refine .inr (.inr (.inl ⟨p, p2, _, _, rfl, rfl, sa _ _ e1, upd_same, (by show 7 ≤ sizeLine; decide), fun l hl => ?_⟩))
  have sb := same_new hl (.lst ([.bl (decide (i = 0)), .bl (decide (i = 1)), .bl (decide (i = 2)), .bl (decide (i = 3))] ++ [.bl (decide (i = 4)), .bl (decide (i = 5)), .bl (decide (i = 6))]))
  have e2 : upd (upd H1 p2 (.lst [.bl (decide (i = 4)), .bl (decide (i = 5)), .bl (decide (i = 6))])) l (.lst ([.bl (decide (i = 0)), .bl (decide (i = 1)), .bl (decide (i = 2)), .bl (decide (i = 3))] ++ [.bl (decide (i = 4)), .bl (decide (i = 5)), .bl (decide (i = 6))])) l = some (.lst [.bl (decide (i = 0)), .bl (decide (i = 1)), .bl (decide (i = 2)), .bl (decide (i = 3)), .bl (decide (i = 4)), .bl (decide (i = 5)), .bl (decide (i = 6))]) := upd_same
  have s2 := s1.trans (sa.trans sb)
  generalize upd (upd H1 p2 (.lst [.bl (decide (i = 4)), .bl (decide (i = 5)), .bl (decide (i = 6))])) l (.lst ([.bl (decide (i = 0)), .bl (decide (i = 1)), .bl (decide (i = 2)), .bl (decide (i = 3))] ++ [.bl (decide (i = 4)), .bl (decide (i = 5)), .bl (decide (i = 6))])) = H2 at s2 e2 ⊢
  clear sa sb s1 e1 er1
  have er2 := err_same er s2
  refine ⟨_, rfl, ?_⟩
  refine ⟨_, rfl, a, C i, _, .ref (C 7), decide (i = 7), rfl, x, er2, cl _, T.k i 7 hi (by decide), ?_⟩
  refine ⟨_, rfl, a, C i, _, .ref (C 8), decide (i = 8), rfl, x, er2, cl _, T.k i 8 hi (by decide), ?_⟩
  refine ⟨_, rfl, a, C i, _, .ref (C 9), decide (i = 9), rfl, x, er2, cl _, T.k i 9 hi (by decide), ?_⟩
  refine ⟨(by show 3 ≤ sizeLine; decide), fun p3 hp3 => ?_⟩
  have sa := same_new hp3 (.lst [.bl (decide (i = 7)), .bl (decide (i = 8)), .bl (decide (i = 9))])
  refine .inr (.inr (.inl ⟨l, p3, _, _, rfl, rfl, sa _ _ e2, upd_same, (by show 10 ≤ sizeLine; decide), fun l2 hl2 => ?_⟩))
  have sb := same_new hl2 (.lst ([.bl (decide (i = 0)), .bl (decide (i = 1)), .bl (decide (i = 2)), .bl (decide (i = 3)), .bl (decide (i = 4)), .bl (decide (i = 5)), .bl (decide (i = 6))] ++ [.bl (decide (i = 7)), .bl (decide (i = 8)), .bl (decide (i = 9))]))
  have e3 : upd (upd H2 p3 (.lst [.bl (decide (i = 7)), .bl (decide (i = 8)), .bl (decide (i = 9))])) l2 (.lst ([.bl (decide (i = 0)), .bl (decide (i = 1)), .bl (decide (i = 2)), .bl (decide (i = 3)), .bl (decide (i = 4)), .bl (decide (i = 5)), .bl (decide (i = 6))] ++ [.bl (decide (i = 7)), .bl (decide (i = 8)), .bl (decide (i = 9))])) l2 = some (.lst [.bl (decide (i = 0)), .bl (decide (i = 1)), .bl (decide (i = 2)), .bl (decide (i = 3)), .bl (decide (i = 4)), .bl (decide (i = 5)), .bl (decide (i = 6)), .bl (decide (i = 7)), .bl (decide (i = 8)), .bl (decide (i = 9))]) := upd_same
  have s3 := s2.trans (sa.trans sb)
  generalize upd (upd H2 p3 (.lst [.bl (decide (i = 7)), .bl (decide (i = 8)), .bl (decide (i = 9))])) l2 (.lst ([.bl (decide (i = 0)), .bl (decide (i = 1)), .bl (decide (i = 2)), .bl (decide (i = 3)), .bl (decide (i = 4)), .bl (decide (i = 5)), .bl (decide (i = 6))] ++ [.bl (decide (i = 7)), .bl (decide (i = 8)), .bl (decide (i = 9))])) = H3 at s3 e3 ⊢
  clear sa sb s2 e2 er2
  have er3 := err_same er s3
  refine ⟨_, rfl, _, rfl, a, C i, _, .ref (C 10), decide (i = 10), rfl, x, er3, cl _, T.k i 10 hi (by decide), ?_⟩
  refine ⟨(by show 1 ≤ sizeLine; decide), fun p4 hp4 => ?_⟩
  have sa := same_new hp4 (.lst [.bl (decide (i = 10))])
  refine .inr (.inr (.inl ⟨l2, p4, _, _, rfl, rfl, sa _ _ e3, upd_same, (by show 11 ≤ sizeLine; decide), fun l3 hl3 => ?_⟩))
  have sb := same_new hl3 (.lst ([.bl (decide (i = 0)), .bl (decide (i = 1)), .bl (decide (i = 2)), .bl (decide (i = 3)), .bl (decide (i = 4)), .bl (decide (i = 5)), .bl (decide (i = 6)), .bl (decide (i = 7)), .bl (decide (i = 8)), .bl (decide (i = 9))] ++ [.bl (decide (i = 10))]))
  have s4 := s3.trans (sa.trans sb)
  exact q l3 _ (by
    cases c : H l3 with
    | none => rfl
    | some o => have z := (s3.trans sa) _ _ c; rw [hl3] at z; cases z) s4 upd_same
end

/-! ## the law -/
def spLaw (K : PySem.W.Frag) : Sp := fun vs H Q _ => ∃ (a : Addr) (ns : List Int), vs = [.ref a] ∧ SqL K H a (ns.map V.int) ∧ ns.length ≤ 63 ∧ ∀ H', Q (.bl true) H'
/-- what is handed in to a refusal: it is as it is, told by == -/
def Thing (K : PySem.W.Frag) (H : Hp) (v : V) : Prop := ∃ td : PyData, Dq K H v td ∧ td.canLay0 = true ∧ td.depth ≤ 50 ∧ PyData.eqv td td = true
theorem Thing.same {K : PySem.W.Frag} {H H' : Hp} {v : V} (t : Thing K H v) (s : Same H H') : Thing K H' v := by
  obtain ⟨td, d, r⟩ := t
  exact ⟨td, d.same s, r⟩
theorem Thing.ne {K : PySem.W.Frag} {H : Hp} {v : V} {Q : VK} (t : Thing K H v) (q : Q (.bl false) H) : rNeA K v v H Q := by
  obtain ⟨td, d, c, dp, e⟩ := t
  refine .inr ⟨td, td, d.dp c, d.dp c, c, c, by omega, ?_⟩
  rw [e]
  exact q
/-- the one argument by its name -/
def byName {α : Type} (us ws : List α) : List α := match us, ws with
  | [u], [w] => [u, w]
  | _, _ => []
theorem kb_init {K : PySem.W.Frag} {f : Addr} {fd : FuncData} (F : Fun K "__init__" "Unlike.__init__" s_init f fd) : KBinds K fd ["self", "apart"] ["apart"] byName byName where
  to := fun s us ws X hl => by
    obtain ⟨oc, od, kV, doc, pm, an, cdv, ct, osl, rfl, lk, hcd⟩ := F.ex
    match us, ws, hl with
    | [u], [w], _ => exact .of_eq rfl
  rel := fun {vs us zs ws} r q => by
    cases r with
    | nil => exact .nil
    | cons r1 r2 =>
      cases r2 with
      | cons _ _ => exact .nil
      | nil =>
        cases q with
        | nil => exact .nil
        | cons q1 q2 =>
          cases q2 with
          | cons _ _ => exact .nil
          | nil => exact .cons r1 (.cons q1 .nil)
theorem marks_count {i : Nat} (hi : i < 11) : (marksOf i).count true = 1 := by
  match i, hi with
  | 0, _ | 1, _ | 2, _ | 3, _ | 4, _ | 5, _ | 6, _ | 7, _ | 8, _ | 9, _ | 10, _ => decide
theorem marks_at {i : Nat} (hi : i < 11) : ((marksOf i).map V.bl)[i]? = some (.bl true) := by
  match i, hi with
  | 0, _ | 1, _ | 2, _ | 3, _ | 4, _ | 5, _ | 6, _ | 7, _ | 8, _ | 9, _ | 10, _ => rfl
abbrev s_law : Stmt := top 18
theorem sc_law : FnScope ["script", "k", "state", "thing", "word", "number", "one", "marks"] ["script"] (defScope s_law) := ⟨rfl, rfl, rfl, by decide +kernel, rfl, by decide +kernel, by decide +kernel⟩
section
variable {P : Program} {w : World} {K : PySem.W.Frag} {mg : Str → Option Value} {base : Heap} {C : Nat → Addr}
theorem ok_law {f : Addr} {fd : FuncData} (F : Fun K "law" "law" s_law f fd) (T : Refs K mg w C) (C_law_cell_at : Cal P w K mg base CX0 1 "_law_cell_at" ["script", "k"] (spCell K)) (C_law_digit : Cal P w K mg base CX0 1 "_law_digit" ["state", "base"] spDigit)
    (C_law_made : Cal P w K mg base CX0 3 "_law_made" ["word", "thing"] (spMade C)) (C_law_marks : Cal P w K mg base CX0 1 "_law_marks" ["one"] (spMarks C)) : FnOk P w K mg base CX0 5 f fd ["script"] (spLaw K) := by
  obtain ⟨fI, fdI, FI, GI, iC, tI⟩ := ok_init (P := P) (base := base) T
  refine F.ok sc_law (fun vs H Q E h => ?_) (fun cdv A outer s H vs Q E hr h => ?_)
  · obtain ⟨a, ns, rfl, _⟩ := h; rfl
  obtain ⟨a, ns, rfl, hS, hl, q⟩ := h
  have bI : Binds K fdI ["self", "apart"] [] := GI.binds (ps := ["self", "apart"]) (fun _ _ _ _ _ _ us hl => match us, hl with | [_, _], _ => rfl)
  have nI := kb_init GI
  refine ⟨_, (pss_cons (ps_for PassesOwn.never rfl (pi_range1 (by rfl) T.z_range (pa_cons (pe_callB (call_max2 rfl) (by rfl) T.z_max (by decide +kernel) (pa_cons pe_int (pa_cons (pe_callB (call_min2 rfl) (by rfl) T.z_min (by decide +kernel) (pa_cons pe_int (pa_cons (pe_callB call_len (by rfl) T.z_len (by decide +kernel) (pa_cons (pv 0) pa_nil)) pa_nil))) pa_nil))) pa_nil)) (pg_name (i := 1) sc_law.nd rfl (by first | exact Or.inl rfl | exact Or.inr rfl))
   (pss_cons (ps_set (i := 2) sc_law.nd rfl (by first | exact Or.inl rfl | exact Or.inr rfl) (pe_lst (pa_cons (pe_op op_addA (pe_calC C_law_cell_at (hr.mono (by first | decide | omega)) pass0 (pa_cons (pv 0) (pa_cons (pv 1) pa_nil))) (pe_op op_mulA pe_int (pv 1))) pa_nil)))
  (pss_cons (ps_set (i := 3) sc_law.nd rfl (by first | exact Or.inl rfl | exact Or.inr rfl) (pe_ix ix_B (pe_lst (pa_cons pe_non (pa_cons (pe_tup (pa_cons (pe_op op_mulA (pe_lst (pa_cons pe_int pa_nil)) pe_int) (pa_cons pe_int pa_nil))) (pa_cons pe_int (pa_cons pe_str (pa_cons (pe_tup pa_nil) (pa_cons (pe_calC C_law_digit (hr.mono (by first | decide | omega)) pass0 (pa_cons (pv 2) (pa_cons pe_int pa_nil))) pa_nil))))))) (pe_calC C_law_digit (hr.mono (by first | decide | omega)) pass0 (pa_cons (pv 2) (pa_cons pe_int pa_nil))) (fun _ _ => rfl)))
  (pss_cons (ps_set (i := 4) sc_law.nd rfl (by first | exact Or.inl rfl | exact Or.inr rfl) (pe_ix ix_B (pe_lst (pa_cons pe_str (pa_cons pe_str (pa_cons pe_str pa_nil)))) (pe_calC C_law_digit (hr.mono (by first | decide | omega)) pass0 (pa_cons (pv 2) (pa_cons pe_int pa_nil))) (fun _ _ => rfl)))
  (pss_cons (ps_for PassesOwn.never rfl (pi_enum (by rfl) T.z_enumerate (pa_cons (pe_calC C_law_made (hr.mono (by first | decide | omega)) pass0 (pa_cons (pv 4) (pa_cons (pv 3) pa_nil))) pa_nil)) (pg_tup (by rfl) (pgs_cons (pg_name (i := 5) sc_law.nd rfl (by first | exact Or.inl rfl | exact Or.inr rfl)) (pgs_cons (pg_name (i := 6) sc_law.nd rfl (by first | exact Or.inl rfl | exact Or.inr rfl)) pgs_nil)))
   (pss_cons (ps_set (i := 7) sc_law.nd rfl (by first | exact Or.inl rfl | exact Or.inr rfl) (pe_calC C_law_marks (hr.mono (by first | decide | omega)) pass0 (pa_cons (pv 6) pa_nil)))
  (pss_cons (ps_if (PW.pt (pw_or (pt_not (pt_val (pe_callB call_isX (by rfl) T.z_isinstance (by decide +kernel) (pa_cons (pv 6) (pa_cons (pe_glob (v := .ref (C 11)) (by rfl) T.g_SwapError (by exact rfl)) pa_nil))))) (pw_or1 (pt_not (pt_val (pe_callB call_isX (by rfl) T.z_isinstance (by decide +kernel) (pa_cons (pv 6) (pa_cons (pe_bltn (v := .ty "ValueError") (by rfl) T.z_ValueError (by decide +kernel) rfl) pa_nil))))))))
   (pss_one (ps_ret pe_bl))
   pss_nil)
  (pss_one (ps_if (PW.pt (pw_or (pt_cmpR (op_neA (room200 hr)) (pe_bm PySem.F.plainAttrs_list PySem.F.slot_list_count PySem.F.type_list_count mt_lcountB (pv 7) (pa_cons pe_bl pa_nil)) pe_int (nomark _)) (pw_or1 (pt_not (pt_truth (pe_ix ix_B (pv 7) (pv 5) (fun _ _ => rfl)) (by intro _; rfl))))))
   (pss_one (ps_ret pe_bl))
   pss_nil)))))
  (pss_one (ps_if (PW.pt (pw_or (pt_cmpR (op_neA (room200 hr)) (pe_xv (pe_held (pmk_oexK T.o iC tI FI (hr.mono (by first | decide | omega)) nI pass0 (by rfl) T.g_Unlike (pk_cons (pv 3) pk_nil)))) (pv 3) (nomark _)) (pw_or1 (pt_cmpR (op_neA (room200 hr)) (pe_xv (pe_held (pmk_oex T.o iC tI FI (hr.mono (by first | decide | omega)) bI .nil pass0 (by rfl) T.g_Unlike (pa_cons (pv 3) pa_nil)))) (pv 3) (nomark _)))))
   (pss_one (ps_ret pe_bl))
   pss_nil)))))))
  (pss_one (ps_ret pe_bl))), ?_⟩
  refine ⟨_, rfl, _, _, rfl, .inl ⟨_, hS, rfl⟩, _, _, rfl, _, _, rfl, ?_⟩
  rw [List.length_map]
  generalize hm : (if (if (ns.length : Int) < 8 then (ns.length : Int) else 8) > 1 then (if (ns.length : Int) < 8 then (ns.length : Int) else 8) else (1 : Int)) = m
  have m0 : 0 ≤ m ∧ m ≤ 8 := by rw [← hm]; split <;> split <;> omega
  clear hm
  refine ⟨_, rfl, by omega, by omega, ?_⟩
  refine for_range (n := m.toNat) (fun _ σ H' => ∃ o1 o2 o3 o4 o5 o6 o7 : Option V, σ = [some (.ref a), o1, o2, o3, o4, o5, o6, o7] ∧ SqL K H' a (ns.map V.int)) ⟨_, _, _, _, _, _, _, rfl, hS⟩ ?_ ?_
  · rintro i σ H0 _ ⟨o1, o2, o3, o4, o5, o6, o7, rfl, hS0⟩
    refine ⟨_, rfl, _, rfl, a, ns, _, rfl, hS0, by omega, fun c => ⟨_, rfl, .inl ⟨_, _, rfl, rfl, .inl (by decide), .inl ⟨_, _, rfl, rfl, (by show 1 ≤ sizeLine; decide), fun wl hwl => ?_⟩⟩⟩⟩
    have ez : upd H0 wl (.lst [.int (c + 61 * (0 + (i : Int)))]) wl = some (.lst [.int (c + 61 * (0 + (i : Int)))]) := upd_same
    have s0 : Same H0 (out wl (upd H0 wl (.lst [.int (c + 61 * (0 + (i : Int)))]))) := same_keepO' hwl
    generalize upd H0 wl (.lst [.int (c + 61 * (0 + (i : Int)))]) = H1 at ez s0 ⊢
    have hSo := L2.Same.seq s0 hS0
    have well1 : Well H1 wl := ⟨_, ez, .inl ⟨_, rfl⟩⟩
    refine ⟨(by show 1 ≤ sizeLine; decide), fun p1 n1 => .inr ⟨p1, 8, _, rfl, rfl, upd_same, by decide, by decide, (by show 8 ≤ sizeLine; decide), fun p2 n2 => ⟨(by show 2 ≤ sizeLine; decide), fun p3 n3 => ⟨Nat.zero_le _, fun p4 n4 => ?_⟩⟩⟩⟩
    have u1 := same_new n1 (.lst [.int 2])
    have u2 := same_new n2 (.lst (List.replicate (8 : Int).toNat [V.int 2]).flatten)
    have u3 := same_new n3 (.tup [.ref p2, .int 7])
    have u4 := same_new n4 (.tup [])
    have st := u1.trans (u2.trans (u3.trans u4))
    have x2 := (u3.trans u4) _ _ (upd_same (H := upd H1 p1 (.lst [.int 2])) (a := p2) (o := .lst (List.replicate (8 : Int).toNat [V.int 2]).flatten))
    have x3 := u4 _ _ (upd_same (H := upd (upd H1 p1 (.lst [.int 2])) p2 (.lst (List.replicate (8 : Int).toNat [V.int 2]).flatten)) (a := p3) (o := .tup [.ref p2, .int 7]))
    have x4 := upd_same (H := upd (upd (upd H1 p1 (.lst [.int 2])) p2 (.lst (List.replicate (8 : Int).toNat [V.int 2]).flatten)) p3 (.tup [.ref p2, .int 7])) (a := p4) (o := .tup [])
    have q2 := (well1.same u1).ne n2
    have q3 := (well1.same (u1.trans u2)).ne n3
    have q4 := (well1.same (u1.trans (u2.trans u3))).ne n4
    generalize upd (upd (upd (upd H1 p1 (.lst [.int 2])) p2 (.lst (List.replicate (8 : Int).toNat [V.int 2]).flatten)) p3 (.tup [.ref p2, .int 7])) p4 (.tup []) = H2 at st x2 x3 x4 ⊢
    clear u1 u2 u3 u4 n1 n2 n3 n4
    have a2 := (Aft.refl well1).same st
    refine ⟨_, rfl, wl, 99, rfl, a2.well, by decide, by decide, fun d9 H3 _ _ a3 => ⟨(by show 6 ≤ sizeLine; decide), fun p5 n5 => ?_⟩⟩
    have a4 := a3.new n5 (.lst [.non, .ref p3, .int 0, .str "apart", .ref p4, .int d9])
    have q5 := a3.well.ne n5
    have x5 := upd_same (H := H3) (a := p5) (o := .lst [.non, .ref p3, .int 0, .str "apart", .ref p4, .int d9])
    generalize upd H3 p5 (.lst [.non, .ref p3, .int 0, .str "apart", .ref p4, .int d9]) = H4 at a4 x5 ⊢
    refine ⟨_, rfl, wl, 6, rfl, a4.well, by decide, by decide, fun d6 H5 g6 l6 a5 => ?_⟩
    have b5 := a4.trans a5
    have y2 := out_at q2 (b5.at_ q2 x2)
    have y3 := out_at q3 (b5.at_ q3 x3)
    have y4 := out_at q4 (b5.at_ q4 x4)
    obtain ⟨v, ev, tv⟩ : ∃ v, atI [V.non, .ref p3, .int 0, .str "apart", .ref p4, .int d9] d6 = some v ∧ Thing K (out wl H5) v := by
      obtain ⟨j, rfl⟩ := Int.eq_ofNat_of_zero_le g6
      have hj : j < 6 := by omega
      have i7 : PyData.eqv (.int 7) (.int 7) = true := by rw [ev_int]; rfl
      have i2 : PyData.eqv (.int 2) (.int 2) = true := by rw [ev_int]; rfl
      match j, hj with
      | 0, _ => exact ⟨_, rfl, .none, .non, rfl, by decide, by simp only [PyData.eqv]⟩
      | 1, _ => exact ⟨_, rfl, .tuple [.list [.int 2, .int 2, .int 2, .int 2, .int 2, .int 2, .int 2, .int 2], .int 7], .tup (.of y3) (.cons (.lst (.of y2) (.cons (.int _) (.cons (.int _) (.cons (.int _) (.cons (.int _) (.cons (.int _) (.cons (.int _) (.cons (.int _) (.cons (.int _) .nil))))))))) (.cons (.int _) .nil)), by simp [PyData.canLay0, PyData.canLayAll0], by simp [PyData.depth, PyData.depthAll], by
          rw [ev_tup, ev_cons, ev_lst, ev_cons, ev_cons, ev_cons, ev_cons, ev_cons, ev_cons, ev_cons, ev_cons, ev_nil, ev_cons, ev_nil, i2, i7]; rfl⟩
      | 2, _ => exact ⟨_, rfl, .int 0, .int _, rfl, by decide, by rw [ev_int]; rfl⟩
      | 3, _ => exact ⟨_, rfl, .str "apart", .str _, by decide +kernel, by decide, by rw [ev_str]; rfl⟩
      | 4, _ => exact ⟨_, rfl, .tuple [], .tup (.of y4) .nil, by simp [PyData.canLay0, PyData.canLayAll0], by simp [PyData.depth, PyData.depthAll], by rw [ev_tup, ev_nil]⟩
      | 5, _ => exact ⟨_, rfl, .int d9, .int _, rfl, by simp [PyData.depth], by rw [ev_int]; exact beq_self_eq_true d9⟩
    refine .inl (.inl ⟨p5, _, d6, v, rfl, rfl, .of (a5.at_ q5 x5), ev, ?_⟩)
    have c5 := a2.trans b5
    clear y2 y3 y4 x2 x3 x4 x5 st
    refine ⟨(by show 3 ≤ sizeLine; decide), fun p6 n6 => ?_⟩
    have c6 := c5.new n6 (.lst [.str "", .str "none", .str "no such thing"])
    have q6 := c5.well.ne n6
    have x6 := upd_same (H := H5) (a := p6) (o := .lst [.str "", .str "none", .str "no such thing"])
    have t6 := tv.same (out_new n6 (.lst [.str "", .str "none", .str "no such thing"]))
    generalize upd H5 p6 (.lst [.str "", .str "none", .str "no such thing"]) = H6 at c6 x6 t6 ⊢
    refine ⟨_, rfl, wl, 3, rfl, c6.well, by decide, by decide, fun d3 H7 g3 l3 a7 => ?_⟩
    obtain ⟨wd, ew⟩ : ∃ wd, atI [V.str "", .str "none", .str "no such thing"] d3 = some (.str wd) := by
      obtain ⟨j, rfl⟩ := Int.eq_ofNat_of_zero_le g3
      have hj : j < 3 := by omega
      match j, hj with
      | 0, _ => exact ⟨_, rfl⟩
      | 1, _ => exact ⟨_, rfl⟩
      | 2, _ => exact ⟨_, rfl⟩
    refine .inl (.inl ⟨p6, _, d3, _, rfl, rfl, .of (a7.at_ q6 x6), ew, ?_⟩)
    have c7 := c6.trans a7
    have t7 : Thing K H7 v := (t6.same a7.but).same (out_sub wl H7)
    have hS7 : SqL K H7 a (ns.map V.int) := L2.Same.seq (out_sub wl H7) (L2.Same.seq c7.but hSo)
    clear t6 tv x6 c6
    refine ⟨_, rfl, _, rfl, wd, v, rfl, fun l as H8 la s8 e8 m8 => ⟨l, _, rfl, .of e8, ?_⟩⟩
    have t8 := t7.same s8
    have hS8 := L2.Same.seq s8 hS7
    refine for_it (walk_enum (xs := as.map V.ref)) (fun _ σ H' => ∃ o5 o6 o7 : Option V, σ = [some (.ref a), some (.int (0 + (i : Int))), some (.ref wl), some v, some (.str wd), o5, o6, o7] ∧ Same H8 H') ⟨_, _, _, rfl, Same.refl _⟩ ?_ ?_ ?_
    · rintro n σ H' _ ⟨_, _, _, rfl, s⟩
      exact .of (s _ _ e8)
    · rintro n x σ H9 H10 hn ⟨_, _, _, rfl, s⟩ ⟨Tt, x1, x2, rfl, nT, rfl, h1, h2⟩
      cases h1
      have hn' : n < 11 := by rw [List.length_map, la] at hn; exact hn
      obtain ⟨an, ha, rfl⟩ : ∃ an, as[n]? = some an ∧ V.ref an = x2 := by
        have z : (as.map V.ref)[n]? = some x2 := h2
        rw [List.getElem?_map] at z
        exact Option.map_eq_some_iff.mp z
      have sT := s.trans (same_new nT (.tup [V.int (n : Nat), V.ref an]))
      refine ⟨Tt, _, rfl, .of upd_same, rfl, _, _, rfl, _, _, rfl, rfl, ?_⟩
      generalize upd H9 Tt (.tup [V.int (n : Nat), V.ref an]) = H10 at sT ⊢
      have er := err_same (m8 n an ha) sT
      refine ⟨_, rfl, an, n, rfl, hn', er, fun l3 H11 _ s11 e11 => ?_⟩
      have er := err_same er s11
      have x := T.x n hn'
      refine ⟨_, rfl, an, C n, _, .ref (C 11), true, rfl, x, er, (fun _ r => r), T.kS n hn', true, rfl, iteF' rfl ?_⟩
      refine ⟨_, rfl, an, C n, _, .type "ValueError", true, rfl, x, er, (fun _ r => r), T.kV n hn', true, rfl, iteF' rfl ?_⟩
      refine ⟨_, rfl, .inl ⟨rfl, _, .of e11⟩, l3, marksOf n, true, rfl, rfl, .of e11, .inl ⟨rfl, _, rfl, iteF' (by rw [marks_count hn']; rfl) ?_⟩⟩
      refine ⟨_, rfl, _, rfl, .inl (.inl ⟨l3, _, (n : Int), _, rfl, rfl, .of e11, atI_nat (marks_at hn'), true, rfl, iteF' rfl ?_⟩)⟩
      exact ⟨_, _, _, rfl, sT.trans s11⟩
    · rintro σ H9 ⟨_, _, _, rfl, s⟩
      have t9 := t8.same s
      have hS9 := L2.Same.seq s hS8
      clear t8 hS8 s m8 e8
      refine ⟨_, rfl, fun a1 n1 => ⟨a1, v, rfl, upd_same, fun d nd ne => ?_⟩⟩
      have nd' : H9 d = none := by rw [upd_ne ne] at nd; exact nd
      refine ⟨rfl, d, _, upd_same, (upd_ne ne).trans upd_same, nd', fun b nb => ?_⟩
      obtain ⟨s10, e10, d10⟩ := field_after n1 ne nd' nb
      unfold fieldH at s10 e10 d10
      generalize upd (upd (L2.del (upd (upd (upd H9 a1 (exo a1 (C 10) none)) d (exd d [("apart", v)])) a1 (exo a1 (C 10) (some d))) a1) d (.xd [("apart", v)])) b (ExV (.ref (C 10)) (some d) b) = H10 at s10 e10 d10 ⊢
      refine ⟨b, C 10, d, _, v, rfl, T.xf, T.no, e10, d10, rfl, _, rfl, (t9.same s10).ne ⟨_, rfl, iteF' rfl ?_⟩⟩
      clear n1 nd ne nd' nb e10 d10
      refine ⟨_, rfl, (by show 1 ≤ 1000; decide), fun a2 n2 => ⟨a2, v, rfl, upd_same, fun d2 nd ne => ?_⟩⟩
      have nd' : H10 d2 = none := by rw [upd_ne ne] at nd; exact nd
      refine ⟨rfl, d2, _, upd_same, (upd_ne ne).trans upd_same, nd', fun b2 nb => ?_⟩
      obtain ⟨s11, e11, d11⟩ := field_after n2 ne nd' nb
      unfold fieldH at s11 e11 d11
      generalize upd (upd (L2.del (upd (upd (upd H10 a2 (exo a2 (C 10) none)) d2 (exd d2 [("apart", v)])) a2 (exo a2 (C 10) (some d2))) a2) d2 (.xd [("apart", v)])) b2 (ExV (.ref (C 10)) (some d2) b2) = H11 at s11 e11 d11 ⊢
      refine ⟨b2, C 10, d2, _, v, rfl, T.xf, T.no, e11, d11, rfl, _, rfl, (t9.same (s10.trans s11)).ne ⟨_, rfl, iteF' rfl ?_⟩⟩
      exact ⟨_, _, _, _, _, _, _, rfl, L2.Same.seq (s10.trans s11) hS9⟩
  · rintro σ H' ⟨o1, o2, o3, o4, o5, o6, o7, rfl, _⟩
    exact q H'
end

/-! ## the end -/
section
variable {K : PySem.W.Frag} {h : Heap} {mg : Str → Option Value} {w : World} {x : Str} {D B fI : Addr}
theorem excC_of (_ : K.In h) (_ : mg x = some (.ref D)) (hg : PySem.W.findIn K (.ref D) "__getattribute__" = some (some (.builtin "BaseException.__getattribute__"))) (hk : PySem.W.findIn K (.ref D) "__getattr__" = some none) (hs : PySem.W.subIn K (.ref D) (.type "BaseException") = some true)
    (hd : PySem.W.hasDictIn K D = true) (ha : PySem.W.findIn K (.ref D) "__class__" = some (some (.builtin "object.__class__"))) (hn : PySem.W.specialIn K (.builtin "object.__class__") "__get__" = some (some (.builtin "getset_descriptor.__get__")))
    (ht : PySem.W.takesIn K (.builtin "object.__class__") = some true) (hm : PySem.W.mroIn K D (.type "object") = some true) : ExcC K D := ⟨hg, hk, hs, hd, ha, hn, ht, hm⟩
theorem oexC_of {nm q : Str} {N : Addr} {bs bm : List Value} {sn : List Str} {sub : List Value} {ab : Bool} {col : Option Bool} {dd : Option Addr} {k0 k1 k2 k3 k5 : Option Value} (_ : K.In h) (_ : mg x = some (.ref D))
    (l : K.lookup D = some (excClassObj nm q D N bs bm true sn sub ab col dd k0 k1 k2 k3 k5 "ValueError.__new__")) (r : PySem.HandSPX.refsVE bm = true) (sa : PySem.W.findIn K (.ref D) "__setattr__" = some (some (.builtin "object.__setattr__")))
    (e : PySem.W.subIn K (.ref D) (.type "BaseException") = some true) (t : PySem.W.typeIn K (.ref D) = some (.type "type")) (k : PySem.W.keepIn K (.ref D) = true) : OexC K D := ⟨⟨nm, q, N, bs, bm, sn, sub, ab, col, dd, k0, k1, k2, k3, k5, l, r⟩, sa, e, t, k⟩
theorem initC_of (_ : K.In h) (_ : mg x = some (.ref B)) (a : PySem.W.specialIn K (.ref B) "__getattribute__" = some (some (.builtin "type.__getattribute__"))) (b : PySem.W.typeIn K (.ref B) = some (.type "type"))
    (c : PySem.W.readsIn K B (.type "type") = true) (d : PySem.W.findCls K (.ref B) (.type "type") "__init__" = some (.val (.builtin "ValueError.__init__"))) : InitC K B := ⟨a, b, c, d⟩
theorem no_of (_ : K.In h) (_ : mg x = some (.ref D)) (e : PySem.W.findIn K (.ref D) "apart" = some none) : PySem.W.findIn K (.ref D) "apart" = some none := e
theorem ini_of {od an : Option Addr} {sl : Array (Option Value)} {oc kV dc pm cd ct : Value} (_ : K.In h) (_ : mg x = some (.ref D)) (i : PySem.W.findIn K (.ref D) "__init__" = some (some (.ref fI)))
    (l : K.lookup fI = some ⟨oc, od, .func (PySem.W.fnOf "__init__" "Unlike.__init__" (defArgs s_init) (defBody s_init) (defScope s_init) .none kV dc pm an cd ct), sl⟩) (c : PySem.W.codeIn K cd "Unlike.__init__" = true) (k : PySem.W.keepIn K (.ref fI) = true) (t : PySem.W.typeIn K (.ref fI) = some (.type "function")) :
    ∃ fI fd, Fun K "__init__" "Unlike.__init__" s_init fI fd ∧ PySem.W.findIn K (.ref D) "__init__" = some (some (.ref fI)) ∧ PySem.W.typeIn K (.ref fI) = some (.type "function") := ⟨fI, _, fun_mk (st := s_init) l c k, i, t⟩
theorem xf_of (x : ExcC K D) : XfC K D := ⟨x.hg, x.hk, x.hs, x.hd⟩
theorem txt_of (w : World) {A : Addr} (_ : K.In h) (_ : mg "SwapError" = some (.ref A)) (_ : mg "Unlike" = some (.ref B)) (h1 : mg "len" = none) (h2 : mg "int" = none) (h3 : mg "min" = none) (h4 : mg "max" = none) (h5 : mg "range" = none) (h6 : mg "enumerate" = none) (h7 : mg "isinstance" = none) (h8 : mg "ValueError" = none) :
    Txt K mg w A B := ⟨h1, h2, h3, h4, h5, h6, h7, h8⟩
def nth (cs : List Addr) (n : Nat) : Addr := cs.getD n 0
/-- each of them is of its own class alone -/
def kitsB (K : PySem.W.Frag) (cs : List Addr) : Bool := (List.range 11).all fun i => (List.range 11).all fun j => PySem.W.kitOne K (.ref (nth cs i)) (.ref (nth cs j)) == some (decide (i = j))
/-- each is of the class c -/
def kitB (K : PySem.W.Frag) (cs : List Addr) (c : Value) : Bool := (List.range 11).all fun i => PySem.W.kitOne K (.ref (nth cs i)) c == some true
theorem kits_ok {cs : List Addr} (h : kitsB K cs = true) (i j : Nat) (hi : i < 11) (hj : j < 11) : PySem.W.kitOne K (.ref (nth cs i)) (.ref (nth cs j)) = some (decide (i = j)) :=
  eq_of_beq (List.all_eq_true.mp (List.all_eq_true.mp h i (List.mem_range.mpr hi)) j (List.mem_range.mpr hj))
theorem kit_ok {cs : List Addr} {c : Value} (h : kitB K cs c = true) (i : Nat) (hi : i < 11) : PySem.W.kitOne K (.ref (nth cs i)) c = some true :=
  eq_of_beq (List.all_eq_true.mp h i (List.mem_range.mpr hi))
theorem refs_of {c0 c1 c2 c3 c4 c5 c6 c7 c8 c9 c10 c11 : Addr} (_ : K.In h) (z : Txt K mg w c11 c10) (e0 : ExcF K mg "NoText" c0) (e1 : ExcF K mg "NoKind" c1) (e2 : ExcF K mg "NoForm" c2) (e3 : ExcF K mg "NoSizes" c3) (e4 : ExcF K mg "TooMany" c4) (e5 : ExcF K mg "NoDivisor" c5) (e6 : ExcF K mg "NoWorth" c6) (e7 : ExcF K mg "NoTerm" c7) (e8 : ExcF K mg "NoLibrary" c8) (e9 : ExcF K mg "NoName" c9) (g10 : mg "Unlike" = some (.ref c10)) (g11 : mg "SwapError" = some (.ref c11)) (x0 : ExcC K c0) (x1 : ExcC K c1) (x2 : ExcC K c2) (x3 : ExcC K c3) (x4 : ExcC K c4) (x5 : ExcC K c5) (x6 : ExcC K c6) (x7 : ExcC K c7) (x8 : ExcC K c8) (x9 : ExcC K c9) (x10 : ExcC K c10)
    (k : kitsB K [c0, c1, c2, c3, c4, c5, c6, c7, c8, c9, c10, c11] = true) (kS : kitB K [c0, c1, c2, c3, c4, c5, c6, c7, c8, c9, c10, c11] (.ref c11) = true) (kV : kitB K [c0, c1, c2, c3, c4, c5, c6, c7, c8, c9, c10, c11] (.type "ValueError") = true) (o : OexC K c10) (xf : XfC K c10) (no : PySem.W.findIn K (.ref c10) "apart" = some none) (top : InitC K c11)
    (ini : ∃ fI fd, Fun K "__init__" "Unlike.__init__" s_init fI fd ∧ PySem.W.findIn K (.ref c10) "__init__" = some (some (.ref fI)) ∧ PySem.W.typeIn K (.ref fI) = some (.type "function")) : Refs K mg w (nth [c0, c1, c2, c3, c4, c5, c6, c7, c8, c9, c10, c11]) where
  toTxt := z
  e_NoText := e0
  e_NoKind := e1
  e_NoForm := e2
  e_NoSizes := e3
  e_TooMany := e4
  e_NoDivisor := e5
  e_NoWorth := e6
  e_NoTerm := e7
  e_NoLibrary := e8
  e_NoName := e9
  g_Unlike := g10
  g_SwapError := g11
  x := fun i hi => match i, hi with
    | 0, _ => x0
    | 1, _ => x1
    | 2, _ => x2
    | 3, _ => x3
    | 4, _ => x4
    | 5, _ => x5
    | 6, _ => x6
    | 7, _ => x7
    | 8, _ => x8
    | 9, _ => x9
    | 10, _ => x10
  k := kits_ok k
  kS := kit_ok kS
  kV := kit_ok kV
  o := o
  xf := xf
  no := no
  top := top
  ini := ini
end
theorem walk {l : PySem.W.OpenLaw} {q : Program} {loose : List Str} {XP : (Str → Option Value) → Heap → Prop} {YP : World → Heap → Prop} {d : DefRec} {K : Params → PySem.W.Frag} (hn : l.most = some 63) (hdf : d.params.defaults = [])
    (hY : ∀ (w : World) (h : Heap), YP w h → (K w.params).In h)
    (F : ∀ (w : World) (mg : Str → Option Value) (fa : Addr) (h : Heap), (K w.params).In h → h.Ns mainGlobals mg → mg d.name = some (.ref fa) →
      ∃ fd : FuncData, (∀ (s : Shared) (u : Value), BindsTo s fd ⟨[u], []⟩ [("script", u)]) ∧ ∀ base : Heap, (K w.params).In base → base.Ns mainGlobals mg → FnOk l.prog w (K w.params) mg base CX0 5 fa fd ["script"] (spLaw (K w.params))) :
    PySem.W.WalkO q loose XP YP l.row.toRowW d [] (fun f vs => PySem.call f vs) :=
  L2.walk_of (n := 63) (k := 5) (x := "script") (CX := fun _ => CX0) (sp := fun w => spLaw (K w.params)) hn (by decide) hdf ⟨rfl, by decide, by decide⟩ hY F (fun _ _ a ns hl _ hS => ⟨a, ns, rfl, hS, hl, fun _ => rfl⟩) fun _ _ _ _ _ z => z
section
variable {P : Program} {w : World} {K : PySem.W.Frag} {mg : Str → Option Value} {base : Heap} {C : Nat → Addr}
theorem law_end {l : PySem.W.OpenLaw} {fa : Addr} (hfa : mg "law" = some (.ref fa)) (T : Refs K mg w C) (A__law_cell_at : At K mg "_law_cell_at" s_law_cell_at) (A__law_digit : At K mg "_law_digit" s_law_digit) (A__law_made : At K mg "_law_made" s_law_made) (A__law_marks : At K mg "_law_marks" s_law_marks) (A_law : At K mg "law" s_law) :
    ∃ fd : FuncData, (∀ (s : Shared) (v : Value), BindsTo s fd ⟨[v], []⟩ [("script", v)]) ∧ ∀ base : Heap, K.In base → base.Ns mainGlobals mg → FnOk l.prog w K mg base CX0 5 fa fd ["script"] (spLaw K) := by
  obtain ⟨f, fd, F, m⟩ := A_law
  have e := hfa.symm.trans m
  cases e
  obtain ⟨oc, od, kV, doc, pm, an, cdv, ct, osl, rfl, lk, hcd⟩ := id F.ex
  have hh := fun base : Heap => ok_law (P := l.prog) (base := base) F T (ok_cell_at A__law_cell_at T.toTxt) (ok_digit A__law_digit T.toTxt) (ok_made A__law_made T) (ok_marks A__law_marks T)
  exact ⟨_, fun s v => .of_eq rfl, fun base _ _ => hh base⟩
end
end KW
open PySem PySem.W PyProof.Rows in
set_option maxRecDepth 100000 in
set_option maxHeartbeats 0 in
theorem PySem.Challenge.cw_kindswap_k16_refusals_apart_holds : PySem.Challenge.rw_kindswap_k16_refusals_apart.Holds := by
  w_on; o_law; k_head; (case hw => w_witness2)
  k_fill
  refine KW.walk (l := PySem.Challenge.rw_kindswap_k16_refusals_apart) rfl rfl (fun w h Y => PySem.W.kIn_of Y) ?F
  case F =>
    intro w mg fa h KX G hmg
    have A__law_cell_at := KB.at_mk (x := "_law_cell_at") (st := KW.s_law_cell_at) KX G (by k_is) (by k_is) (by k_is) (by k_is)
    have A__law_digit := KB.at_mk (x := "_law_digit") (st := KW.s_law_digit) KX G (by k_is) (by k_is) (by k_is) (by k_is)
    have A__law_made := KB.at_mk (x := "_law_made") (st := KW.s_law_made) KX G (by k_is) (by k_is) (by k_is) (by k_is)
    have A__law_marks := KB.at_mk (x := "_law_marks") (st := KW.s_law_marks) KX G (by k_is) (by k_is) (by k_is) (by k_is)
    have A_law := KB.at_mk (x := "law") (st := KW.s_law) KX G (by k_is) (by k_is) (by k_is) (by k_is)
    have E0 := KB.exc_mk (x := "NoText") KX G (by k_is) (by k_exc) (by k_is) (by k_is) (by k_is) (by k_is) (by first | rfl | k_is)
    have E1 := KB.exc_mk (x := "NoKind") KX G (by k_is) (by k_exc) (by k_is) (by k_is) (by k_is) (by k_is) (by first | rfl | k_is)
    have E2 := KB.exc_mk (x := "NoForm") KX G (by k_is) (by k_exc) (by k_is) (by k_is) (by k_is) (by k_is) (by first | rfl | k_is)
    have E3 := KB.exc_mk (x := "NoSizes") KX G (by k_is) (by k_exc) (by k_is) (by k_is) (by k_is) (by k_is) (by first | rfl | k_is)
    have E4 := KB.exc_mk (x := "TooMany") KX G (by k_is) (by k_exc) (by k_is) (by k_is) (by k_is) (by k_is) (by first | rfl | k_is)
    have E5 := KB.exc_mk (x := "NoDivisor") KX G (by k_is) (by k_exc) (by k_is) (by k_is) (by k_is) (by k_is) (by first | rfl | k_is)
    have E6 := KB.exc_mk (x := "NoWorth") KX G (by k_is) (by k_exc) (by k_is) (by k_is) (by k_is) (by k_is) (by first | rfl | k_is)
    have E7 := KB.exc_mk (x := "NoTerm") KX G (by k_is) (by k_exc) (by k_is) (by k_is) (by k_is) (by k_is) (by first | rfl | k_is)
    have E8 := KB.exc_mk (x := "NoLibrary") KX G (by k_is) (by k_exc) (by k_is) (by k_is) (by k_is) (by k_is) (by first | rfl | k_is)
    have E9 := KB.exc_mk (x := "NoName") KX G (by k_is) (by k_exc) (by k_is) (by k_is) (by k_is) (by k_is) (by first | rfl | k_is)
    have g10 := KB.cls_mk (x := "Unlike") KX G (by k_is)
    have g11 := KB.cls_mk (x := "SwapError") KX G (by k_is)
    have X0 := KW.excC_of KX E0.g (by k_is) (by k_is) (by k_is) (by k_is) (by k_is) (by k_is) (by k_is) (by k_is)
    have X1 := KW.excC_of KX E1.g (by k_is) (by k_is) (by k_is) (by k_is) (by k_is) (by k_is) (by k_is) (by k_is)
    have X2 := KW.excC_of KX E2.g (by k_is) (by k_is) (by k_is) (by k_is) (by k_is) (by k_is) (by k_is) (by k_is)
    have X3 := KW.excC_of KX E3.g (by k_is) (by k_is) (by k_is) (by k_is) (by k_is) (by k_is) (by k_is) (by k_is)
    have X4 := KW.excC_of KX E4.g (by k_is) (by k_is) (by k_is) (by k_is) (by k_is) (by k_is) (by k_is) (by k_is)
    have X5 := KW.excC_of KX E5.g (by k_is) (by k_is) (by k_is) (by k_is) (by k_is) (by k_is) (by k_is) (by k_is)
    have X6 := KW.excC_of KX E6.g (by k_is) (by k_is) (by k_is) (by k_is) (by k_is) (by k_is) (by k_is) (by k_is)
    have X7 := KW.excC_of KX E7.g (by k_is) (by k_is) (by k_is) (by k_is) (by k_is) (by k_is) (by k_is) (by k_is)
    have X8 := KW.excC_of KX E8.g (by k_is) (by k_is) (by k_is) (by k_is) (by k_is) (by k_is) (by k_is) (by k_is)
    have X9 := KW.excC_of KX E9.g (by k_is) (by k_is) (by k_is) (by k_is) (by k_is) (by k_is) (by k_is) (by k_is)
    have X10 := KW.excC_of KX g10 (by k_is) (by k_is) (by k_is) (by k_is) (by k_is) (by k_is) (by k_is) (by k_is)
    have O := KW.oexC_of KX g10 (by first | k_is | rfl) (by first | rfl | decide +kernel) (by k_is) (by k_is) (by k_is) (by k_is)
    have I1 := KW.initC_of KX g11 (by k_is) (by k_is) (by k_is) (by first | k_is | rfl)
    have N := KW.no_of KX g10 (by k_is)
    have I2 := KW.ini_of KX g10 (by k_is) (by k_is) (by k_is) (by k_is) (by k_is)
    have XF := KW.xf_of X10
    have Z := KW.txt_of w KX g11 g10 (PySem.W.mg_none_of KX G (by k_is)) (PySem.W.mg_none_of KX G (by k_is)) (PySem.W.mg_none_of KX G (by k_is)) (PySem.W.mg_none_of KX G (by k_is)) (PySem.W.mg_none_of KX G (by k_is)) (PySem.W.mg_none_of KX G (by k_is)) (PySem.W.mg_none_of KX G (by k_is)) (PySem.W.mg_none_of KX G (by k_is))
    have T := KW.refs_of KX Z E0 E1 E2 E3 E4 E5 E6 E7 E8 E9 g10 g11 X0 X1 X2 X3 X4 X5 X6 X7 X8 X9 X10 (by first | rfl | decide +kernel) (by first | rfl | decide +kernel) (by first | rfl | decide +kernel) O XF N I1 I2
    exact KW.law_end hmg T A__law_cell_at A__law_digit A__law_made A__law_marks A_law
namespace KW

end KW
