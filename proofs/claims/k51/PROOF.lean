import PyProof.Rows.All
import Wide.All
import OpenK.AllK
import Wide.FinOn
import HandS.ForMost
import HandS.More
import HandS.NoneIn
import HandS.Deep
import HandS.ForExc
import HandS.ExcIs
import HandS.StrMore
import HandS.IsInst
import HandS.TryMany
import HandS.Style
import HandS.SortOrd
import HandS.SortRule
import KE.LtSeq
import HandS.Lambda
import HandS.EndOwn
import KE.KExcIs
import HandS.ExcInit
import HandS.ExcField
import HandS.ExcValue
import HandS.Small
import HandS.SetFor
import HandS.Walk
import HandS.Wide
import HandS.AnyAll
import HandS.JoinGen
import HandS.TupMul
import HandS.Conv
import HandS.EndTab
import HandS.TupAny
import HandS.WideBits
import HandS.Gcd
import HandS.Flow
import HandS.Iter
import Flt.RightSqrt
import HandS.SetBool
import HandS.Strs
import PySem.Challenge.RW_kindswap_k51_kinds_of_terms
set_option Elab.async false
set_option linter.all false
set_option maxRecDepth 100000
set_option maxHeartbeats 4000000
namespace KB
open PySem PySem.Spec PyProof.Rows L2

/-! ## rules of one's own, wide ones: each serves all kinds of operands that the program has -/
section
variable {X : Cx}
/-- == of data nested up to 190 deep -/
def rEqX (K : PySem.W.Frag) : R2 := fun x y H Q => ∃ d e, Dp K H x d ∧ Dp K H y e ∧ d.canLay0 = true ∧ e.canLay0 = true ∧ min d.depth e.depth ≤ 190 ∧ Q (.bl (PyData.eqv d e)) H
def rNeX (K : PySem.W.Frag) : R2 := fun x y H Q => ∃ d e, Dp K H x d ∧ Dp K H y e ∧ d.canLay0 = true ∧ e.canLay0 = true ∧ min d.depth e.depth ≤ 190 ∧ Q (.bl (!PyData.eqv d e)) H
theorem op_eqX (hu : X.A.units + 200 < cLine) : OpR X (compareOp .Eq) (rEqX X.K) := by
  intro pins s σ H x y v u Q I rx ry ⟨d, e, hd, he, cd, ce, hm, q⟩
  obtain ⟨as, r1⟩ := Dp.reads I d x v hd rx
  obtain ⟨bs, r2⟩ := Dp.reads I e y u he ry
  exact SeqAt.compareEq_reads r1 r2 cd ce (by omega) ⟨.bl _, H, I, rfl, q⟩
theorem op_neX (hu : X.A.units + 200 < cLine) : OpR X (compareOp .NotEq) (rNeX X.K) := by
  intro pins s σ H x y v u Q I rx ry ⟨d, e, hd, he, cd, ce, hm, q⟩
  obtain ⟨as, r1⟩ := Dp.reads I d x v hd rx
  obtain ⟨bs, r2⟩ := Dp.reads I e y u he ry
  exact SeqAt.compareNe_reads r1 r2 cd ce (by omega) ⟨.bl _, H, I, rfl, q⟩
def rEqA (K : PySem.W.Frag) : R2 := fun x y H Q => rEq x y H Q ∨ rEqX K x y H Q
def rNeA (K : PySem.W.Frag) : R2 := fun x y H Q => rNe x y H Q ∨ rNeX K x y H Q
theorem op_eqA (hu : X.A.units + 200 < cLine) : OpR X (compareOp .Eq) (rEqA X.K) := op_eq.or (op_eqX hu)
theorem op_neA (hu : X.A.units + 200 < cLine) : OpR X (compareOp .NotEq) (rNeA X.K) := op_ne.or (op_neX hu)
theorem room200 {k : Nat} {A : Around} (r : Room k A) : A.units + 200 < cLine := by have := r.un; omega

def rAddA (K : PySem.W.Frag) : R2 := fun x y H Q =>
  (rI0 fun i j => .int (i + j)) x y H Q ∨ (∃ i j, x = .str i ∧ y = .str j ∧ i.length + j.length ≤ sizeLine ∧ Q (.str (i ++ j)) H) ∨ rCat x y H Q ∨ rCatT K x y H Q
theorem op_addA : OpR X (binaryOp .Add) (rAddA X.K) := op_add.or (op_add_str.or (op_cat.or op_catT))
def rMulA : R2 := fun x y H Q => (rI CMul fun i j => .int (i * j)) x y H Q ∨ rRep x y H Q
theorem op_mulA : OpR X (binaryOp .Mult) rMulA := op_mul.or op_rep
def rIxA (K : PySem.W.Frag) (w : World) : R2 := fun x y H Q => rIx K x y H Q ∨ rIxD K w x y H Q
theorem ix_A : IxR X (rIxA X.K X.w) := ix_seq.or ix_kdict
def rSlA (K : PySem.W.Frag) : V → Option Int → Option Int → Hp → VK → Prop := fun x lo hi H Q => rSlL K x lo hi H Q ∨ rSlT K x lo hi H Q ∨ rSlS x lo hi H Q
theorem sl_A : SlR X (rSlA X.K) := sl_list.or (sl_tup.or sl_str)
/-- isinstance over the values that the program has: the answer by the two types' names -/
def rIsiB (K : PySem.W.Frag) : List V → Hp → VK → Prop := fun xs H Q => ∃ (x : V) (T : String) (S : String) (b : Bool), xs = [x, .ty S] ∧ TyB K H x T ∧ Q (.bl b) H
end

/-! ## xs.extend(t), t a tuple -/
theorem extend_door2 {a b : Array Value} (h : a.size + b.size ≤ sizeLine) : ¬(!a.isEmpty && Builtin.List.listTooLong (a.size + b.size)) = true := by
  rw [notLongL h, Bool.and_false]; exact Bool.false_ne_true
theorem meets_extend_tup {l b : Addr} {as bs : Array Value} {n n2 : Nat} {dd : Option Addr} {sl : Array (Option Value)} (hz : as.size + bs.size ≤ sizeLine) :
    Meets (Builtin.«list.extend» ⟨[.ref l, .ref b], []⟩) (fun _ R s => s.heap.get? l = some { cls := .type "list", data := .seq as n } ∧
      s.heap.get? b = some ⟨.type "tuple", dd, .seq bs n2, sl⟩ ∧ R (.ok (.ret .none)) { s with heap := s.heap.update l (Obj.mapSeq (· ++ bs)) }) := by
  refine .of_wp fun prog w A R s h => ?_
  obtain ⟨hp, g, d, tk, os⟩ := s
  obtain ⟨hl, hb, h⟩ := h
  have f2 := PySem.AutoSeq1.sub_tuple_tuple
  have f4 := PySem.AutoSeq1.sub_tuple_list
  have door := extend_door2 hz
  have z1 : as.size ≤ sizeLine := by omega
  have z2 : (as ++ bs).size ≤ sizeLine + 1 := by rw [Array.size_append]; omega
  wp_walk using (wpAny_updateSeq hl rfl (hz := z1) (_hz' := z2)), PySem.AutoSeq1.wpAny_loadPart' hl, PySem.AutoSeq1.wpAny_loadPart' hb
  exact ⟨_, rfl, h⟩
def rExtendT (K : PySem.W.Frag) : V → List V → Hp → VK → Prop := fun x vs H Q =>
  ∃ l b xs zs, x = .ref l ∧ vs = [.ref b] ∧ H l = some (.lst xs) ∧ SqT K H b zs ∧ xs.length + zs.length ≤ sizeLine ∧ Q .non (upd H l (.lst (xs ++ zs)))
theorem mt_extendT {X : Cx} : MtM X "list.extend" (rExtendT X.K) := by
  intro pins s σ H x vs v us Q I rx rv ⟨l, b, xs, zs, ex, ev, hH, hB, hz, q⟩
  subst ex ev
  cases rx
  obtain ⟨u, rfl, ru⟩ := Vals.one rv
  cases ru
  obtain ⟨_, its, n, r, hl, e⟩ := I.lstM hH
  obtain ⟨its2, r2, ⟨⟨c2, dd, da, sl⟩, e2, ec, n2, ed⟩, hl2⟩ := I.tuple hB
  simp only at ec ed
  subst ec ed
  have hl3 := r2.length
  have hsz : its.toArray.size + its2.toArray.size ≤ sizeLine := by rw [List.size_toArray, List.size_toArray]; omega
  refine call_meets F.slot_list_extend ⟨_, e, rfl⟩ F.entry_list_extend (F.args_list_extend_2 _ _) (meets_extend_tup hsz) ⟨e, e2, ?_⟩
  refine ⟨.non, _, I.lset (its' := its ++ its2) hH e (by simp) (Vals.append r r2) ?_, rfl, q⟩
  rw [List.length_append]; exact hz

/-! ## a def as it stands; a def that keeps its promise, for its callers -/
/-- the def stands under its own name -/
def At (K : PySem.W.Frag) (mg : Str → Option Value) (x : Str) (st : Stmt) : Prop := ∃ f fd, Fun K x x st f fd ∧ mg x = some (.ref f)
section
variable (P : Program) (w : World) (K : PySem.W.Frag) (mg : Str → Option Value) (base : Heap)
def Cal (CX : CXT) (k : Nat) (x : Str) (ps : List Str) (sp : Sp) : Prop :=
  ∃ f fd, FnOk P w K mg base CX k f fd ps sp ∧ Binds K fd ps [] ∧ PySem.W.keepIn K (.ref f) = true ∧ mg x = some (.ref f)
end
section
variable {X : Cx} {CX : CXT} {k : Nat} {x : Str} {ps : List Str} {sp : Sp} {E : XK} {p pos : Pos} {e : Expr} {es : List Expr} {t : TA}
theorem pe_calC (C : Cal X.prog X.w X.K X.mg X.base CX k x ps sp) (hr : Room k X.A) (hx : Passes CX X E) (ha : PA X (e :: es) t) (hg : Gl X x := by rfl) (hdb : (x == ("__debug__" : Str)) = false := by decide)
    (he : starEach (e :: es) X.env = (false, eval e X.env) :: starEach es X.env := by rfl) (hpl : (backTo pos (starEach es X.env)).any (·.1) = false := by rfl) :
    PE X (.Call (.Name x p) (e :: es) [] pos) (tCall sp [] E t) := by
  obtain ⟨f, fd, F, b, kp, m⟩ := C
  exact pe_call F hr hg m kp b .nil hx ha hdb he hpl
end
theorem Cal.mono {P : Program} {w : World} {K : PySem.W.Frag} {mg : Str → Option Value} {base : Heap} {CX : CXT} {j k : Nat} {x : Str} {ps : List Str} {sp : Sp} (C : Cal P w K mg base CX j x ps sp) (h : j ≤ k) : Cal P w K mg base CX k x ps sp :=
  let ⟨f, fd, F, r⟩ := C; ⟨f, fd, F.mono h, r⟩

/-! ## facts of heaps -/
theorem same_new {H : Hp} {p : Addr} (h : H p = none) (o : HO) : Same H (upd H p o) := fun b u q => by rw [upd_ne (ne_of_none q h)]; exact q
theorem Same.tup {K : PySem.W.Frag} {H H' : Hp} {a : Addr} {xs : List V} (e : Same H H') (h : SqT K H a xs) : SqT K H' a xs := by
  rcases h with (h | ⟨o, h⟩) | h
  · exact .inl (.inl (e _ _ h))
  · exact .inl (.inr ⟨o, e _ _ h⟩)
  · exact .inr h
/-- all but the object at w stands -/
def But (w : Addr) (H H' : Hp) : Prop := ∀ b o, b ≠ w → H b = some o → H' b = some o
theorem But.refl (w : Addr) (H : Hp) : But w H H := fun _ _ _ h => h
theorem But.trans {w : Addr} {H H1 H2 : Hp} (a : But w H H1) (b : But w H1 H2) : But w H H2 := fun c o n h => b c o n (a c o n h)
theorem But.of_same {w : Addr} {H H' : Hp} (h : Same H H') : But w H H' := fun b o _ e => h b o e
theorem But.new {w : Addr} {H : Hp} {p : Addr} (h : H p = none) (o : HO) : But w H (upd H p o) := .of_same (same_new h o)
theorem But.set {w : Addr} {H : Hp} (o : HO) : But w H (upd H w o) := fun b u n q => by rw [upd_ne n]; exact q
end KB

namespace KB
open PySem PySem.Spec PyProof.Rows L2

/-! ## a dict of the module with text keys, asked by any text -/
inductive Ents : List (Str × V) → List DictEntry → Prop where
  | nil : Ents [] []
  | cons {k : Str} {v : V} {u : Value} {t : Tok} {hs : Int} {r : List (Str × V)} {es : List DictEntry} (rv : RelV v u) (tl : Ents r es) : Ents ((k, v) :: r) (⟨hs, .str k t, u⟩ :: es)
def DictS (K : PySem.W.Frag) (w : World) (d : Addr) (kvs : List (Str × V)) : Prop :=
  ∃ es n, K.lookup d = some ⟨.type "dict", none, .dict es n, #[]⟩ ∧ PySem.W.KeysLit w.params es.toList ∧ (d == sysModules) = false ∧ Ents kvs es.toList
theorem Ents.find {z : Str} : ∀ {kvs : List (Str × V)} {es : List DictEntry}, Ents kvs es →
    (es.find? (·.key.isStr z) = none ∧ kvs.lookup z = none ∧ es.any (·.refKey) = false) ∨ ∃ e v, es.find? (·.key.isStr z) = some e ∧ kvs.lookup z = some v ∧ RelV v e.val
  | _, _, .nil => .inl ⟨rfl, rfl, rfl⟩
  | _, _, .cons (k := k) (v := v) (u := u) rv tl => by
    by_cases h : k = z
    · subst h
      refine .inr ⟨_, v, List.find?_cons_of_pos (by simp [Value.isStr]), ?_, rv⟩
      simp [List.lookup]
    · have h1 : ((z == k) : Bool) = false := beq_eq_false_iff_ne.mpr fun q => h q.symm
      have h2 : (Value.isStr (.str k (by assumption)) z) = false := by
        show (k == z) = false
        exact beq_eq_false_iff_ne.mpr h
      rcases tl.find (z := z) with ⟨a, b, c⟩ | ⟨e, v', a, b, c⟩
      · refine .inl ⟨?_, ?_, ?_⟩
        · rw [List.find?_cons_of_neg (by show ¬ (Value.isStr (.str k _) z) = true; rw [show Value.isStr (.str k _) z = (k == z) from rfl, beq_eq_false_iff_ne.mpr h]; exact Bool.false_ne_true)]
          exact a
        · simp [List.lookup, h1, b]
        · rw [List.any_cons, c]; rfl
      · refine .inr ⟨e, v', ?_, ?_, c⟩
        · rw [List.find?_cons_of_neg (by show ¬ (Value.isStr (.str k _) z) = true; rw [show Value.isStr (.str k _) z = (k == z) from rfl, beq_eq_false_iff_ne.mpr h]; exact Bool.false_ne_true)]
          exact a
        · simp [List.lookup, h1, b]
theorem DictS.ns {K : PySem.W.Frag} {w : World} {d : Addr} {kvs : List (Str × V)} (D : DictS K w d kvs) (z : Str) :
    (PySem.W.nsIn K d z = some none ∧ kvs.lookup z = none) ∨ ∃ u v, PySem.W.nsIn K d z = some (some u) ∧ kvs.lookup z = some v ∧ RelV v u := by
  obtain ⟨es, n, hl, _, _, he⟩ := D
  rcases he.find (z := z) with ⟨a, b, c⟩ | ⟨e, v, a, b, c⟩
  · refine .inl ⟨?_, b⟩
    unfold PySem.W.nsIn; rw [hl]; simp only [a, c]; rfl
  · refine .inr ⟨e.val, v, ?_, b, c⟩
    unfold PySem.W.nsIn; rw [hl]; simp only [a]
section
variable {X : Cx} {kvs : List (Str × V)}
def rInDS (K : PySem.W.Frag) (w : World) (neg : Bool) : R2 := fun x y H Q => ∃ (z : Str) (d : Addr) (kvs : List (Str × V)), x = .str z ∧ y = .ref d ∧ DictS K w d kvs ∧ Q (.bl (if neg then !(kvs.lookup z).isSome else (kvs.lookup z).isSome)) H
theorem op_in_DS : OpR X (compareOp .In) (rInDS X.K X.w false) := by
  intro pins s σ H x y v u Q I rx ry ⟨z, d, kvs, ex, ey, D, q⟩
  obtain ⟨es, n, a, b, c, _⟩ := id D
  have kd : KDict X.K X.w d es n := ⟨a, b, c⟩
  rcases D.ns z with ⟨e, l⟩ | ⟨u0, v0, e, l, _⟩
  · exact op_in_kd kd pins s σ H x y v u Q I rx ry ⟨z, _, ex, ey, e, by rw [l] at q; exact q⟩
  · exact op_in_kd kd pins s σ H x y v u Q I rx ry ⟨z, _, ex, ey, e, by rw [l] at q; exact q⟩
theorem op_notIn_DS : OpR X (compareOp .NotIn) (rInDS X.K X.w true) := by
  intro pins s σ H x y v u Q I rx ry ⟨z, d, kvs, ex, ey, D, q⟩
  obtain ⟨es, n, a, b, c, _⟩ := id D
  have kd : KDict X.K X.w d es n := ⟨a, b, c⟩
  rcases D.ns z with ⟨e, l⟩ | ⟨u0, v0, e, l, _⟩
  · exact op_notIn_kd kd pins s σ H x y v u Q I rx ry ⟨z, _, ex, ey, e, by rw [l] at q; exact q⟩
  · exact op_notIn_kd kd pins s σ H x y v u Q I rx ry ⟨z, _, ex, ey, e, by rw [l] at q; exact q⟩
def rIxDS (K : PySem.W.Frag) (w : World) : R2 := fun x y H Q => ∃ (z : Str) (d : Addr) (kvs : List (Str × V)) (v : V), x = .ref d ∧ y = .str z ∧ DictS K w d kvs ∧ kvs.lookup z = some v ∧ Q v H
theorem ix_DS : IxR X (rIxDS X.K X.w) := by
  intro value slice pins s σ H x y v u Q I rx ry ⟨z, d, kvs, v1, ex, ey, D, hl, q⟩ hs
  obtain ⟨es, n, a, b, c, _⟩ := id D
  rcases D.ns z with ⟨e, l⟩ | ⟨u0, v0, e, l, r⟩
  · rw [l] at hl; cases hl
  · rw [l] at hl; cases hl
    exact ix_kdict value slice pins s σ H x y v u Q I rx ry ⟨d, z, _, ex, ey, ⟨es, n, u0, a, b, e, r⟩, q⟩ hs
def rIxB (K : PySem.W.Frag) (w : World) : R2 := fun x y H Q => rIx K x y H Q ∨ rIxDS K w x y H Q
theorem ix_B : IxR X (rIxB X.K X.w) := ix_seq.or ix_DS
end

/-! ## the heap without one object -/
def out (w : Addr) (H : Hp) : Hp := fun b => if b = w then none else H b
theorem out_ne {w b : Addr} {H : Hp} (h : b ≠ w) : out w H b = H b := if_neg h
theorem out_self {w : Addr} {H : Hp} : out w H w = none := if_pos rfl
theorem out_some {w b : Addr} {H : Hp} {o : HO} (h : out w H b = some o) : b ≠ w ∧ H b = some o := by
  by_cases e : b = w
  · rw [e, out_self] at h; cases h
  · rw [out_ne e] at h; exact ⟨e, h⟩
theorem out_sub (w : Addr) (H : Hp) : Same (out w H) H := fun _ _ h => (out_some h).2
theorem out_new {w p : Addr} {H : Hp} (h : H p = none) (o : HO) : Same (out w H) (out w (upd H p o)) := fun b u q => by
  obtain ⟨n, e⟩ := out_some q
  rw [out_ne n, upd_ne (ne_of_none e h)]; exact e
theorem out_set {w : Addr} {H : Hp} (o : HO) : Same (out w H) (out w (upd H w o)) := fun b u q => by
  obtain ⟨n, e⟩ := out_some q
  rw [out_ne n, upd_ne n]; exact e
theorem out_at {w p : Addr} {H : Hp} {o : HO} (n : p ≠ w) (h : H p = some o) : out w H p = some o := by rw [out_ne n]; exact h
theorem out_same {w : Addr} {H H' : Hp} (h : Same H H') : Same (out w H) (out w H') := fun b o q => by
  obtain ⟨n, e⟩ := out_some q
  rw [out_ne n]; exact h b o e
/-! ## data that stand -/
mutual
theorem Dp.same {K : PySem.W.Frag} {H H' : Hp} (s : Same H H') : ∀ {d : PyData} {v : V}, Dp K H v d → Dp K H' v d
  | _, _, .non => .non
  | _, _, .bl b => .bl b
  | _, _, .int i => .int i
  | _, _, .str x => .str x
  | _, _, .lst h a => .lst (L2.Same.seq s h) (DpAll.same s a)
  | _, _, .tup h a => .tup (Same.tup s h) (DpAll.same s a)
theorem DpAll.same {K : PySem.W.Frag} {H H' : Hp} (s : Same H H') : ∀ {ds : List PyData} {vs : List V}, DpAll K H vs ds → DpAll K H' vs ds
  | _, _, .nil => .nil
  | _, _, .cons h a => .cons (Dp.same s h) (DpAll.same s a)
end
end KB

namespace KB
open PySem PySem.Spec PyProof.Rows L2

/-! ## own classes of errors -/
structure ExcF (K : PySem.W.Frag) (mg : Str → Option Value) (x : Str) (C : Addr) : Prop where
  g : mg x = some (.ref C)
  q : PySem.W.excIn K C [.type "ValueError", .type "Exception", .type "BaseException", .type "object"] "ValueError.__new__" = true
  k : PySem.W.keepIn K (.ref C) = true
  b : PySem.W.subIn K (.ref C) (.type "BaseException") = some true
  t : PySem.W.typeIn K (.ref C) = some (.type "type")
  i : PySem.W.isClsIn K C = true
  s : PySem.W.subIn K (.ref C) (.ref C) = some true
theorem ps_raiseO {X : Cx} {W : WX} {x m : Str} {C : Addr} {j : Nat} {p p2 pos pos2 : Pos} (hc : X.calm = true) (tk : Takes X W) (F : ExcF X.K X.mg x C) (hg : Gl X x := by rfl) (hdb : (x == ("__debug__" : Str)) = false := by decide) :
    PS X (.Raise (some (.Call (.Name x p) [.Constant (.str m) j p2] [] pos)) none pos2) (fun _ σ H => W (.ref C) none σ H) :=
  ps_raise hc tk (pmk_own PySem.F.excBase_ValueError F.q F.g F.k (raises_own F.b F.t) hg hdb)

/-- a constant of the module: a text; a dict -/
theorem pe_globS {X : Cx} {x z : Str} {pos : Pos} (hg : Gl X x) (hm : ∃ t, X.mg x = some (.str z t)) (hd : (x == ("__debug__" : Str)) = false := by decide) : PE X (.Name x pos) (tC (.str z)) := by
  obtain ⟨t, h⟩ := hm
  exact pe_glob hg h ⟨_, rfl⟩ hd
def tDS (K : PySem.W.Frag) (w : World) (kvs : List (Str × V)) : TE := fun _ H Q => ∀ d, DictS K w d kvs → Q (.ref d) H
theorem pe_globD {X : Cx} {x : Str} {kvs : List (Str × V)} {pos : Pos} (hg : Gl X x) (hm : ∃ d, X.mg x = some (.ref d) ∧ DictS X.K X.w d kvs) (hd : (x == ("__debug__" : Str)) = false := by decide) : PE X (.Name x pos) (tDS X.K X.w kvs) := by
  obtain ⟨d, h, D⟩ := hm
  exact ⟨fun pins s σ H Q I q => (pe_glob (v := .ref d) hg h (by exact rfl) hd).run pins s σ H Q I (q d D)⟩

/-! ## kinds -/
inductive Kd where
  | b (n : Nat) | u | p (x y : Kd) | f (x y : Kd)
  deriving DecidableEq, Repr
namespace Kd
def dat : Kd → PyData
  | b n => .tuple [.str "base", .int n]
  | u => .tuple [.str "unit"]
  | p x y => .tuple [.str "both", x.dat, y.dat]
  | f x y => .tuple [.str "from", x.dat, y.dat]
def ok : Kd → Prop
  | b n => n < 8
  | u => True
  | p x y => x.ok ∧ y.ok
  | f x y => x.ok ∧ y.ok
def leaves : Kd → Nat
  | b _ => 1 | u => 1
  | p x y => x.leaves + y.leaves
  | f x y => x.leaves + y.leaves
def deep : Kd → Nat
  | b _ => 1 | u => 1
  | p x y => 1 + max x.deep y.deep
  | f x y => 1 + max x.deep y.deep
theorem leaves_pos : ∀ k : Kd, 1 ≤ k.leaves
  | b _ => Nat.le_refl _
  | u => Nat.le_refl _
  | p x y => by have := leaves_pos x; simp only [leaves]; omega
  | f x y => by have := leaves_pos x; simp only [leaves]; omega
theorem deep_le : ∀ k : Kd, k.deep ≤ k.leaves
  | b _ => Nat.le_refl _
  | u => Nat.le_refl _
  | p x y => by have := deep_le x; have := deep_le y; have := leaves_pos x; have := leaves_pos y; simp only [leaves, deep]; omega
  | f x y => by have := deep_le x; have := deep_le y; have := leaves_pos x; have := leaves_pos y; simp only [leaves, deep]; omega
theorem dat_depth : ∀ k : Kd, k.dat.depth = k.deep
  | b _ => by simp [dat, deep, PyData.depth, PyData.depthAll]
  | u => by simp [dat, deep, PyData.depth, PyData.depthAll]
  | p x y => by have := dat_depth x; have := dat_depth y; simp only [dat, deep, PyData.depth, PyData.depthAll]; omega
  | f x y => by have := dat_depth x; have := dat_depth y; simp only [dat, deep, PyData.depth, PyData.depthAll]; omega
theorem dat_lay : ∀ k : Kd, k.dat.canLay0 = true
  | b _ => by simp [dat, PyData.canLay0, PyData.canLayAll0]; decide +kernel
  | u => by simp [dat, PyData.canLay0, PyData.canLayAll0]; decide +kernel
  | p x y => by simp [dat, PyData.canLay0, PyData.canLayAll0, dat_lay x, dat_lay y]; decide +kernel
  | f x y => by simp [dat, PyData.canLay0, PyData.canLayAll0, dat_lay x, dat_lay y]; decide +kernel
end Kd

/-! ## any thing: data, empty dicts among them -/
mutual
inductive Dq (K : PySem.W.Frag) (H : Hp) : V → PyData → Prop
  | non : Dq K H .non .none
  | bl (b : Bool) : Dq K H (.bl b) (.bool b)
  | int (i : Int) : Dq K H (.int i) (.int i)
  | str (x : Str) : Dq K H (.str x) (.str x)
  | lst {a : Addr} {xs : List V} {ds : List PyData} : SqL K H a xs → DqAll K H xs ds → Dq K H (.ref a) (.list ds)
  | tup {a : Addr} {xs : List V} {ds : List PyData} : SqT K H a xs → DqAll K H xs ds → Dq K H (.ref a) (.tuple ds)
  | dct {a : Addr} : H a = some (.dK []) → Dq K H (.ref a) (.dict [])
inductive DqAll (K : PySem.W.Frag) (H : Hp) : List V → List PyData → Prop
  | nil : DqAll K H [] []
  | cons {v : V} {vs : List V} {d : PyData} {ds : List PyData} : Dq K H v d → DqAll K H vs ds → DqAll K H (v :: vs) (d :: ds)
end
mutual
theorem Dq.same {K : PySem.W.Frag} {H H' : Hp} (s : Same H H') : ∀ {d : PyData} {v : V}, Dq K H v d → Dq K H' v d
  | _, _, .non => .non
  | _, _, .bl b => .bl b
  | _, _, .int i => .int i
  | _, _, .str x => .str x
  | _, _, .lst h a => .lst (L2.Same.seq s h) (DqAll.same s a)
  | _, _, .tup h a => .tup (Same.tup s h) (DqAll.same s a)
  | _, _, .dct h => .dct (s _ _ h)
theorem DqAll.same {K : PySem.W.Frag} {H H' : Hp} (s : Same H H') : ∀ {ds : List PyData} {vs : List V}, DqAll K H vs ds → DqAll K H' vs ds
  | _, _, .nil => .nil
  | _, _, .cons h a => .cons (Dq.same s h) (DqAll.same s a)
end
mutual
theorem Dq.dp {K : PySem.W.Frag} {H : Hp} : ∀ {d : PyData} {v : V}, d.canLay0 = true → Dq K H v d → Dp K H v d
  | _, _, _, .non => .non
  | _, _, _, .bl b => .bl b
  | _, _, _, .int i => .int i
  | _, _, _, .str x => .str x
  | _, _, c, .lst h a => .lst h (DqAll.dp (by simpa [PyData.canLay0] using c) a)
  | _, _, c, .tup h a => .tup h (DqAll.dp (by simpa [PyData.canLay0] using c) a)
  | _, _, c, .dct _ => by simp [PyData.canLay0] at c
theorem DqAll.dp {K : PySem.W.Frag} {H : Hp} : ∀ {ds : List PyData} {vs : List V}, PyData.canLayAll0 ds = true → DqAll K H vs ds → DpAll K H vs ds
  | _, _, _, .nil => .nil
  | d :: ds, _, c, .cons h a => by
    have c' : d.canLay0 = true ∧ PyData.canLayAll0 ds = true := by simpa [PyData.canLayAll0] using c
    exact .cons (Dq.dp c'.1 h) (DqAll.dp c'.2 a)
end
mutual
theorem Dq.of {K : PySem.W.Frag} {H : Hp} : ∀ {d : PyData} {v : V}, Dp K H v d → Dq K H v d
  | _, _, .non => .non
  | _, _, .bl b => .bl b
  | _, _, .int i => .int i
  | _, _, .str x => .str x
  | _, _, .lst h a => .lst h (DqAll.of a)
  | _, _, .tup h a => .tup h (DqAll.of a)
theorem DqAll.of {K : PySem.W.Frag} {H : Hp} : ∀ {ds : List PyData} {vs : List V}, DpAll K H vs ds → DqAll K H vs ds
  | _, _, .nil => .nil
  | _, _, .cons h a => .cons (Dq.of h) (DqAll.of a)
end
theorem DqAll.length {K : PySem.W.Frag} {H : Hp} : ∀ {ds : List PyData} {vs : List V}, DqAll K H vs ds → vs.length = ds.length
  | _, _, .nil => rfl
  | _, _, .cons _ a => congrArg (· + 1) (DqAll.length a)
theorem DqAll.append {K : PySem.W.Frag} {H : Hp} : ∀ {ds es : List PyData} {vs us : List V}, DqAll K H vs ds → DqAll K H us es → DqAll K H (vs ++ us) (ds ++ es)
  | _, _, _, _, .nil, b => b
  | _, _, _, _, .cons h a, b => .cons h (DqAll.append a b)
/-- the last one -/
theorem DqAll.last {K : PySem.W.Frag} {H : Hp} : ∀ {ds : List PyData} {d : PyData} {vs : List V}, DqAll K H vs (ds ++ [d]) → ∃ us v, vs = us ++ [v] ∧ DqAll K H us ds ∧ Dq K H v d
  | [], _, _, .cons h .nil => ⟨[], _, rfl, .nil, h⟩
  | _ :: ds, d, _, .cons h a => by
    obtain ⟨us, v, rfl, b, c⟩ := DqAll.last (ds := ds) a
    exact ⟨_ :: us, v, rfl, .cons h b, c⟩
def tyN : PyData → String
  | .none => "NoneType" | .bool _ => "bool" | .int _ => "int" | .str _ => "str" | .list _ => "list" | .tuple _ => "tuple" | .dict _ => "dict"
theorem Dq.ty {K : PySem.W.Frag} {H : Hp} {v : V} {d : PyData} (h : Dq K H v d) : TyB K H v (tyN d) := by
  cases h with
  | non => exact .non
  | bl b => exact .bl b
  | int i => exact .int i
  | str x => exact .str x
  | lst s _ => exact .lst s
  | tup s _ => exact .tup s
  | dct e => exact .dK e

/-! ## sizes -/
mutual
def sz : PyData → Nat
  | .list xs => 1 + szs xs
  | .tuple xs => 1 + szs xs
  | .none => 1 | .bool _ => 1 | .int _ => 1 | .str _ => 1 | .dict _ => 1
def szs : List PyData → Nat
  | [] => 0
  | x :: xs => sz x + szs xs
end
theorem szs_append : ∀ xs ys : List PyData, szs (xs ++ ys) = szs xs + szs ys
  | [], ys => by simp [szs]
  | x :: xs, ys => by simp only [List.cons_append, szs, szs_append xs ys]; omega
theorem sz_pos : ∀ d : PyData, 1 ≤ sz d
  | .list xs => by simp only [sz]; omega
  | .tuple xs => by simp only [sz]; omega
  | .none => by simp [sz]
  | .bool _ => by simp [sz]
  | .int _ => by simp [sz]
  | .str _ => by simp [sz]
  | .dict _ => by simp [sz]
theorem len_szs : ∀ ds : List PyData, ds.length ≤ szs ds
  | [] => Nat.zero_le _
  | d :: ds => by have := sz_pos d; have := len_szs ds; simp only [szs, List.length_cons]; omega
theorem Kd.sz_dat : ∀ k : Kd, sz k.dat ≤ 6 * k.leaves - 3
  | .b _ => by simp [Kd.dat, sz, szs, Kd.leaves]
  | .u => by simp [Kd.dat, sz, szs, Kd.leaves]
  | .p x y => by have := sz_dat x; have := sz_dat y; have := Kd.leaves_pos x; have := Kd.leaves_pos y; simp only [Kd.dat, sz, szs, Kd.leaves]; omega
  | .f x y => by have := sz_dat x; have := sz_dat y; have := Kd.leaves_pos x; have := Kd.leaves_pos y; simp only [Kd.dat, sz, szs, Kd.leaves]; omega
theorem fits {n : Nat} (h : n ≤ 10000000) : n ≤ sizeLine := Nat.le_trans h (by decide)
theorem fits_lt {n : Nat} (h : n ≤ 10000000) : n < sizeLine := Nat.lt_of_le_of_lt h (by decide)
theorem dl_append {α : Type} (xs : List α) (x : α) : (xs ++ [x]).dropLast = xs := by simp
theorem last_at {α : Type} (xs : List α) (x : α) : (xs ++ [x])[(xs ++ [x]).length - 1]? = some x := by simp
theorem cut1 (xs : List V) (x : V) : cutV (x :: xs) (some 1) none = xs := by
  have e : HT.sIx (x :: xs).length 0 (some 1) = 1 := by
    have := HT.sIx_nat (x :: xs).length 0 1
    rw [List.length_cons] at this ⊢
    exact this.trans (by omega)
  unfold cutV
  rw [e]
  show (List.drop 1 (x :: xs)).take ((x :: xs).length - 1) = xs
  simp
theorem cut1_not (xs : List V) (x : V) : ¬ (HT.sIx (x :: xs).length 0 (some 1) = 0 ∧ HT.sIx (x :: xs).length (x :: xs).length none = (x :: xs).length) := by
  have e : HT.sIx (x :: xs).length 0 (some 1) = 1 := by
    have := HT.sIx_nat (x :: xs).length 0 1
    rw [List.length_cons] at this ⊢
    exact this.trans (by omega)
  rw [e]; intro h; exact absurd h.1 (by decide)

/-! ## what a kind is -/
def isBn : PyData → Bool
  | .int n => decide (0 ≤ n) && decide (n < 8)
  | _ => false
/-- a kind, if what it is made of are such -/
def shp : PyData → Bool
  | .tuple (.str w :: r) =>
    if w = "base" then (match r with | [x] => isBn x | _ => false)
    else if w = "unit" then r.isEmpty
    else (decide (w = "both") || decide (w = "from")) && r.length == 2
  | _ => false
def isKd : PyData → Bool
  | .tuple [.str w] => decide (w = "unit")
  | .tuple [.str w, x] => decide (w = "base") && isBn x
  | .tuple [.str w, x, y] => (decide (w = "both") || decide (w = "from")) && (isKd x && isKd y)
  | _ => false
theorem isKd_dat : ∀ k : Kd, k.ok → isKd k.dat = true
  | .b n, h => by
    have h' : n < 8 := h
    simp only [Kd.dat, isKd, isBn]
    rw [decide_eq_true (by omega : (0 : Int) ≤ (n : Int)), decide_eq_true (by omega : (n : Int) < 8)]; decide
  | .u, _ => by decide
  | .p x y, h => by simp only [Kd.dat, isKd, isKd_dat x h.1, isKd_dat y h.2]; decide
  | .f x y, h => by simp only [Kd.dat, isKd, isKd_dat x h.1, isKd_dat y h.2]; decide
theorem kd_of : ∀ d : PyData, isKd d = true → ∃ k : Kd, k.ok ∧ d = k.dat
  | .tuple [.str w], h => by
    simp only [isKd, decide_eq_true_eq] at h
    exact ⟨.u, trivial, by rw [h]; rfl⟩
  | .tuple [.str w, x], h => by
    simp only [isKd, Bool.and_eq_true, decide_eq_true_eq] at h
    obtain ⟨h1, h2⟩ := h
    cases x <;> simp only [isBn, Bool.and_eq_true, decide_eq_true_eq] at h2 <;> try cases h2
    rename_i n a b
    refine ⟨.b n.toNat, by show n.toNat < 8; omega, ?_⟩
    have e : ((n.toNat : Nat) : Int) = n := by omega
    simp only [Kd.dat, e, h1]
  | .tuple [.str w, x, y], h => by
    simp only [isKd, Bool.and_eq_true, Bool.or_eq_true, decide_eq_true_eq] at h
    obtain ⟨h1, h2, h3⟩ := h
    obtain ⟨kx, ox, ex⟩ := kd_of x h2
    obtain ⟨ky, oy, ey⟩ := kd_of y h3
    rcases h1 with h1 | h1
    · exact ⟨.p kx ky, ⟨ox, oy⟩, by rw [h1, ex, ey]; rfl⟩
    · exact ⟨.f kx ky, ⟨ox, oy⟩, by rw [h1, ex, ey]; rfl⟩
  | .none, h => by simp [isKd] at h
  | .bool _, h => by simp [isKd] at h
  | .int _, h => by simp [isKd] at h
  | .str _, h => by simp [isKd] at h
  | .list _, h => by simp [isKd] at h
  | .dict _, h => by simp [isKd] at h
  | .tuple [], h => by simp [isKd] at h
  | .tuple (.none :: _), h => by simp [isKd] at h
  | .tuple (.bool _ :: _), h => by simp [isKd] at h
  | .tuple (.int _ :: _), h => by simp [isKd] at h
  | .tuple (.list _ :: _), h => by simp [isKd] at h
  | .tuple (.tuple _ :: _), h => by simp [isKd] at h
  | .tuple (.dict _ :: _), h => by simp [isKd] at h
  | .tuple (.str _ :: _ :: _ :: _ :: _), h => by simp [isKd] at h
def kids : PyData → List PyData
  | .tuple (.str w :: r) => if w = "both" ∨ w = "from" then r else []
  | _ => []
theorem kids_sz : ∀ d : PyData, szs (kids d) < sz d
  | .none => by simp [kids, sz, szs]
  | .bool _ => by simp [kids, sz, szs]
  | .int _ => by simp [kids, sz, szs]
  | .str _ => by simp [kids, sz, szs]
  | .list _ => by simp only [kids, sz, szs]; omega
  | .dict _ => by simp [kids, sz, szs]
  | .tuple [] => by simp [kids, sz, szs]
  | .tuple (.none :: _) => by simp only [kids, sz, szs]; omega
  | .tuple (.bool _ :: _) => by simp only [kids, sz, szs]; omega
  | .tuple (.int _ :: _) => by simp only [kids, sz, szs]; omega
  | .tuple (.list _ :: _) => by simp only [kids, sz, szs]; omega
  | .tuple (.tuple _ :: _) => by simp only [kids, sz, szs]; omega
  | .tuple (.dict _ :: _) => by simp only [kids, sz, szs]; omega
  | .tuple (.str w :: r) => by
    simp only [kids]
    split
    · simp only [sz, szs]; omega
    · simp only [sz, szs]; omega
/-- a thing that has a kind's shape -/
theorem shp_is : ∀ d : PyData, shp d = true → ∃ w r, d = .tuple (.str w :: r)
  | .tuple (.str w :: r), _ => ⟨w, r, rfl⟩
  | .tuple [], h => by simp [shp] at h
  | .tuple (.none :: _), h => by simp [shp] at h
  | .tuple (.bool _ :: _), h => by simp [shp] at h
  | .tuple (.int _ :: _), h => by simp [shp] at h
  | .tuple (.list _ :: _), h => by simp [shp] at h
  | .tuple (.tuple _ :: _), h => by simp [shp] at h
  | .tuple (.dict _ :: _), h => by simp [shp] at h
  | .none, h => by simp [shp] at h
  | .bool _, h => by simp [shp] at h
  | .int _, h => by simp [shp] at h
  | .str _, h => by simp [shp] at h
  | .list _, h => by simp [shp] at h
  | .dict _, h => by simp [shp] at h
theorem unit_ne_base : ¬ (("unit" : Str) = "base") := by decide
/-- one turn of a walk that takes a thing apart -/
theorem isKd_turn : ∀ d : PyData, isKd d = (shp d && (kids d).all isKd)
  | .none => rfl
  | .bool _ => rfl
  | .int _ => rfl
  | .str _ => rfl
  | .list _ => rfl
  | .dict _ => rfl
  | .tuple [] => by simp [isKd, shp]
  | .tuple (.none :: _) => by simp [isKd, shp]
  | .tuple (.bool _ :: _) => by simp [isKd, shp]
  | .tuple (.int _ :: _) => by simp [isKd, shp]
  | .tuple (.list _ :: _) => by simp [isKd, shp]
  | .tuple (.tuple _ :: _) => by simp [isKd, shp]
  | .tuple (.dict _ :: _) => by simp [isKd, shp]
  | .tuple [.str w] => by
    by_cases h : w = "base"
    · subst h; decide
    · by_cases h2 : w = "unit"
      · subst h2; decide
      · simp [isKd, shp, h, h2]
  | .tuple [.str w, x] => by
    by_cases h : w = "base"
    · subst h
      have e : kids (.tuple [.str "base", x]) = [] := by simp only [kids]; exact if_neg (by decide)
      rw [e]; simp [isKd, shp]
    · by_cases h2 : w = "unit"
      · subst h2; simp [isKd, shp, unit_ne_base]
      · simp [isKd, shp, h, h2]
  | .tuple [.str w, x, y] => by
    by_cases h : w = "base"
    · subst h; simp [isKd, shp]; intro h3; rcases h3 with h3 | h3 <;> exact absurd h3 (by decide)
    · by_cases h2 : w = "unit"
      · subst h2; simp [isKd, shp, unit_ne_base]; intro h3; rcases h3 with h3 | h3 <;> exact absurd h3 (by decide)
      · by_cases h3 : w = "both" ∨ w = "from"
        · simp [isKd, shp, h, h2, kids, h3]
        · have h4 : ¬ w = "both" := fun e => h3 (.inl e)
          have h5 : ¬ w = "from" := fun e => h3 (.inr e)
          simp [isKd, shp, h, h2, h4, h5]
  | .tuple (.str w :: x :: y :: z :: r) => by
    by_cases h : w = "base"
    · subst h; simp [isKd, shp]
    · by_cases h2 : w = "unit"
      · subst h2; simp [isKd, shp, unit_ne_base]
      · simp [isKd, shp, h, h2]
end KB
namespace KB
theorem iteT' {c : Bool} {A B : Prop} (e : c = true) (h : A) : if c = true then A else B := by rw [if_pos e]; exact h
theorem iteF' {c : Bool} {A B : Prop} (e : c = false) (h : B) : if c = true then A else B := by rw [e]; exact L2.iteF h
end KB
namespace KB
open L2
theorem at0 {α : Type} (x : α) (xs : List α) : atI (x :: xs) 0 = some x := atI_nat (j := 0) rfl
theorem at1 {α : Type} (x y : α) (xs : List α) : atI (x :: y :: xs) 1 = some y := atI_nat (j := 1) rfl
theorem at2 {α : Type} (x y z : α) (xs : List α) : atI (x :: y :: z :: xs) 2 = some z := atI_nat (j := 2) rfl
theorem qbl {Q : VK} {H : Hp} {a b : Bool} (q : Q (.bl a) H) (e : a = b) : Q (.bl b) H := e ▸ q
theorem len_cons_int {α : Type} (x : α) (xs : List α) : (((x :: xs).length : Nat) : Int) = (xs.length : Int) + 1 := by rw [List.length_cons]; omega
end KB
namespace KB
open PySem L2
theorem same_keepO' {H : Hp} {l : Addr} (hl : H l = none) {o : HO} : Same H (out l (upd H l o)) := fun b u e => by
  have n := ne_of_none e hl
  rw [out_ne n, upd_ne n]; exact e
theorem same_keep {H H' : Hp} {l : Addr} (hl : H l = none) (s : Same H (out l H')) (o : HO) : Same H (upd H' l o) := fun b u e => by
  have n := ne_of_none e hl
  rw [upd_ne n]; exact (out_some (s b u e)).2
theorem same_keepO {H H' : Hp} {l : Addr} (s : Same H (out l H')) (o : HO) : Same H (out l (upd H' l o)) := fun b u e => by
  obtain ⟨n, h⟩ := out_some (s b u e)
  rw [out_ne n, upd_ne n]; exact h
theorem out_upd {H : Hp} {l : Addr} {o : HO} : Same (out l H) (upd H l o) := fun b u e => by
  obtain ⟨n, h⟩ := out_some e
  rw [upd_ne n]; exact h
theorem of_out {H H' : Hp} {l : Addr} (s : Same H (out l H')) : Same H H' := fun b u e => (out_some (s b u e)).2
end KB

namespace KB
open PySem PySem.Spec PyProof.Rows L2

/-! ## texts of kinds, as lists of codes -/
def tx (l : List Nat) : Str := ⟨l.toArray⟩
theorem tx_tl (x : Str) : tx x.cps.toList = x := by cases x; simp [tx]
theorem tl_tx (l : List Nat) : (tx l).cps.toList = l := by simp [tx]
theorem tx_append (a b : List Nat) : tx a ++ tx b = tx (a ++ b) := Str.ext' (by rw [Str.cps_append]; simp [tx])
theorem tx_length (a : List Nat) : (tx a).length = a.length := by show a.toArray.size = _; simp
theorem tx_inj {a b : List Nat} (h : tx a = tx b) : a = b := by rw [← tl_tx a, h, tl_tx]
namespace Kd
def cod : Kd → List Nat
  | b n => [97 + n]
  | u => [49]
  | p x y => 40 :: (x.cod ++ 42 :: (y.cod ++ [41]))
  | f x y => 40 :: (x.cod ++ 62 :: (y.cod ++ [41]))
def txt (k : Kd) : Str := tx k.cod
theorem cod_length : ∀ k : Kd, k.cod.length + 3 ≤ 4 * k.leaves
  | b _ => by simp [cod, leaves]
  | u => by simp [cod, leaves]
  | p x y => by have := cod_length x; have := cod_length y; simp only [cod, leaves, List.length_cons, List.length_append, List.length_nil]; omega
  | f x y => by have := cod_length x; have := cod_length y; simp only [cod, leaves, List.length_cons, List.length_append, List.length_nil]; omega
theorem leaves_sz : ∀ k : Kd, k.leaves + 1 ≤ sz k.dat
  | b _ => by simp [dat, sz, szs, leaves]
  | u => by simp [dat, sz, szs, leaves]
  | p x y => by have := leaves_sz x; have := leaves_sz y; simp only [dat, sz, szs, leaves]; omega
  | f x y => by have := leaves_sz x; have := leaves_sz y; simp only [dat, sz, szs, leaves]; omega
/-- what a walk over the kind has to do -/
def wk : Kd → Nat
  | b _ => 1 | u => 1
  | p x y => x.wk + y.wk + 4
  | f x y => x.wk + y.wk + 4
theorem wk_le : ∀ k : Kd, k.wk + 4 ≤ 5 * k.leaves
  | b _ => by simp [wk, leaves]
  | u => by simp [wk, leaves]
  | p x y => by have := wk_le x; have := wk_le y; simp only [wk, leaves]; omega
  | f x y => by have := wk_le x; have := wk_le y; simp only [wk, leaves]; omega
theorem dat_inj : ∀ x y : Kd, x.dat = y.dat → x = y
  | b n, b m, h => by simp only [dat, PyData.tuple.injEq, List.cons.injEq, PyData.int.injEq] at h; have : n = m := by omega
                      rw [this]
  | u, u, _ => rfl
  | p x y, p x' y', h => by
    simp only [dat, PyData.tuple.injEq, List.cons.injEq, and_true, true_and] at h
    rw [dat_inj x x' h.1, dat_inj y y' h.2]
  | f x y, f x' y', h => by
    simp only [dat, PyData.tuple.injEq, List.cons.injEq, and_true, true_and] at h
    rw [dat_inj x x' h.1, dat_inj y y' h.2]
  | b _, u, h => by simp [dat] at h
  | b _, p _ _, h => by simp [dat] at h
  | b _, f _ _, h => by simp [dat] at h
  | u, b _, h => by simp [dat] at h
  | u, p _ _, h => by simp [dat] at h
  | u, f _ _, h => by simp [dat] at h
  | p _ _, b _, h => by simp [dat] at h
  | p _ _, u, h => by simp [dat] at h
  | f _ _, b _, h => by simp [dat] at h
  | f _ _, u, h => by simp [dat] at h
  | p _ _, f _ _, h => by
    simp only [dat, PyData.tuple.injEq, List.cons.injEq, PyData.str.injEq] at h
    exact absurd h.1 (by decide)
  | f _ _, p _ _, h => by
    simp only [dat, PyData.tuple.injEq, List.cons.injEq, PyData.str.injEq] at h
    exact absurd h.1 (by decide)
end Kd
theorem joinL_nil : ∀ ls : List (List Nat), TL.joinL [] ls = ls.flatten
  | [] => rfl
  | [p] => by simp [TL.joinL]
  | p :: q :: r => by simp only [TL.joinL, joinL_nil (q :: r), List.flatten_cons, List.nil_append]
theorem join_nil (ls : List (List Nat)) : Txt.join "" (ls.map tx) = tx ls.flatten := by
  rw [TL.join_eq, ← tx_tl (Str.join "" (ls.map tx))]
  have h := TL.tl_join "" (ls.map tx)
  have e : TL.tl ("" : Str) = [] := rfl
  rw [e, joinL_nil, List.map_map] at h
  have e2 : (TL.tl ∘ tx) = id := funext fun l => tl_tx l
  rw [e2, List.map_id] at h
  exact congrArg tx h
theorem join_size (ls : List (List Nat)) : ((ls.map tx).map (·.length)).sum = ls.flatten.length := by
  rw [List.map_map, List.length_flatten]
  exact congrArg List.sum (List.map_congr_left fun l _ => tx_length l)
/-- what a walk that writes a kind has on its stack -/
inductive Itm where
  | s (z : List Nat) | k (k : Kd)
namespace Itm
def dat : Itm → PyData
  | .s z => .str (tx z)
  | .k x => x.dat
def cod : Itm → List Nat
  | .s z => z
  | .k x => x.cod
def wk : Itm → Nat
  | .s _ => 1
  | .k x => x.wk
def ok : Itm → Prop
  | .s _ => True
  | .k x => x.ok
theorem wk_pos : ∀ i : Itm, 1 ≤ i.wk
  | .s _ => Nat.le_refl _
  | .k (.b _) => Nat.le_refl _
  | .k .u => Nat.le_refl _
  | .k (.p x y) => by simp only [wk, Kd.wk]; omega
  | .k (.f x y) => by simp only [wk, Kd.wk]; omega
end Itm
def wks (is : List Itm) : Nat := (is.map Itm.wk).sum
/-- the text of a stack, its last one first -/
def cods (is : List Itm) : List Nat := (is.reverse.map Itm.cod).flatten
theorem wks_append (a b : List Itm) : wks (a ++ b) = wks a + wks b := by simp [wks]
theorem cods_snoc (a : List Itm) (x : Itm) : cods (a ++ [x]) = x.cod ++ cods a := by simp [cods]
theorem cods_append (a b : List Itm) : cods (a ++ b) = cods b ++ cods a := by simp [cods]
theorem len_wks : ∀ is : List Itm, is.length ≤ wks is
  | [] => Nat.zero_le _
  | i :: r => by have := i.wk_pos; have := len_wks r; simp only [wks, List.map_cons, List.sum_cons, List.length_cons] at *; omega
end KB
namespace KB
open PySem L2
theorem Kd.ty (k : Kd) : tyN k.dat = "tuple" := by cases k <;> rfl
theorem same2 {H H' : Hp} {l p a : Addr} (h : Same H (out l (out p H'))) (o : HO) (e : a = l ∨ a = p) : Same H (out l (out p (upd H' a o))) := fun b u q => by
  obtain ⟨n1, h1⟩ := out_some (h b u q)
  obtain ⟨n2, h2⟩ := out_some h1
  rw [out_ne n1, out_ne n2, upd_ne (by rcases e with e | e <;> rw [e] <;> assumption)]
  exact h2
theorem same2_new {H H' : Hp} {l p a : Addr} (h : Same H (out l (out p H'))) (o : HO) (e : H' a = none) : Same H (out l (out p (upd H' a o))) := fun b u q => by
  obtain ⟨n1, h1⟩ := out_some (h b u q)
  obtain ⟨n2, h2⟩ := out_some h1
  rw [out_ne n1, out_ne n2, upd_ne (ne_of_none h2 e)]
  exact h2
theorem of_out2 {H H' : Hp} {l p : Addr} (s : Same H (out l (out p H'))) : Same H H' := fun b u e => (out_some (out_some (s b u e)).2).2
theorem out2_sub {H : Hp} {l p : Addr} : Same (out l (out p H)) H := of_out2 (Same.refl _)
theorem strs_map (ls : List (List Nat)) (z : List Nat) : ((ls.map tx).map V.str) ++ [V.str (tx z)] = ((ls ++ [z]).map tx).map V.str := by simp
end KB

namespace KB
open PySem PySem.Spec PyProof.Rows L2
/-! ## xs[lo:hi] = ys, the bounds of any sign -/
section
variable {prog : Program} {w : World} {A : Around} {E : Value → Shared → Prop} {s : Shared}
theorem store_cut {l b sl : Addr} {as bs : List Value} {n n2 : Nat} {vl vu : Value} {lo hi : Option Int} {Q : Unit → Shared → Prop}
    (el : s.heap.get? l = some { cls := .type "list", data := .seq as.toArray n }) (eb : s.heap.get? b = some { cls := .type "list", data := .seq bs.toArray n2 }) (nlb : l ≠ b)
    (is : s.heap.IsSliceOf sl vl vu .none) (pl : IsPart vl lo) (pu : IsPart vu hi) (ord : HT.sIx as.length 0 lo ≤ HT.sIx as.length as.length hi) (room : as.length + bs.length ≤ sizeLine)
    (k : Q () { s with heap := s.heap.update l (Obj.mapSeq fun xs => xs.extract 0 (HT.sIx as.length 0 lo) ++ bs.toArray ++ xs.extract (HT.sIx as.length as.length hi) xs.size) }) :
    wpAny (model prog w) A (setItem (.ref l) (.ref sl) (.ref b)) Q E s := by
  have Ll := (PySem.IsL.isList el).typeIs
  have Lb := (PySem.IsL.isList eb).typeIs
  have hle := HT.sIx_le as.length as.length (Nat.le_refl _) hi
  obtain ⟨o, io, ic, idt⟩ := id is
  have Ls : s.TypeIs (.ref sl) "slice" := ⟨o, io, ic⟩
  have apart : Builtin.List.listSameRef (.ref l) (.ref b) = false := beq_eq_false_iff_ne.mpr nlb
  have szA : as.toArray.size = as.length := by simp
  have szB : bs.toArray.size = bs.length := by simp
  obtain ⟨b1, b2, b3⟩ := slice_bounds lo hi as.length
  have bds : sliceBounds lo hi none as.toArray.size = (((HT.sIx as.length 0 lo : Nat) : Int), ((HT.sIx as.length as.length hi : Nat) : Int), 1) := by rw [szA]; exact Prod.ext b1 (Prod.ext b2 b3)
  generalize hp : HT.sIx as.length 0 lo = p at *
  generalize hq : HT.sIx as.length as.length hi = q at *
  have top : (max (p : Int) (q : Int)).toNat = q := by omega
  have room1 : as.toArray.size ≤ sizeLine := by omega
  have room2 : ((fun xs : Array Value => xs.extract 0 p ++ bs.toArray ++ xs.extract q xs.size) as.toArray).size ≤ sizeLine + 1 := by simp only [Array.size_append, Array.size_extract]; omega
  unfold setItem
  refine wpAny_holding (wpAny_bind (wpAny_sequenceKey Ll (by decide) (wpAny_bind (wpAny_callSpecial?_slot (name := Str.ofString "__setitem__") Ll slot_list_setitem (wpAny_call_entry slot_list_setitem Ll entry_list_setitem ?_ (args_list_setitem _ _ _))))))
  -- the key is a slice: no index of its own
  show wpAny _ _ (Builtin.List.listSubscript? (.ref sl) >>= _) _ _ s
  unfold Builtin.List.listSubscript?
  refine wpAny_bind (wpAny_bind (wpAny_specialOf Ls slice_no_index ?_))
  rw [Option.isNone_none, if_pos rfl]
  refine wpAny_pure ?_
  show wpAny _ _ (typeOf (.ref sl) >>= _) _ _ s
  refine wpAny_bind (wpAny_typeOf Ls (PySem.W.KFB.if_not (by decide) ?_))
  rw [listSliceParts_eq]
  refine wpAny_bind (wpAny_bind (wpAny_field io idt (x := .none) rfl (wpAny_bind (wpAny_listPart .none (PySem.W.KFB.if_not (by decide) ?_)))))
  refine wpAny_bind (wpAny_field io idt (x := vl) rfl (wpAny_bind (wpAny_listPart pl (wpAny_bind (wpAny_field io idt (x := vu) rfl (wpAny_bind (wpAny_listPart pu (wpAny_pure ?_))))))))
  refine PySem.W.KFB.if_not apart (wpAny_bind (m := Builtin.List.listAllItems (.ref b) "must assign iterable to extended slice") ?_)
  unfold Builtin.List.listAllItems
  refine wpAny_bind (wpAny_typeOf Lb (PySem.W.KFB.if_so (by decide) ?_))
  unfold Builtin.List.listItems
  refine wpAny_bind (wpAny_seqItems eb rfl (wpAny_pure (wpAny_bind (wpAny_bind (wpAny_seqItems el rfl (wpAny_pure ?_))))))
  refine wpAny_bind (wpAny_of_eq ((sliceIndices_raw lo hi none as.toArray.size (by simp)).trans (congrArg pure bds)) ?_)
  show wpAny _ _ (if ((1 : Int) == 1) = true then _ else _) _ _ s
  refine PySem.W.KFB.if_so (by decide) (wpAny_bind (wpAny_rule (PySem.W.KFB.if_not (notLongL (by omega)) ?_)))
  show wpAny _ _ (updateSeq l (fun xs => xs.extract 0 ((p : Int)).toNat ++ bs.toArray ++ xs.extract (max (p : Int) (q : Int)).toNat xs.size) >>= _) _ _ s
  rw [top, Int.toNat_natCast]
  refine wpAny_bind (wpAny_updateSeq (hz := room1) (_hz' := room2) el rfl (wpAny_bind (wpAny_letGo ?_)))
  exact wpAny_pure ⟨.none, rfl, wpAny_pure k⟩
end
section
variable {X : Cx}
/-- xs[lo:hi] = ys -/
def gCut (to : TE) (tl th : TO) : TG := fun v σ H Q => to σ H fun o H1 => tl σ H1 fun lo H2 => th σ H2 fun hi H3 => ∃ l b xs ys, o = .ref l ∧ v = .ref b ∧ H3 l = some (.lst xs) ∧ H3 b = some (.lst ys) ∧ l ≠ b ∧
  HT.sIx xs.length 0 lo ≤ HT.sIx xs.length xs.length hi ∧ xs.length + ys.length ≤ sizeLine ∧ Q σ (upd H3 l (.lst (xs.take (HT.sIx xs.length 0 lo) ++ ys ++ xs.drop (HT.sIx xs.length xs.length hi))))
theorem pg_cut {e : Expr} {lo hi : Option Expr} {te : TE} {tl th : TO} {pos p2 : Pos} (he : PE X e te) (hl : PO X lo tl) (hh : PO X hi th) : PG X (.Subscript e (.Slice lo hi none p2) pos) (gCut te tl th) := by
  refine ⟨fun pins s σ H v u Q I r h => ?_⟩
  rw [arm_assign_Subscript]
  refine wpAny_bind (wpAny_holding (thn (he.run pins s σ H _ I h) fun ov s1 ⟨x, H1, I1, r1, q1⟩ => wpAny_bind (wpAny_holding ?_)))
  refine wpAny_Slice (thn (hl.run pins s1 σ H1 _ I1 q1) fun vl s2 ⟨l0, H2, I2, pl, q2⟩ => thn (hh.run pins s2 σ H2 _ I2 q2) fun vu s3 ⟨h0, H3, I3, pu, q3⟩ => ?_)
  rw [evalPart_none]
  refine wpAny_pure ?_
  obtain ⟨l, b, xs, ys, rfl, rfl, hL, hB, nlb, ord, room, q⟩ := q3
  cases r1
  cases r
  have I4 : Inv X pins σ H3 { s3 with heap := s3.heap.push { cls := .type "slice", data := .fields #[vl, vu, .none] } } := I3.kept (t' := s3.toks) fun c o z => Heap.get?_push_of_some _ z
  obtain ⟨_, as, n, ra, la, ea⟩ := I4.lstM hL
  obtain ⟨_, bs, n2, rb, lb, eb⟩ := I4.lstM hB
  refine wpAny_bind (wpAny_standAt (wpAny_bind (wpAny_holding (store_cut ea eb nlb (Heap.IsSliceOf.new ..) pl pu (by rw [← la]; exact ord) (by omega) (wpAny_release ?_)))))
  refine ⟨σ, _, I4.lset (its' := as.take (HT.sIx as.length 0 l0) ++ bs ++ as.drop (HT.sIx as.length as.length h0)) (t' := s3.toks) hL ea ?_ (Vals.append (Vals.append (ra.take _) rb) (ra.drop _)) ?_, ?_⟩
  · exact splice_eq as bs _ _
  · have := HT.sIx_le as.length as.length (Nat.le_refl _) h0
    have o2 := ord
    rw [la] at o2
    have l2 := rb.length
    rw [List.length_append, List.length_append, List.length_take, List.length_drop]; omega
  · rw [← la]; exact q
end

/-! ## reading a kind, sign by sign -/
inductive Pt where
  | s (c : Nat) | k (x : Kd)
def Pt.dat : Pt → PyData
  | .s c => .str (tx [c])
  | .k x => x.dat
def Pt.ok : Pt → Prop
  | .s _ => True
  | .k x => x.ok
/-- a sign alone -/
def rs (c : Nat) : Option Pt :=
  if c = 49 then some (.k .u) else if 97 ≤ c ∧ c < 105 then some (.k (.b (c - 97))) else if c = 40 ∨ c = 42 ∨ c = 62 then some (.s c) else none
/-- a brace is closed; the top of the stack first -/
def clo : List Pt → Option (List Pt)
  | .k y :: .s c :: .k x :: .s b :: r => if b = 40 then (if c = 42 then some (.k (.p x y) :: r) else if c = 62 then some (.k (.f x y) :: r) else none) else none
  | _ => none
def rdR : List Nat → List Pt → Option (List Pt)
  | [], st => some st
  | c :: cs, st => if c = 41 then (match clo st with | none => none | some st' => rdR cs st') else (match rs c with | none => none | some p => rdR cs (p :: st))
def rdE : List Pt → Option Kd
  | [.k x] => some x
  | _ => none
def rdK (cs : List Nat) : Option Kd := (rdR cs []).bind rdE
theorem rs_ok {c : Nat} {p : Pt} (h : rs c = some p) : p.ok := by
  unfold rs at h
  split at h
  · cases h; trivial
  · split at h
    · cases h; rename_i h2; show c - 97 < 8; omega
    · split at h
      · cases h; trivial
      · cases h
theorem clo_is {st st' : List Pt} (h : clo st = some st') : ∃ x y c r, st = .k y :: .s c :: .k x :: .s 40 :: r ∧ ((c = 42 ∧ st' = .k (.p x y) :: r) ∨ (c = 62 ∧ st' = .k (.f x y) :: r)) := by
  unfold clo at h
  split at h
  · rename_i y c x b r
    split at h
    · rename_i hb
      subst hb
      split at h
      · rename_i hc; cases h; exact ⟨x, y, c, r, rfl, .inl ⟨hc, rfl⟩⟩
      · split at h
        · rename_i hc; cases h; exact ⟨x, y, c, r, rfl, .inr ⟨hc, rfl⟩⟩
        · cases h
    · cases h
  · cases h
theorem clo_ok {st st' : List Pt} (h : clo st = some st') (hs : ∀ p ∈ st, p.ok) : (∀ p ∈ st', p.ok) ∧ st'.length ≤ st.length := by
  obtain ⟨x, y, c, r, rfl, h2⟩ := clo_is h
  have hx : x.ok := hs (.k x) (by simp)
  have hy : y.ok := hs (.k y) (by simp)
  have hr : ∀ p ∈ r, p.ok := fun p hp => hs p (by simp [hp])
  rcases h2 with ⟨_, rfl⟩ | ⟨_, rfl⟩
  · exact ⟨fun p hp => (List.mem_cons.mp hp).elim (fun e => by rw [e]; exact ⟨hx, hy⟩) (hr p), by simp only [List.length_cons]; omega⟩
  · exact ⟨fun p hp => (List.mem_cons.mp hp).elim (fun e => by rw [e]; exact ⟨hx, hy⟩) (hr p), by simp only [List.length_cons]; omega⟩
/-- reading a kind's text puts the kind on the stack -/
theorem rdR_cod : ∀ (k : Kd) (cs : List Nat) (st : List Pt), k.ok → rdR (k.cod ++ cs) st = rdR cs (.k k :: st)
  | .b n, cs, st, h => by
    have h' : n < 8 := h
    show (if 97 + n = 41 then _ else _) = _
    rw [if_neg (by omega)]
    have e : rs (97 + n) = some (.k (.b n)) := by
      unfold rs
      rw [if_neg (by omega), if_pos (by omega)]
      congr 3; omega
    rw [e]; rfl
  | .u, cs, st, _ => rfl
  | .p x y, cs, st, h => by
    show rdR (x.cod ++ 42 :: (y.cod ++ [41]) ++ cs) (.s 40 :: st) = _
    rw [List.append_assoc, rdR_cod x _ _ h.1]
    show rdR (y.cod ++ [41] ++ cs) (.s 42 :: .k x :: .s 40 :: st) = _
    rw [List.append_assoc, rdR_cod y _ _ h.2]; rfl
  | .f x y, cs, st, h => by
    show rdR (x.cod ++ 62 :: (y.cod ++ [41]) ++ cs) (.s 40 :: st) = _
    rw [List.append_assoc, rdR_cod x _ _ h.1]
    show rdR (y.cod ++ [41] ++ cs) (.s 62 :: .k x :: .s 40 :: st) = _
    rw [List.append_assoc, rdR_cod y _ _ h.2]; rfl
theorem rdK_cod (k : Kd) (h : k.ok) : rdK k.cod = some k := by
  have e := rdR_cod k [] [] h
  rw [List.append_nil] at e
  show (rdR k.cod []).bind rdE = some k
  rw [e]; rfl
/-- a stack that reads back to the signs that were taken -/
def Pt.cod : Pt → List Nat
  | .s c => [c]
  | .k x => x.cod
def codR (st : List Pt) : List Nat := (st.reverse.map Pt.cod).flatten
theorem codR_cons (p : Pt) (st : List Pt) : codR (p :: st) = codR st ++ p.cod := by simp [codR]
theorem rs_cod {c : Nat} {p : Pt} (h : rs c = some p) : p.cod = [c] := by
  unfold rs at h
  split at h
  · rename_i h1; cases h; rw [h1]; rfl
  · split at h
    · cases h; rename_i h2; show [97 + (c - 97)] = [c]; congr 1; omega
    · split at h
      · cases h; rfl
      · cases h
theorem rdR_text : ∀ (cs : List Nat) (st st' : List Pt), rdR cs st = some st' → codR st ++ cs = codR st'
  | [], st, st', h => by cases h; simp
  | c :: cs, st, st', h => by
    unfold rdR at h
    split at h
    · rename_i hc
      split at h
      · cases h
      · rename_i st2 e
        rw [← rdR_text cs st2 st' h]
        obtain ⟨x, y, d, r, rfl, h2⟩ := clo_is e
        rcases h2 with ⟨rfl, rfl⟩ | ⟨rfl, rfl⟩ <;> simp [codR_cons, Pt.cod, Kd.cod, hc]
    · split at h
      · cases h
      · rename_i p e
        rw [← rdR_text cs (p :: st) st' h, codR_cons, rs_cod e]; simp
/-- what is read is written so -/
theorem rdK_text {cs : List Nat} {k : Kd} (h : rdK cs = some k) : k.cod = cs := by
  unfold rdK at h
  cases e : rdR cs [] with
  | none => rw [e] at h; cases h
  | some st =>
    rw [e] at h
    have h2 : rdE st = some k := h
    unfold rdE at h2
    split at h2
    · cases h2
      have := rdR_text cs [] _ e
      simpa [codR, Pt.cod] using this.symm
    · cases h2
theorem rdR_ok : ∀ (cs : List Nat) (st st' : List Pt), rdR cs st = some st' → (∀ p ∈ st, p.ok) → ∀ p ∈ st', p.ok
  | [], st, st', h, hs => by cases h; exact hs
  | c :: cs, st, st', h, hs => by
    unfold rdR at h
    split at h
    · split at h
      · cases h
      · rename_i st2 e
        exact rdR_ok cs st2 st' h (clo_ok e hs).1
    · split at h
      · cases h
      · rename_i p e
        exact rdR_ok cs (p :: st) st' h fun q hq => (List.mem_cons.mp hq).elim (fun z => by rw [z]; exact rs_ok e) (hs q)
theorem rdK_ok {cs : List Nat} {k : Kd} (h : rdK cs = some k) : k.ok := by
  unfold rdK at h
  cases e : rdR cs [] with
  | none => rw [e] at h; cases h
  | some st =>
    rw [e] at h
    have h2 : rdE st = some k := h
    unfold rdE at h2
    split at h2
    · cases h2
      exact rdR_ok cs [] _ e (fun _ z => nomatch z) (.k k) (by simp)
    · cases h2
end KB
namespace KB
open PySem L2
theorem DqAll.last4 {K : PySem.W.Frag} {H : Hp} {ds : List PyData} {a b c d : PyData} {vs : List V} (h : DqAll K H vs (ds ++ [a, b, c, d])) :
    ∃ us v1 v2 v3 v4, vs = us ++ [v1, v2, v3, v4] ∧ DqAll K H us ds ∧ Dq K H v1 a ∧ Dq K H v2 b ∧ Dq K H v3 c ∧ Dq K H v4 d := by
  have h' : DqAll K H vs (((ds ++ [a]) ++ [b]) ++ [c] ++ [d]) := by simpa using h
  obtain ⟨u4, v4, rfl, h3, r4⟩ := h'.last
  obtain ⟨u3, v3, rfl, h2, r3⟩ := h3.last
  obtain ⟨u2, v2, rfl, h1, r2⟩ := h2.last
  obtain ⟨u1, v1, rfl, h0, r1⟩ := h1.last
  exact ⟨u1, v1, v2, v3, v4, by simp, h0, r1, r2, r3, r4⟩
end KB
namespace KB
open PySem L2
theorem Kd.ne_str (k : Kd) (x : Str) : PyData.eqv k.dat (.str x) = false := by cases k <;> simp [Kd.dat, PyData.eqv]
theorem str_lay {x : Str} (h : PyData.strOk x = true) : (PyData.str x).canLay0 = true := by simpa [PyData.canLay0] using h
end KB
namespace KB
open PySem L2
theorem rdR_close (cs : List Nat) (st : List Pt) : rdR (41 :: cs) st = (clo st).bind (rdR cs) := by
  show (if 41 = 41 then _ else _) = _
  rw [if_pos rfl]; cases clo st <;> rfl
theorem rdR_sign {c : Nat} (h : ¬ c = 41) (cs : List Nat) (st : List Pt) : rdR (c :: cs) st = (rs c).bind fun p => rdR cs (p :: st) := by
  show (if c = 41 then _ else _) = _
  rw [if_neg h]; cases rs c <;> rfl
/-! ## data without lists and dicts don't lean on what may change -/
mutual
def pureT : PyData → Bool
  | .none => true | .bool _ => true | .int _ => true | .str _ => true
  | .tuple xs => pureTs xs
  | .list _ => false | .dict _ => false
def pureTs : List PyData → Bool
  | [] => true
  | x :: xs => pureT x && pureTs xs
end
theorem Kd.pure : ∀ k : Kd, pureT k.dat = true
  | .b _ => by simp [Kd.dat, pureT, pureTs]
  | .u => by simp [Kd.dat, pureT, pureTs]
  | .p x y => by simp [Kd.dat, pureT, pureTs, x.pure, y.pure]
  | .f x y => by simp [Kd.dat, pureT, pureTs, x.pure, y.pure]
theorem SqT.outp {K : PySem.W.Frag} {H : Hp} {l a : Addr} {us xs : List V} (e : H l = some (.lst us)) (h : SqT K H a xs) : SqT K (out l H) a xs := by
  rcases h with (h | ⟨o, h⟩) | h
  · exact .inl (.inl (out_at (fun z => by rw [z, e] at h; cases h) h))
  · exact .inl (.inr ⟨o, out_at (fun z => by rw [z, e] at h; cases h) h⟩)
  · exact .inr h
mutual
theorem Dq.outp {K : PySem.W.Frag} {H : Hp} {l : Addr} {us : List V} (e : H l = some (.lst us)) : ∀ {d : PyData} {v : V}, pureT d = true → Dq K H v d → Dq K (out l H) v d
  | _, _, _, .non => .non
  | _, _, _, .bl b => .bl b
  | _, _, _, .int i => .int i
  | _, _, _, .str x => .str x
  | _, _, h, .tup s a => .tup (SqT.outp e s) (DqAll.outp e (by simpa [pureT] using h) a)
  | _, _, h, .lst _ _ => by simp [pureT] at h
  | _, _, h, .dct _ => by simp [pureT] at h
theorem DqAll.outp {K : PySem.W.Frag} {H : Hp} {l : Addr} {us : List V} (e : H l = some (.lst us)) : ∀ {ds : List PyData} {vs : List V}, pureTs ds = true → DqAll K H vs ds → DqAll K (out l H) vs ds
  | _, _, _, .nil => .nil
  | d :: ds, _, h, .cons x a => by
    have h' : pureT d = true ∧ pureTs ds = true := by simpa [pureTs] using h
    exact .cons (Dq.outp e h'.1 x) (DqAll.outp e h'.2 a)
end
theorem Pt.pure (p : Pt) : pureT p.dat = true := by
  cases p with
  | s c => simp [Pt.dat, pureT]
  | k x => exact x.pure
end KB
namespace KB
open PySem L2
theorem cal_vac {P : Program} {w : World} {K : PySem.W.Frag} {mg : Str → Option Value} {base : Heap} {CX : CXT} {k : Nat} {x : Str} {ps : List Str} {sp : Sp} {st : Stmt} (A : At K mg x st) (hb : ∀ f fd, Fun K x x st f fd → Binds K fd ps [])
    (no : ∀ vs H Q E, ¬ sp vs H Q E) : Cal P w K mg base CX k x ps sp := by
  obtain ⟨f, fd, F, m⟩ := A
  exact ⟨f, fd, ⟨fun vs H Q E h => absurd h (no vs H Q E), fun A outer s H args us vs Q E _ _ _ _ h => absurd h (no vs H Q E)⟩, hb f fd F, F.kp, m⟩
end KB

namespace KB
open PySem PySem.Spec PyProof.Rows L2
/-! ## isinstance of data -/
theorem Dq.tyx {K : PySem.W.Frag} {H : Hp} {v : V} {d : PyData} (h : Dq K H v d) : TyX K H v (.type (tyN d)) := by
  cases h with
  | non => exact .base .non
  | bl b => exact .base (.bl b)
  | int i => exact .base (.int i)
  | str x => exact .base (.str x)
  | lst s _ =>
    rcases s with (s | ⟨o, s⟩) | ⟨o, its, n, hk, hc, _⟩
    · exact .base (.lst s)
    · exact .base (.frz s)
    · exact .kList hk hc
  | tup s _ =>
    rcases s with (s | ⟨o, s⟩) | ⟨o, its, n, hk, hc, _⟩
    · exact .base (.tup s)
    · exact .fTuple s
    · exact .kTuple hk hc
  | dct e => exact .base (.dK e)
def isiN (T S : String) : Bool := T == S || (T == "bool" && S == "int")
def okS (S : String) : Bool := ["int", "str", "bool", "tuple", "list", "dict"].contains S
theorem kit_n (d : PyData) {S : String} (h : okS S = true) : kitB (tyN d) S = some (isiN (tyN d) S) := by
  have h' : S ∈ ["int", "str", "bool", "tuple", "list", "dict"] := by simpa [okS] using h
  have all : ∀ T ∈ ["NoneType", "bool", "int", "str", "list", "tuple", "dict"], ∀ S ∈ ["int", "str", "bool", "tuple", "list", "dict"], kitB T S = some (isiN T S) := by decide +kernel
  refine all _ ?_ S h'
  cases d <;> simp [tyN]
def rIsiD (K : PySem.W.Frag) : List V → Hp → VK → Prop := fun xs H Q => ∃ (x : V) (S : String) (d : PyData), xs = [x, .ty S] ∧ Dq K H x d ∧ okS S = true ∧ Q (.bl (isiN (tyN d) S)) H
theorem call_isiD {X : Cx} : CallR X (.builtin "isinstance") (rIsiD X.K) := by
  intro pins s σ H xs us Q I r ⟨x, S, d, e, hd, hs, q⟩
  exact call_isi pins s σ H xs us Q I r ⟨x, .ty S, _, .type S, _, e, .ty S, hd.tyx, kit_ty (kit_n d hs), q⟩
/-! ## equality of kinds -/
mutual
theorem eqv_refl : ∀ d : PyData, d.canLay0 = true → PyData.eqv d d = true
  | .none, _ => by simp [PyData.eqv]
  | .bool _, _ => by simp [PyData.eqv]
  | .int _, _ => by simp [PyData.eqv]
  | .str _, _ => by simp [PyData.eqv]
  | .list xs, h => by simp only [PyData.eqv]; exact eqvs_refl xs (by simpa [PyData.canLay0] using h)
  | .tuple xs, h => by simp only [PyData.eqv]; exact eqvs_refl xs (by simpa [PyData.canLay0] using h)
  | .dict _, h => by simp [PyData.canLay0] at h
theorem eqvs_refl : ∀ ds : List PyData, PyData.canLayAll0 ds = true → PyData.eqvAll ds ds = true
  | [], _ => by simp [PyData.eqvAll]
  | d :: ds, h => by
    have h' : d.canLay0 = true ∧ PyData.canLayAll0 ds = true := by simpa [PyData.canLayAll0] using h
    simp [PyData.eqvAll, eqv_refl d h'.1, eqvs_refl ds h'.2]
end
theorem str_ne {x y : Str} (h : x ≠ y) : (x == y) = false := beq_eq_false_iff_ne.mpr h
theorem ev_tup (xs ys : List PyData) : PyData.eqv (.tuple xs) (.tuple ys) = PyData.eqvAll xs ys := by simp only [PyData.eqv]
theorem ev_lst (xs ys : List PyData) : PyData.eqv (.list xs) (.list ys) = PyData.eqvAll xs ys := by simp only [PyData.eqv]
theorem ev_str (x y : Str) : PyData.eqv (.str x) (.str y) = (x == y) := by simp only [PyData.eqv]
theorem ev_int (x y : Int) : PyData.eqv (.int x) (.int y) = (x == y) := by simp only [PyData.eqv]
theorem ev_cons (x y : PyData) (xs ys : List PyData) : PyData.eqvAll (x :: xs) (y :: ys) = (PyData.eqv x y && PyData.eqvAll xs ys) := by simp only [PyData.eqvAll]
theorem ev_nil : PyData.eqvAll [] [] = true := by simp only [PyData.eqvAll]
theorem ev_nilc (y : PyData) (ys : List PyData) : PyData.eqvAll [] (y :: ys) = false := by simp only [PyData.eqvAll]
theorem ev_cnil (y : PyData) (ys : List PyData) : PyData.eqvAll (y :: ys) [] = false := by simp only [PyData.eqvAll]
theorem Kd.eqv (x : Kd) : ∀ y : Kd, PyData.eqv x.dat y.dat = decide (x = y) := by
  have n1 := str_ne (show ("both" : Str) ≠ "from" by decide)
  have n2 := str_ne (show ("from" : Str) ≠ "both" by decide)
  induction x with
  | b n =>
    intro y
    cases y with
    | b m =>
      simp only [Kd.dat, ev_tup, ev_cons, ev_nil, ev_str, ev_int, beq_self_eq_true, Bool.true_and, Bool.and_true]
      by_cases h : n = m
      · subst h; simp
      · rw [decide_eq_false (by intro z; cases z; exact h rfl)]
        exact beq_eq_false_iff_ne.mpr (by omega)
    | u => simp [Kd.dat, ev_tup, ev_cons, ev_str, ev_nil, ev_nilc, ev_cnil]
    | p _ _ => simp [Kd.dat, ev_tup, ev_cons, ev_str, ev_nil, ev_nilc, ev_cnil]
    | f _ _ => simp [Kd.dat, ev_tup, ev_cons, ev_str, ev_nil, ev_nilc, ev_cnil]
  | u =>
    intro y
    cases y <;> simp [Kd.dat, ev_tup, ev_cons, ev_str, ev_nil, ev_nilc, ev_cnil]
  | p a1 b1 ih1 ih2 =>
    intro y
    cases y with
    | b _ => simp [Kd.dat, ev_tup, ev_cons, ev_str, ev_nil, ev_nilc, ev_cnil]
    | u => simp [Kd.dat, ev_tup, ev_cons, ev_str, ev_nil, ev_nilc, ev_cnil]
    | f _ _ => simp [Kd.dat, ev_tup, ev_cons, ev_str, n1]
    | p c1 d1 =>
      simp only [Kd.dat, ev_tup, ev_cons, ev_nil, ev_str, beq_self_eq_true, Bool.true_and, Bool.and_true, ih1, ih2]
      by_cases h : a1 = c1 <;> by_cases h2 : b1 = d1 <;> simp [h, h2]
  | f a1 b1 ih1 ih2 =>
    intro y
    cases y with
    | b _ => simp [Kd.dat, ev_tup, ev_cons, ev_str, ev_nil, ev_nilc, ev_cnil]
    | u => simp [Kd.dat, ev_tup, ev_cons, ev_str, ev_nil, ev_nilc, ev_cnil]
    | p _ _ => simp [Kd.dat, ev_tup, ev_cons, ev_str, n2]
    | f c1 d1 =>
      simp only [Kd.dat, ev_tup, ev_cons, ev_nil, ev_str, beq_self_eq_true, Bool.true_and, Bool.and_true, ih1, ih2]
      by_cases h : a1 = c1 <;> by_cases h2 : b1 = d1 <;> simp [h, h2]
theorem Kd.cod_inj {x y : Kd} (hx : x.ok) (hy : y.ok) (h : x.cod = y.cod) : x = y := by
  have := rdK_cod x hx
  rw [h, rdK_cod y hy] at this
  exact (Option.some.inj this).symm
theorem Kd.txt_inj {x y : Kd} (hx : x.ok) (hy : y.ok) (h : x.txt = y.txt) : x = y := Kd.cod_inj hx hy (tx_inj h)
end KB
namespace KB
open PySem L2
/-- a displayed dict of two texts, asked by one of them -/
theorem dget2 {H : Hp} {p : Addr} {a b : Str} {x y : V} (hab : a ≠ b) : DGet (upd H p (.dK (mergeK [] [(Sum.inr a, x), (Sum.inr b, y)]))) p (.str a) (some x) ∧ DGet (upd H p (.dK (mergeK [] [(Sum.inr a, x), (Sum.inr b, y)]))) p (.str b) (some y) := by
  have n1 : ¬ ((Sum.inr a : Key) = Sum.inr b) := fun z => hab (Sum.inr.inj z)
  have e : mergeK [] [(Sum.inr a, x), (Sum.inr b, y)] = [((Sum.inr a : Key), x), (Sum.inr b, y)] := by simp [mergeK, putK, n1]
  rw [e]
  have k1 := DGet.k (k := Sum.inr a) (upd_same (H := H) (a := p) (o := .dK [((Sum.inr a : Key), x), (Sum.inr b, y)]))
  have k2 := DGet.k (k := Sum.inr b) (upd_same (H := H) (a := p) (o := .dK [((Sum.inr a : Key), x), (Sum.inr b, y)]))
  have v1 : valV [((Sum.inr a : Key), x), (Sum.inr b, y)] (Sum.inr a) = some x := by simp [valV]
  have v2 : valV [((Sum.inr a : Key), x), (Sum.inr b, y)] (Sum.inr b) = some y := by simp [valV, n1]
  rw [v1] at k1
  rw [v2] at k2
  exact ⟨k1, k2⟩
end KB
namespace KB
open PySem L2
/-- pairs and functions, told as one -/
structure Mk2 (mk : Kd → Kd → Kd) (wd : Str) : Prop where
  dat : ∀ x y, (mk x y).dat = .tuple [.str wd, x.dat, y.dat]
  ok : ∀ x y, (mk x y).ok ↔ x.ok ∧ y.ok
  leaves : ∀ x y, (mk x y).leaves = x.leaves + y.leaves
  deep : ∀ x y, (mk x y).deep = 1 + max x.deep y.deep
  wd : wd = "both" ∨ wd = "from"
theorem mk_p : Mk2 Kd.p "both" := ⟨fun _ _ => rfl, fun _ _ => Iff.rfl, fun _ _ => rfl, fun _ _ => rfl, .inl rfl⟩
theorem mk_f : Mk2 Kd.f "from" := ⟨fun _ _ => rfl, fun _ _ => Iff.rfl, fun _ _ => rfl, fun _ _ => rfl, .inr rfl⟩
/-- a kind is a leaf, or made of two -/
theorem Kd.cases2 {K : PySem.W.Frag} {H : Hp} {v : V} (k : Kd) (hd : Dq K H v k.dat) :
    (∃ a xs, v = .ref a ∧ SqT K H a xs ∧ xs.length < 3 ∧ k.leaves = 1) ∨
    ∃ (mk mk2 : Kd → Kd → Kd) (wd od : Str) (x y : Kd) (a : Addr) (v1 v2 : V), k = mk x y ∧ Mk2 mk wd ∧ Mk2 mk2 od ∧ ((wd = "both" ∧ od = "from") ∨ (wd = "from" ∧ od = "both")) ∧ v = .ref a ∧ SqT K H a [.str wd, v1, v2] ∧ Dq K H v1 x.dat ∧ Dq K H v2 y.dat := by
  cases k with
  | b n =>
    cases hd with
    | tup hS hA => exact .inl ⟨_, _, rfl, hS, by rw [hA.length]; show 2 < 3; decide, rfl⟩
  | u =>
    cases hd with
    | tup hS hA => exact .inl ⟨_, _, rfl, hS, by rw [hA.length]; show 1 < 3; decide, rfl⟩
  | p x y =>
    cases hd with
    | tup hS hA =>
      cases hA with
      | cons h1 h2 =>
        cases h1
        cases h2 with
        | cons h3 h4 =>
          cases h4 with
          | cons h5 h6 =>
            cases h6
            exact .inr ⟨_, _, _, _, x, y, _, _, _, rfl, mk_p, mk_f, .inl ⟨rfl, rfl⟩, rfl, hS, h3, h5⟩
  | f x y =>
    cases hd with
    | tup hS hA =>
      cases hA with
      | cons h1 h2 =>
        cases h1
        cases h2 with
        | cons h3 h4 =>
          cases h4 with
          | cons h5 h6 =>
            cases h6
            exact .inr ⟨_, _, _, _, x, y, _, _, _, rfl, mk_f, mk_p, .inr ⟨rfl, rfl⟩, rfl, hS, h3, h5⟩
theorem Mk2.dq {K : PySem.W.Frag} {H : Hp} {mk : Kd → Kd → Kd} {wd : Str} (M : Mk2 mk wd) {a : Addr} {v1 v2 : V} {x y : Kd} (h : H a = some (.tup [.str wd, v1, v2])) (h1 : Dq K H v1 x.dat) (h2 : Dq K H v2 y.dat) : Dq K H (.ref a) (mk x y).dat := by
  rw [M.dat]
  exact .tup (.of h) (.cons (.str _) (.cons h1 (.cons h2 .nil)))
end KB
namespace KB
open PySem L2
theorem at_mk {K : PySem.W.Frag} {h : Heap} {mg : Str → Option Value} {x : Str} {st : Stmt} {f : Addr} {od an : Option Addr} {sl : Array (Option Value)} {oc kV dc pm cd ct : Value} (X : K.In h) (G : h.Ns mainGlobals mg)
    (a : PySem.W.nsIn K mainGlobals x = some (some (.ref f))) (l : K.lookup f = some ⟨oc, od, .func (PySem.W.fnOf x x (defArgs st) (defBody st) (defScope st) .none kV dc pm an cd ct), sl⟩) (c : PySem.W.codeIn K cd x = true) (k : PySem.W.keepIn K (.ref f) = true) : At K mg x st :=
  ⟨f, _, fun_mk (st := st) l c k, PySem.W.mg_of X G a⟩
theorem ds_mk {K : PySem.W.Frag} {h : Heap} {mg : Str → Option Value} {w : World} {x : Str} {d : Addr} {es : Array DictEntry} {n : Nat} {kvs : List (Str × V)} (X : K.In h) (G : h.Ns mainGlobals mg)
    (a : PySem.W.nsIn K mainGlobals x = some (some (.ref d))) (l : K.lookup d = some ⟨.type "dict", none, .dict es n, #[]⟩) (k : PySem.W.KeysLit w.params es.toList) (s : (d == sysModules) = false) (e : Ents kvs es.toList) : ∃ d, mg x = some (.ref d) ∧ DictS K w d kvs :=
  ⟨d, PySem.W.mg_of X G a, es, n, l, k, s, e⟩
theorem exc_mk {K : PySem.W.Frag} {h : Heap} {mg : Str → Option Value} {x : Str} {C : Addr} (X : K.In h) (G : h.Ns mainGlobals mg)
    (a : PySem.W.nsIn K mainGlobals x = some (some (.ref C))) (q : PySem.W.excIn K C [.type "ValueError", .type "Exception", .type "BaseException", .type "object"] "ValueError.__new__" = true) (k : PySem.W.keepIn K (.ref C) = true)
    (b : PySem.W.subIn K (.ref C) (.type "BaseException") = some true) (t : PySem.W.typeIn K (.ref C) = some (.type "type")) (i : PySem.W.isClsIn K C = true) (s : PySem.W.subIn K (.ref C) (.ref C) = some true) : ExcF K mg x C :=
  ⟨PySem.W.mg_of X G a, q, k, b, t, i, s⟩
end KB

namespace KB
open PySem PySem.Spec PyProof.Rows L2
/-! ## what is raised is caught by the first clause, whichever clauses follow -/
def wHit (K : PySem.W.Frag) (C : Addr) (c : Value) (i : Nat) (ts : Addr → TS) (D : Ends) : WX := fun cls d σ H =>
  cls = .ref C ∧ d = none ∧ PySem.W.exmOne K (.ref C) c = some true ∧ ∀ a, H a = none → ts a { nx := fun z H' => D.nx (z.set i none) H', rt := D.rt, bk := fun z H' => D.bk (z.set i none) H', ct := fun z H' => D.ct (z.set i none) H' } (σ.set i (some (.ref a))) H
theorem ps_try_hit {X : Cx} {x n : Str} {c : Value} {i : Nat} {body suite : List Stmt} {b₀ : Stmt} {np pos pos' : Pos} {hds : List ExceptHandler} {tb : WX → TS} {ts : Addr → TS} {C : Addr}
    (hs : X.stack = X.env :: X.outer) (hf : X.env.frame = some X.env.locals) (hN : X.N.Nodup) (hi : X.N[i]? = some n) (hln : X.env.kindOf n = some .local) (hc : Names X x c)
    (hb : ∀ (W : WX) (pn : List (Addr × Obj)) (xe : Value → Shared → Prop), Takes (X.tr pn xe) W → PassesOwn (model X.prog X.w) X.A X.env xe → PSs (X.tr pn xe) body (tb W))
    (hsu : ∀ (a : Addr) (oe : Obj) (pn : List (Addr × Obj)), Zc (.ref C) none oe → (∃ vs, oe.data = .fields vs) → PSs (X.suite a ((a, oe) :: pn)) (b₀ :: suite) (ts a)) :
    PS X (.Try body (.ExceptHandler (some (.Name x np)) (some n) (b₀ :: suite) pos' :: hds) [] [] pos) (fun D σ H => tb (wHit X.K C c i ts D) D σ H) := by
  refine ⟨fun pins s σ H D I h => ?_⟩
  have ok := I.ok
  have hfr : X.A.frames = some (X.env :: X.outer) := by rw [ok.frames, hs]
  refine wpAny_Try_except (wpAny_mono ((hb (wHit X.K C c i ts D) (X.pn ++ pins) _ (fun u s' xx => ?take) PassesOwn.looking).run [] s σ H D (Inv.toTry I _) h) (fun f s1 hsp => ?_) fun e s1 he => he)
  case take =>
    obtain ⟨a, B, sI, pins', σ', H', cls, d, rfl, J', nb, up, sky, na, os, ag, rfl, rfl, hit, yes⟩ := xx
    have J := Inv.ofTry J' ok
    have sky2 : Sky B (X.env :: X.outer) a (Zc (.ref C) none) X.env.locals s'.heap := hs ▸ sky
    refine Sky.land Zc.steady hfr hf sky2 fun h3 fl3 up3 => ?_
    have J3 := Inv.landed (s' := { heap := h3, gens := s'.gens, drawn := s'.drawn, toks := s'.toks, os := s'.os }) J nb fl3.left (up.trans up3) os ag
    obtain ⟨oe3, vs3, he3, hz3, hd3⟩ := HandSPX.FlyingZ.there fl3
    have far : a ∉ List.filterMap (fun y : Env => y.frame) (X.env :: X.outer) := fun hm => by
      obtain ⟨_, o', e', hnf⟩ := Heap.FunFrames.mem fl3.2.2.1 hm
      rw [he3] at e'
      cases e'
      exact hnf vs3 hd3
    have nL : a ≠ X.env.locals := fun z => far (List.mem_filterMap.mpr ⟨X.env, List.mem_cons_self, by rw [hf, z]⟩)
    have nF : a ∉ X.fs := fun hm => by
      obtain ⟨y, hy, q⟩ := List.mem_filterMap.mp hm
      exact far (List.mem_filterMap.mpr ⟨y, List.mem_cons_of_mem _ hy, q⟩)
    have S3 := Inv.suite J3 he3 hd3 na nL nF
    refine wpAny_handleBy_cons (codeAny_handlers_test ?_) (fun z => nomatch z)
    have LT : PySem.W.Looks (model X.prog X.w) h3 (typeOf (.ref a)) (.ref C) := fun A Q E s k q => wpAny_typeOf_ref (k a oe3 he3) (by rw [hz3.1]; exact q)
    have LM := PySem.W.exm_one J3.kIn LT hit
    have test : ∀ {Q : Value → Shared → Prop} {E : Value → Shared → Prop}, Q c { heap := h3, gens := s'.gens, drawn := s'.drawn, toks := s'.toks, os := s'.os } →
        wpAny (model X.prog X.w) (X.A.mark (some (.ref a))) (eval (.Name x np) X.env) Q E { heap := h3, gens := s'.gens, drawn := s'.drawn, toks := s'.toks, os := s'.os } := fun q => by
      obtain ⟨hg, hdbg, hm | ⟨hm, hv, hnn⟩⟩ := hc
      · exact ld_glob S3 hg hm q hdbg
      · exact ld_blt S3 hg hm hv q hnn hdbg
    refine test (PySem.W.Looks.here LM ?_)
    refine codeAny_handlers_suite_as (HandSPX.lands_againZ fl3 fun h4 fl4 up4 => ?_)
    have J4 := Inv.landed (s' := { heap := h4, gens := s'.gens, drawn := s'.drawn, toks := s'.toks, os := s'.os }) J nb fl4.left ((up.trans up3).trans up4) os ag
    obtain ⟨oe4, vs4, he4, hz4, hd4⟩ := HandSPX.FlyingZ.there fl4
    have S4 := Inv.suite J4 he4 hd4 na nL nF
    refine store_ok (X := X.suite a ((a, oe4) :: (X.pn ++ pins))) S4 hN hi (.inl hln) (v := .ref a) rfl (fun s5 S5 => ?_) (.inr hln)
    refine wpAny_mono ((hsu a oe4 (X.pn ++ pins) hz4 ⟨vs4, hd4⟩).run [] s5 _ H' _ S5 (yes a na)) (fun f s6 hsp => ?_) fun _ _ z => False.elim z
    cases f with
    | next => obtain ⟨σ6, H6, S6, q6⟩ := hsp; exact gone_ok (Inv.unsuite S6 ok) hN hi hln fun s7 J7 => ⟨_, H6, J7, q6⟩
    | brk => obtain ⟨σ6, H6, S6, q6⟩ := hsp; exact gone_ok (Inv.unsuite S6 ok) hN hi hln fun s7 J7 => ⟨_, H6, J7, q6⟩
    | cont => obtain ⟨σ6, H6, S6, q6⟩ := hsp; exact gone_ok (Inv.unsuite S6 ok) hN hi hln fun s7 J7 => ⟨_, H6, J7, q6⟩
    | ret u => obtain ⟨v6, σ6, H6, S6, r6, q6⟩ := hsp; exact gone_ok (Inv.unsuite S6 ok) hN hi hln fun s7 J7 => ⟨v6, _, H6, J7, r6, q6⟩
  · cases f with
    | next => obtain ⟨σ', H', J', q⟩ := hsp; exact wpAny_execs_nil ⟨σ', H', Inv.ofTry J' ok, q⟩
    | brk => obtain ⟨σ', H', J', q⟩ := hsp; exact ⟨σ', H', Inv.ofTry J' ok, q⟩
    | cont => obtain ⟨σ', H', J', q⟩ := hsp; exact ⟨σ', H', Inv.ofTry J' ok, q⟩
    | ret u => obtain ⟨v, σ', H', J', r, q⟩ := hsp; exact ⟨v, σ', H', Inv.ofTry J' ok, r, q⟩
/-! ## isinstance of what was caught: one class, a tuple of classes -/
def rCaught (K : PySem.W.Frag) (D a : Addr) : List V → Hp → VK → Prop := fun xs H Q => rIsE K D a xs H Q ∨
  ∃ (tp : Addr) (cs : List V) (us : List Value) (b : Bool), xs = [.ref a, .ref tp] ∧ H tp = some (.tup cs) ∧ Paired ClsV cs us ∧ PySem.W.kitAny K (.ref D) us = some b ∧ Q (.bl b) H
theorem call_caught {X : Cx} {a D : Addr} {oe : Obj} {pn : List (Addr × Obj)} (C : ExcC X.K D) (hz : Zc (.ref D) none oe) (hf : ∃ vs, oe.data = .fields vs) :
    CallR (X.suite a ((a, oe) :: pn)) (.builtin "isinstance") (rCaught X.K D a) := by
  intro pins s σ H xs us Q I r h
  rcases h with h | ⟨tp, cs, ws, b, rfl, hT, k, e, q⟩
  · exact call_isE C hz hf pins s σ H xs us Q I r h
  · obtain ⟨u1, u2, rfl, r1, r2⟩ := L2.vals2 r
    cases r1
    cases r2
    obtain ⟨hget, _⟩ := I.pin (a, oe) (List.mem_append.mpr (.inl List.mem_cons_self))
    obtain ⟨vs, hv⟩ := hf
    obtain ⟨oc, od, dt, sl⟩ := oe
    obtain ⟨h1, h2⟩ := hz
    cases h1
    cases h2
    cases hv
    have J : PySem.W.InstAt s.heap a ⟨.ref D, none, .fields vs, sl⟩ D none := ⟨hget, rfl, rfl, trivial⟩
    obtain ⟨_, its, rv, o, e1, e2, n, e3⟩ := I.hok tp (.tup cs) hT
    have e4 := ClsV.all k rv
    subst e4
    obtain ⟨oc2, od2, dt2, sl2⟩ := o
    cases e2
    cases e3
    exact PySem.W.kia_tup (PySem.W.handS_kitx_exc C.hg C.hk C.hs C.hd C.ha C.hn C.ht C.hm) I.kIn J e1 e (fun z => nomatch z) fun tk => ⟨.bl b, H, Inv.tok I tk, rfl, q⟩
/-! ## s[::-1] of a text: some text, no longer -/
def tRevT (te : TE) : TE := fun σ H Q => te σ H fun x H1 => ∃ z : Str, x = .str z ∧ z.length ≤ sizeLine ∧ ∀ y : Str, y.length ≤ z.length → Q (.str y) H1
theorem back_length (n : Nat) : (PySem.Builtin.Str.strSliceIndices none none (-1) n).length ≤ n := by
  simp only [PySem.Builtin.Str.strSliceIndices, PySem.sliceRange, List.length_map, List.length_range]
  simp only [show ¬ ((-1 : Int) > 0) by decide, if_false]
  split
  · simp
  · simp
theorem back_text (z : Str) : (⟨(List.filterMap (fun x => z.cps[x]?) (PySem.Builtin.Str.strSliceIndices none none (-1) z.length)).toArray⟩ : Str).length ≤ z.length := by
  have a : (⟨(List.filterMap (fun x => z.cps[x]?) (PySem.Builtin.Str.strSliceIndices none none (-1) z.length)).toArray⟩ : Str).length = (List.filterMap (fun x => z.cps[x]?) (PySem.Builtin.Str.strSliceIndices none none (-1) z.length)).length := rfl
  rw [a]
  exact Nat.le_trans (List.length_filterMap_le _ _) (back_length _)
theorem pe_revT {X : Cx} {e : Expr} {te : TE} {k : Nat} {p1 p2 p3 pos : Pos} (he : PE X e te) : PE X (.Subscript e (.Slice none none (some (.UnaryOp .USub (.Constant (.int 1) k p1) p2)) p3) pos) (tRevT te) := by
  refine ⟨fun pins s σ H Q I h => Subscript_ (thn (he.run pins s σ H _ I h) ?_)⟩
  rintro v s1 ⟨x, H1, I1, r1, z, rfl, hz, q⟩
  obtain ⟨t, rfl⟩ := r1
  refine wpAny_Slice (thn (po_none.run pins s1 σ H1 (fun o H2 => o = none ∧ H2 = H1) I1 ⟨rfl, rfl⟩) ?_)
  rintro vl s2 ⟨o2, H2, I2, pl, rfl, rfl⟩
  refine thn (po_none.run pins s2 σ H2 (fun o H3 => o = none ∧ H3 = H2) I2 ⟨rfl, rfl⟩) ?_
  rintro vu s3 ⟨o3, H3, I3, pu, rfl, rfl⟩
  have hst : PO X (some (.UnaryOp .USub (.Constant (.int 1) k p1) p2)) _ := po_some (pe_un un_neg pe_int)
  refine thn (hst.run pins s3 σ H3 (fun o H4 => o = some (-1) ∧ H4 = H3) I3 ⟨1, rfl, -1, rfl, rfl, rfl⟩) ?_
  rintro vs s4 ⟨o4, H4, I4, ps, rfl, rfl⟩
  obtain ⟨l1, rfl, e1⟩ := IsPart.raw pl
  obtain ⟨l2, rfl, e2⟩ := IsPart.raw pu
  obtain ⟨l3, rfl, e3⟩ := IsPart.raw ps
  have I5 := Inv.kept (h' := s4.heap.push { cls := .type "slice", data := .fields #[partValue l1, partValue l2, partValue l3] }) (t' := s4.toks) I4 fun b ob q => Heap.get?_push_of_some _ q
  refine tail_any (typeIs_str _ z t) PySem.F.slot_str_getitem.lookup (wpAny_getItem_str_slice (l := l1) (u := l2) (st := l3) ⟨_, Heap.get?_push_size s4.heap rfl, rfl, rfl⟩ (by rw [e3]; rfl) ?_) rfl
  have hp : slicePicked z l1 l2 l3 = PySem.Builtin.Str.strSliceIndices none none (-1) z.length := by
    unfold slicePicked
    rw [e1, e2, e3]; rfl
  unfold sliceMade
  rw [hp, e3, if_neg (by simp)]
  exact ⟨Nat.le_trans (back_text z) hz, .str _, H4, Inv.tok I5 _, ⟨_, rfl⟩, q _ (back_text z)⟩
/-! ## a text, told some times: some text, no longer than that -/
def rTimes : R2 := fun x y H Q => ∃ (z : Str) (n : Int), x = .str z ∧ y = .int n ∧ 0 ≤ n ∧ n ≤ 1000000 ∧ z.length * n.toNat ≤ 1000000 ∧ ∀ u : Str, u.length ≤ z.length * n.toNat → Q (.str u) H
theorem rep_length (n : Nat) (a : Array Nat) : (List.foldl (fun x1 x2 => x1 ++ x2) #[] (List.replicate n a)).size = a.size * n := by
  have h : ∀ (m : Nat) (b : Array Nat), (List.foldl (fun x1 x2 => x1 ++ x2) b (List.replicate m a)).size = b.size + a.size * m := by
    intro m
    induction m with
    | zero => intro b; simp
    | succ m ih => intro b; rw [List.replicate_succ, List.foldl_cons, ih, Array.size_append, Nat.mul_succ]; omega
  rw [h]; simp
theorem op_times {X : Cx} : OpR X (binaryOp .Mult) rTimes := by
  intro pins s σ H x y v u Q I rx ry ⟨z, n, ex, ey, h0, h1, hz, q⟩
  subst ex
  subst ey
  obtain ⟨t, rfl⟩ := rx
  obtain ⟨t', rfl⟩ := ry
  have hs : z.length * n.toNat ≤ sizeLine := Nat.le_trans hz (by decide)
  refine P.mul_str (by rw [decide_eq_false (by omega), decide_eq_false (by omega)]; rfl) (fun _ _ => ?_) (fun _ _ => ?_) ?_
  · have e : ((z.length * n.toNat : Nat) : Int) = (z.length : Int) * n := by rw [Int.natCast_mul, Int.toNat_of_nonneg h0]
    intro hb
    have h3 : (z.length : Int) * n ≤ 1000000 := by rw [← e]; exact Int.ofNat_le.mpr hz
    by_cases hn : n = 0
    · subst hn; omega
    · have : (z.length : Int) ≤ (2 ^ 63 - 1) / n := Int.le_ediv_of_mul_le (by omega) (by omega)
      omega
  · unfold PySem.Builtin.Str.tooLong
    exact decide_eq_false (Nat.not_lt.mpr hs)
  · split
    · exact ⟨Nat.zero_le _, .str _, H, Inv.tok I _, ⟨_, rfl⟩, q _ (Nat.zero_le _)⟩
    · split
      · rename_i hn hc
        refine ⟨.str z, H, I, ⟨_, rfl⟩, q _ ?_⟩
        have : n = 1 ∨ z.length = 0 := by simpa using hc
        rcases this with rfl | h
        · simp
        · omega
      · refine ⟨?_, .str _, H, Inv.tok I _, ⟨_, rfl⟩, q _ ?_⟩
        · show (List.foldl (fun x1 x2 => x1 ++ x2) #[] (List.replicate n.toNat z.cps)).size ≤ sizeLine
          rw [rep_length]; exact hs
        · show (List.foldl (fun x1 x2 => x1 ++ x2) #[] (List.replicate n.toNat z.cps)).size ≤ _
          rw [rep_length]; exact Nat.le_refl _
def rMulT : R2 := fun x y H Q => rMulA x y H Q ∨ rTimes x y H Q
theorem op_mulT {X : Cx} : OpR X (binaryOp .Mult) rMulT := op_mulA.or op_times
/-! ## within a clause: rules that speak of the whole, not of the clause -/
theorem ix_BS {X : Cx} {a : Addr} {pn : List (Addr × Obj)} : IxR (X.suite a pn) (rIxB X.K X.w) := ix_B (X := X.suite a pn)
/-- a call within a try -/
theorem pe_calS {X : Cx} {CX : CXT} {k : Nat} {x : Str} {ps : List Str} {sp : Sp} {E : L2.St → XK} {p pos : Pos} {e : Expr} {es : List Expr} {t : TA} (C : Cal X.prog X.w X.K X.mg X.base CX k x ps sp) (hr : Room k X.A) (hx : ∀ σ : L2.St, PassesAt CX X σ (E σ)) (ha : PA X (e :: es) t)
    (hg : Gl X x := by rfl) (hdb : (x == ("__debug__" : Str)) = false := by decide) (he : starEach (e :: es) X.env = (false, eval e X.env) :: starEach es X.env := by rfl) (hpl : (backTo pos (starEach es X.env)).any (·.1) = false := by rfl) :
    PE X (.Call (.Name x p) (e :: es) [] pos) (tCallS sp E t) := by
  obtain ⟨f, fd, F, b, kp, m⟩ := C
  exact pe_callS F hr hg m kp b hx ha hdb he hpl
/-! ## facts of a class of errors, from the head -/
theorem ExcF.hit {K : PySem.W.Frag} {mg : Str → Option Value} {x : Str} {C : Addr} (F : ExcF K mg x C) : PySem.W.exmOne K (.ref C) (.ref C) = some true := by
  have i : (PySem.W.clsIn K C).isSome = true := F.i
  simp only [PySem.W.exmOne, PySem.W.kitCls, F.b, F.t, F.s, i]
  rfl
theorem excC_mk {K : PySem.W.Frag} {h : Heap} {mg : Str → Option Value} {x : Str} {D : Addr} (_ : K.In h) (_ : ExcF K mg x D) (hg : PySem.W.findIn K (.ref D) "__getattribute__" = some (some (.builtin "BaseException.__getattribute__"))) (hk : PySem.W.findIn K (.ref D) "__getattr__" = some none) (hs : PySem.W.subIn K (.ref D) (.type "BaseException") = some true)
    (hd : PySem.W.hasDictIn K D = true) (ha : PySem.W.findIn K (.ref D) "__class__" = some (some (.builtin "object.__class__"))) (hn : PySem.W.specialIn K (.builtin "object.__class__") "__get__" = some (some (.builtin "getset_descriptor.__get__"))) (ht : PySem.W.takesIn K (.builtin "object.__class__") = some true) (hm : PySem.W.mroIn K D (.type "object") = some true) : ExcC K D := ⟨hg, hk, hs, hd, ha, hn, ht, hm⟩
theorem kitOne_mk {K : PySem.W.Frag} {h : Heap} {mg : Str → Option Value} {x : Str} {D : Addr} {T : String} {b : Bool} (_ : K.In h) (_ : ExcF K mg x D) (e : PySem.W.kitOne K (.ref D) (.type T) = some b) : PySem.W.kitOne K (.ref D) (.type T) = some b := e
theorem cls_mk {K : PySem.W.Frag} {h : Heap} {mg : Str → Option Value} {x : Str} {D : Addr} (X : K.In h) (G : h.Ns mainGlobals mg) (a : PySem.W.nsIn K mainGlobals x = some (some (.ref D))) : mg x = some (.ref D) := PySem.W.mg_of X G a
theorem kitAny_mk {K : PySem.W.Frag} {h : Heap} {mg : Str → Option Value} {x y z : Str} {D A B : Addr} {b : Bool} (_ : K.In h) (_ : ExcF K mg x D) (_ : mg y = some (.ref A)) (_ : mg z = some (.ref B)) (e : PySem.W.kitAny K (.ref D) [.ref A, .ref B] = some b) : PySem.W.kitAny K (.ref D) [.ref A, .ref B] = some b := e
end KB

namespace KB
open PySem PySem.Spec PyProof.Rows L2
/-! ## defs that are called where no repr is under way -/
structure FnG (P : Program) (w : World) (K : PySem.W.Frag) (mg : Str → Option Value) (base : Heap) (CX : CXT) (k : Nat) (f : Addr) (fd : FuncData) (ps : List Str) (sp : Sp) : Prop where
  len : ∀ vs H Q E, sp vs H Q E → vs.length = ps.length
  run : ∀ (A : Around) (outer : List Env) (s : Shared) (H : Hp) (args : Args) (us : List Value) (vs : List V) (Q : VK) (E : XK), Room k A → A.guards = some [] → Env0 P w K mg base A outer s H → BindsTo s fd args (ps.zip us) → Vals vs us → sp vs H Q E →
    codeAny (model P w) A (.call (.ref f) args) (CR CX outer P w H s Q E) s
theorem FnOk.toG {P : Program} {w : World} {K : PySem.W.Frag} {mg : Str → Option Value} {base : Heap} {CX : CXT} {k : Nat} {f : Addr} {fd : FuncData} {ps : List Str} {sp : Sp} (F : FnOk P w K mg base CX k f fd ps sp) : FnG P w K mg base CX k f fd ps sp :=
  ⟨F.len, fun A outer s H args us vs Q E hr _ e0 hb r h => F.run A outer s H args us vs Q E hr e0 hb r h⟩
theorem fnG_of {CX : CXT} {P : Program} {w : World} {K : PySem.W.Frag} {mg : Str → Option Value} {base : Heap} {k : Nat} {f : Addr} {name qual : Str} {params : Arguments} {body : List Stmt} {scope : Scope} {dV kV doc pm cdv ct oc : Value} {an od : Option Addr} {osl : Array (Option Value)} {N ps : List Str} {sp : Sp}
    (lk : K.lookup f = some ⟨oc, od, .func (PySem.W.fnOf name qual params body scope dV kV doc pm an cdv ct), osl⟩) (hcd : PySem.W.codeIn K cdv qual = true) (S : FnScope N ps scope) (len : ∀ vs H Q E, sp vs H Q E → vs.length = ps.length)
    (hbody : ∀ (A : Around) (outer : List Env) (s : Shared) (H : Hp) (vs : List V) (Q : VK) (E : XK), A.guards = some [] → Room k (A.deeper (envOfC qual scope s.heap.objs.size f cdv)) → sp vs H Q E →
      ∃ t, PSs (cxOf CX P w K mg base N qual scope f cdv A outer s H E) body t ∧ t { nx := fun _ H' => Q .non H', rt := Q } (L2.start N vs) H) :
    FnG P w K mg base CX (k + 1) f (PySem.W.fnOf name qual params body scope dV kV doc pm an cdv ct) ps sp := by
  refine ⟨len, fun A outer s H args us vs Q E hr hg e0 hb r hsp => ?_⟩
  have hl := len vs H Q E hsp
  have KX : K.In s.heap := PySem.W.Frag.In.keeps e0.mod.kin fun b o e => (e0.bs b o e).1
  have lim : s.heap.NoLimit := Heap.NoLimit.keeps e0.mod.nolimit fun b o e => (e0.bs b o e).1
  refine codeAny_call_function hr.depth (KX f _ lk) rfl S.co S.gen rfl (PySem.W.codeRec_of KX hcd) (hb (model P w) A.in1 (fun e s' => CR CX outer P w H s Q E (.error e) s') _ (wpAny_newFunctionEnv_cells S.kind ?_ ?_))
  · rintro ⟨n, v⟩ hy
    rcases S.par n (List.of_mem_zip hy).1 with q | q
    · exact .inl q
    · exact .inr ⟨q, PySem.W.cellsFrom_some scope.names (s.heap.objs.size + 1) [] (.inl q)⟩
  · intro env he s1 x
    subst he
    refine ⟨Heap.NoLimit.keeps lim x.toInCall.keep, codeAny_func ?_⟩
    obtain ⟨t, ht, hq⟩ := hbody A outer s H vs Q E hg (Room.deeper hr (envOfC qual scope s.heap.objs.size f cdv)) hsp
    have I := inv_start (CX := CX) (E := E) S hr.hd e0 hl r x
    refine wpAny_mono (ht.run [] s1 (L2.start N vs) H _ I hq) (fun fl s' hs => ?_) fun e s' hs => hs
    cases fl with
    | next => obtain ⟨σ', H', J, q⟩ := hs; exact ⟨.non, H', J.os, J.bare, J.base, J.hok, rfl, q⟩
    | brk => obtain ⟨_, _, _, q⟩ := hs; exact q.elim
    | cont => obtain ⟨_, _, _, q⟩ := hs; exact q.elim
    | ret u => obtain ⟨v, σ', H', J, rv, q⟩ := hs; exact ⟨v, H', J.os, J.bare, J.base, J.hok, rv, q⟩
theorem okG {P : Program} {w : World} {K : PySem.W.Frag} {mg : Str → Option Value} {base : Heap} {x qual : Str} {st : Stmt} {f : Addr} {fd : FuncData} {N ps : List Str} {k : Nat} {sp : Sp} (F : Fun K x qual st f fd) (S : FnScope N ps (defScope st)) (len : ∀ vs H Q E, sp vs H Q E → vs.length = ps.length)
    (hbody : ∀ (cdv : Value) (A : Around) (outer : List Env) (s : Shared) (H : Hp) (vs : List V) (Q : VK) (E : XK), A.guards = some [] → Room k (A.deeper (envOfC qual (defScope st) s.heap.objs.size f cdv)) → sp vs H Q E →
      ∃ t, PSs (cxOf CX0 P w K mg base N qual (defScope st) f cdv A outer s H E).nox (defBody st) t ∧ t { nx := fun _ H' => Q .non H', rt := Q } (L2.start N vs) H) :
    FnG P w K mg base CX0 (k + 1) f fd ps sp := by
  obtain ⟨oc, od, kV, doc, pm, an, cdv, ct, osl, rfl, lk, hcd⟩ := F.ex
  refine fnG_of lk hcd S len fun A outer s H vs Q E hg hr hsp => ?_
  obtain ⟨t, h, q⟩ := hbody cdv A outer s H vs Q E hg hr hsp
  exact ⟨t, PSs.nox h, q⟩
theorem run_fnG {X : Cx} {CX : CXT} {k : Nat} {f : Addr} {fd : FuncData} {ps : List Str} {sp : Sp} {E : XK} {pins : List (Addr × Obj)} {σ : L2.St} {H : Hp} {s : Shared} {Q : VK} {us : List Value} {vs : List V}
    (F : FnG X.prog X.w X.K X.mg X.base CX k f fd ps sp) (hr : Room k X.A) (hg : X.A.guards = some []) (hb : Binds X.K fd ps []) (hx : Passes CX X E) (I : L2.Inv X pins σ H s) (r : Vals vs us) (h : sp vs H Q E) :
    wpAny (model X.prog X.w) X.A (call (.ref f) us) (EP X pins σ Q) X.xe s := by
  have hl : us.length = ps.length := by rw [← r.length]; exact F.len vs H Q E h
  have hb2 := hb s us I.kIn (by rw [List.append_nil]; exact hl)
  rw [List.append_nil] at hb2
  refine wpAny_call (codeAny_mono (F.run X.A X.stack s H ⟨us, []⟩ us vs Q E hr hg I.env0 hb2 r h) fun rs s' hq => ?_)
  cases rs with
  | error e => exact hx pins σ H s e s' I hq
  | ok fl =>
    cases fl with
    | ret u => exact I.after hq
    | next => exact hq.elim
    | brk => exact hq.elim
    | cont => exact hq.elim
/-- a def's promise, where no repr is under way -/
def CalG (P : Program) (w : World) (K : PySem.W.Frag) (mg : Str → Option Value) (base : Heap) (CX : CXT) (k : Nat) (x : Str) (ps : List Str) (sp : Sp) : Prop :=
  ∃ f fd, FnG P w K mg base CX k f fd ps sp ∧ Binds K fd ps [] ∧ PySem.W.keepIn K (.ref f) = true ∧ mg x = some (.ref f)
theorem pe_calG {X : Cx} {CX : CXT} {k : Nat} {x : Str} {ps : List Str} {sp : Sp} {E : XK} {p pos : Pos} {e : Expr} {es : List Expr} {t : TA} (hg0 : X.A.guards = some []) (C : CalG X.prog X.w X.K X.mg X.base CX k x ps sp) (hr : Room k X.A) (hx : Passes CX X E) (ha : PA X (e :: es) t)
    (hg : Gl X x := by rfl) (hdb : (x == ("__debug__" : Str)) = false := by decide) (he : starEach (e :: es) X.env = (false, eval e X.env) :: starEach es X.env := by rfl) (hpl : (backTo pos (starEach es X.env)).any (·.1) = false := by rfl) :
    PE X (.Call (.Name x p) (e :: es) [] pos) (tCall sp [] E t) := by
  obtain ⟨f, fd, F, b, kp, m⟩ := C
  refine ⟨fun pins s σ H Q I h => wpAny_Call_Name_kw (ld_glob I hg m (PySem.W.callWith_K I.ok.mod.kin kp (thn (ha.run pos pins s σ H _ I h) ?_) he hpl) hdb)⟩
  rintro us s1 ⟨vs, H1, I1, r, q⟩
  have q' : sp vs H1 Q E := by have := q; rwa [List.append_nil] at this
  exact ⟨I1.kIn, run_fnG F hr hg0 b hx I1 r q'⟩
/-! ## the law's call, and its end -/
theorem law_callG {P : Program} {w : World} {K : PySem.W.Frag} {mg mb : Str → Option Value} {k : Nat} {fa a : Addr} {fd : FuncData} {x : Str} {sp : Sp} {s₁ : Shared} {vs : List Value} {ns : List Int}
    (KX : K.In s₁.heap) (hns : s₁.heap.Ns mainGlobals mg) (hb : s₁.heap.Ns builtinsNs mb) (hbb : ∀ x : Str, x ≠ "__name__" → mb x = bootBuiltins x) (hlim : s₁.heap.NoLimit) (hg : s₁.gens = #[]) (ha : s₁.heap.get? a = some { cls := .type "list", data := .seq vs.toArray }) (hi : IntsAre vs ns) (hl : ns.length ≤ sizeLine) (hr : Room k callerA)
    (F : ∀ base : Heap, K.In base → base.Ns mainGlobals mg → FnG P w K mg base CX0 k fa fd [x] sp) (hbind : ∀ (s : Shared) (u : Value), BindsTo s fd ⟨[u], []⟩ [(x, u)])
    (hsp : ∀ H : Hp, Only H → SqL K H a (ns.map V.int) → sp [.ref a] H (fun v _ => v = .bl true) fun _ _ _ => False) :
    codeAny (model P w) callerA (.call (.ref fa) ⟨[.ref a], []⟩) (fun r s' => r = .ok (.ret (.bool true)) ∧ OldK s₁.heap s'.heap ∧ s'.os = s₁.os ∧ AllBare s'.gens) s₁ := by
  have rv := vals_ints hi
  have lenV : vs.length = ns.length := by have := rv.length; rw [List.length_map] at this; exact this.symm
  -- whichever of the two shapes
  have core : ∀ H : Hp, Only H → SqL K H a (ns.map V.int) → HOk P w H s₁.heap → (∀ b, H b ≠ none → b = a) → (H a ≠ none → K.lookup a = none) →
      codeAny (model P w) callerA (.call (.ref fa) ⟨[.ref a], []⟩) (fun r s' => r = .ok (.ret (.bool true)) ∧ OldK s₁.heap s'.heap ∧ s'.os = s₁.os ∧ AllBare s'.gens) s₁ := by
    intro H hO hS hok hA hK
    have noA : ∀ {b : Addr} {o : Obj} {es : Array DictEntry} {ep : Nat}, s₁.heap.get? b = some o → o.data = .dict es ep → H b = none := by
      intro b o es ep e d
      cases q : H b with
      | none => rfl
      | some u =>
        have e2 := hA b (by rw [q]; simp)
        subst e2
        rw [ha] at e
        cases e
        cases d
    have nsK : ∀ {b : Addr} {m : Str → Option Value}, s₁.heap.Ns b m → (hidT s₁.heap H).Ns b m := by
      rintro b m ⟨o, es, ep, e, d, r⟩
      exact ⟨o, es, ep, hidT_get e (noA e d), d, r⟩
    have hKb : K.In (hidT s₁.heap H) := by
      intro b o e
      refine hidT_get (KX b o e) ?_
      cases q : H b with
      | none => rfl
      | some u =>
        have e2 := hA b (by rw [q]; simp)
        subst e2
        have := hK (by rw [q]; simp)
        rw [this] at e
        cases e
    have hM : L2.Mod K mg (hidT s₁.heap H) := ⟨hKb, nsK hns, ⟨mb, nsK hb, hbb⟩, by obtain ⟨mc, h1, h2⟩ := hlim; exact ⟨mc, nsK h1, h2⟩⟩
    have e0 : Env0 P w K mg (hidT s₁.heap H) callerA [] s₁ H := ⟨rfl, hM, fun b o e => of_hidT e, Nat.le_of_eq (hidT_size s₁.heap H), trivial, fun b h => absurd h List.not_mem_nil, hok, AllBare.of_eq hg⟩
    refine codeAny_mono ((F _ hKb (nsK hns)).run callerA [] s₁ H ⟨[.ref a], []⟩ [.ref a] [.ref a] (fun v _ => v = .bl true) (fun _ _ _ => False) hr rfl e0 (hbind s₁ (.ref a)) (.cons rfl .nil) (hsp H hO hS)) fun r s' h => ?_
    cases r with
    | error e => exact absurd h (by intro z; exact z.elim)
    | ok fl =>
      cases fl with
      | next => exact h.elim
      | brk => exact h.elim
      | cont => exact h.elim
      | ret u =>
        obtain ⟨v, H', os, bare, un, hok', r', q⟩ := h
        have q' : v = .bl true := q
        subst q'
        cases r'
        refine ⟨rfl, OldK.of_keep fun b o e => ?_, os, bare⟩
        cases q2 : H b with
        | none => exact un.keep b o e q2 (fun z => absurd z List.not_mem_nil) List.not_mem_nil
        | some u2 =>
          rcases hO b with z | ⟨ob, xs, z⟩
          · rw [q2] at z; cases z
          · have z2 := un.frzs b ob (.lst xs) z
            obtain ⟨e1, _⟩ := hok b _ z
            obtain ⟨e2, _⟩ := hok' b _ z2
            rw [e] at e1
            cases e1
            exact e2
  cases hk : K.lookup a with
  | none =>
    refine core (fun b => if b = a then some (.frz { cls := .type "list", data := .seq vs.toArray } (.lst (ns.map V.int))) else none) (fun b => ?_) (.inl (.inr ⟨_, if_pos rfl⟩)) (fun b u z => ?_) (fun b z => ?_) fun _ => hk
    · by_cases h : b = a
      · exact .inr ⟨_, _, if_pos h⟩
      · exact .inl (if_neg h)
    · by_cases h : b = a
      · subst h
        have z' := (if_pos rfl).symm.trans z
        cases z'
        exact ⟨ha, by rw [List.length_map]; exact hl, vs, 0, rv, ha⟩
      · have z' := (if_neg h).symm.trans z
        cases z'
    · by_cases h : b = a
      · exact h
      · exact absurd (if_neg h) z
  | some o =>
    have e := KX a o hk
    rw [ha] at e
    cases e
    refine core (fun _ => none) (fun _ => .inl rfl) (.inr ⟨_, vs.toArray, 0, hk, rfl, rfl, rfl, by rw [List.size_toArray, lenV]; exact hl, rv⟩) (fun b u z => by cases z) (fun b z => absurd rfl z) fun z => absurd rfl z
theorem walk_ofG {l : PySem.W.OpenLaw} {n k : Nat} {q : Program} {loose : List Str} {XP : (Str → Option Value) → Heap → Prop} {YP : World → Heap → Prop} {d : DefRec} {K : Params → PySem.W.Frag} {sp : World → Sp} {x : Str} (hn : l.most = some n) (hn2 : n ≤ sizeLine) (hdf : d.params.defaults = []) (hr : Room k callerA)
    (hY : ∀ (w : World) (h : Heap), YP w h → (K w.params).In h)
    (F : ∀ (w : World) (mg : Str → Option Value) (fa : Addr) (h : Heap), (K w.params).In h → h.Ns mainGlobals mg → mg d.name = some (.ref fa) →
      ∃ fd : FuncData, (∀ (s : Shared) (u : Value), BindsTo s fd ⟨[u], []⟩ [(x, u)]) ∧ ∀ base : Heap, (K w.params).In base → base.Ns mainGlobals mg → FnG l.prog w (K w.params) mg base CX0 k fa fd [x] (sp w))
    (hsp : ∀ (w : World) (H : Hp) (a : Addr) (ns : List Int), ns.length ≤ n → Only H → SqL (K w.params) H a (ns.map V.int) → sp w [.ref a] H (fun v _ => v = .bl true) fun _ _ _ => False) :
    PySem.W.WalkO q loose XP YP l.row.toRowW d [] fun f vs => call f vs := by
  refine Att.attach_call hn hdf fun w s₀ s₁ mg mb fa o pm cd doc a vs ns G Y ho hd hcd hmg hobj hints hlen hg => ?_
  have KX := hY w s₁.heap Y
  obtain ⟨fd, hb, hF⟩ := F w mg fa s₁.heap KX G.T.g hmg
  exact law_callG KX G.T.g G.T.b G.T.builtins G.T.nolimit hg hobj hints (Nat.le_trans hlen hn2) hr hF hb fun H hO hS => hsp w H a ns hlen hO hS
end KB

namespace KB
open PySem PySem.Spec PyProof.Rows L2
/-! ## data with empty dicts, read as a whole -/
mutual
/-- no list in it -/
def noL : PyData → Bool
  | .list _ => false
  | .tuple ds => noLs ds
  | _ => true
def noLs : List PyData → Bool
  | [] => true
  | d :: r => noL d && noLs r
end
theorem emptyDict {X : Cx} {pins : List (Addr × Obj)} {σ : L2.St} {H : Hp} {s : Shared} (I : L2.Inv X pins σ H s) {a : Addr} (h : H a = some (.dK [])) :
    (a == sysModules) = false ∧ ∃ o n, s.heap.get? a = some o ∧ o.cls = .type "dict" ∧ o.data = .dict #[] n := by
  obtain ⟨_, e, vs, hk, o, es, ep, h1, h2, h3, h4, h5, h6⟩ := I.hok a (.dK []) h
  cases hk
  obtain ⟨el⟩ := es
  cases h5
  exact ⟨e, o, ep, h1, h2.1, h3⟩
mutual
theorem Dq.reads {X : Cx} {pins : List (Addr × Obj)} {σ : L2.St} {H : Hp} {s : Shared} (I : L2.Inv X pins σ H s) : ∀ {d : PyData} {v : V} {u : Value}, Dq X.K H v d → L2.RelV v u → ∃ as, Reads s.heap u d as ∧ (noL d = true → sysModules ∉ as)
  | _, _, _, .non, r => by cases r; exact ⟨[], .none, fun _ => List.not_mem_nil⟩
  | _, _, _, .bl b, r => by cases r; exact ⟨[], .bool b, fun _ => List.not_mem_nil⟩
  | _, _, _, .int i, r => by obtain ⟨t, rfl⟩ := r; exact ⟨[], .int i t, fun _ => List.not_mem_nil⟩
  | _, _, _, .str x, r => by obtain ⟨t, rfl⟩ := r; exact ⟨[], .str x t, fun _ => List.not_mem_nil⟩
  | _, _, _, .lst h hs, r => by
    cases r
    obtain ⟨its, rv, pl, _⟩ := I.list h
    obtain ⟨o, e1, e2, n, e3⟩ := PlainL.isList pl
    obtain ⟨as, ra, _⟩ := DqAll.reads I hs rv
    exact ⟨_, .list e1 e2 e3 (by simpa using ra), fun z => by cases z⟩
  | _, _, _, .tup h hs, r => by
    cases r
    obtain ⟨its, rv, it, _⟩ := I.tuple h
    obtain ⟨o, e1, e2, n, e3⟩ := it
    obtain ⟨as, ra, z⟩ := DqAll.reads I hs rv
    exact ⟨_, .tuple e1 e2 e3 (by simpa using ra), fun q => z (by simpa [noL] using q)⟩
  | _, _, _, .dct h, r => by
    cases r
    obtain ⟨ne, o, n, e1, e2, e3⟩ := emptyDict I h
    refine ⟨_, .dict e1 e2 e3 .nil .nil, fun _ => ?_⟩
    simp only [List.append_nil, List.mem_singleton]
    intro z
    rw [← z] at ne
    simp at ne
theorem DqAll.reads {X : Cx} {pins : List (Addr × Obj)} {σ : L2.St} {H : Hp} {s : Shared} (I : L2.Inv X pins σ H s) : ∀ {ds : List PyData} {vs : List V} {us : List Value}, DqAll X.K H vs ds → Vals vs us → ∃ as, ReadsAll s.heap us ds as ∧ (noLs ds = true → sysModules ∉ as)
  | _, _, _, .nil, r => by cases r; exact ⟨[], .nil, fun _ => List.not_mem_nil⟩
  | _, _, _, .cons h hs, r => by
    cases r with
    | cons r1 r2 =>
      obtain ⟨as, ra, za⟩ := Dq.reads I h r1
      obtain ⟨bs, rb, zb⟩ := DqAll.reads I hs r2
      refine ⟨_, .cons ra rb, fun q => ?_⟩
      simp only [noLs, Bool.and_eq_true] at q
      rw [List.mem_append]
      rintro (h | h)
      · exact za q.1 h
      · exact zb q.2 h
end
/-! ## a tuple beside the empty one, beside a text alone; a list beside the empty one -/
section
variable {X : Cx}
def rEqNil (K : PySem.W.Frag) : R2 := fun x y H Q => ∃ p q xs, x = .ref p ∧ y = .ref q ∧ SqT K H p xs ∧ SqT K H q [] ∧ Q (.bl xs.isEmpty) H
def rNeHd (K : PySem.W.Frag) : R2 := fun x y H Q => ∃ p q a r b, x = .ref p ∧ y = .ref q ∧ SqT K H p (.str a :: r) ∧ SqT K H q [.str b] ∧ Q (.bl (!(a == b && r.isEmpty))) H
def rNeNilL (K : PySem.W.Frag) : R2 := fun x y H Q => ∃ p q xs, x = .ref p ∧ y = .ref q ∧ SqL K H p xs ∧ SqL K H q [] ∧ Q (.bl (!xs.isEmpty)) H
theorem op_eqNil (hu : X.A.units < cLine) : OpR X (compareOp .Eq) (rEqNil X.K) := by
  rintro pins s σ H x y v u Q I rx ry ⟨p, q, xs, rfl, rfl, hp, hq, h⟩
  cases rx
  cases ry
  obtain ⟨it1, r1, t1, _⟩ := I.tuple hp
  obtain ⟨it2, r2, t2, _⟩ := I.tuple hq
  cases r2
  have e := SeqAt.RcAt.tuples (A := X.A) (s := s) (e := fun _ => true) t1 t2 hu (fun j _ h2 => by simp at h2)
  have el : ((List.range (min it1.toArray.size ([] : List Value).toArray.size)).all (fun _ => true) && it1.toArray.size == ([] : List Value).toArray.size) = xs.isEmpty := by
    have := r1.length
    cases xs <;> cases it1 <;> simp at this ⊢
  rw [el] at e
  exact e _ _ _ _ ⟨.bl _, H, I, rfl, h⟩
theorem op_neHd (hu : X.A.units < cLine) : OpR X (compareOp .NotEq) (rNeHd X.K) := by
  rintro pins s σ H x y v u Q I rx ry ⟨p, q, a, r, b, rfl, rfl, hp, hq, h⟩
  cases rx
  cases ry
  obtain ⟨it1, r1, t1, _⟩ := I.tuple hp
  obtain ⟨it2, r2, t2, _⟩ := I.tuple hq
  cases r1 with
  | cons ra rr =>
    cases r2 with
    | cons rb rr2 =>
      cases rr2
      obtain ⟨ta, rfl⟩ := ra
      obtain ⟨tb, rfl⟩ := rb
      rename_i us
      have e := SeqAt.RcNeAt.tuples (A := X.A) (s := s) (e := fun _ => a == b) t1 t2 hu (fun j h1 h2 => by
        have : j = 0 := by simpa using h2
        subst this
        exact SeqAt.EqAt.str_str a ta b tb)
      have el : ((List.range (min (Value.str a ta :: us).toArray.size [Value.str b tb].toArray.size)).all (fun _ => a == b) && (Value.str a ta :: us).toArray.size == [Value.str b tb].toArray.size) = (a == b && r.isEmpty) := by
        have := rr.length
        cases r <;> cases us <;> simp at this ⊢
      rw [el] at e
      exact e _ _ _ _ ⟨.bl _, H, I, rfl, h⟩
theorem op_neNilL (hu : X.A.units < cLine) : OpR X (compareOp .NotEq) (rNeNilL X.K) := by
  rintro pins s σ H x y v u Q I rx ry ⟨p, q, xs, rfl, rfl, hp, hq, h⟩
  cases rx
  cases ry
  obtain ⟨it1, r1, t1, _⟩ := I.list hp
  obtain ⟨it2, r2, t2, _⟩ := I.list hq
  cases r2
  cases r1 with
  | nil =>
    have e := SeqAt.RcNeAt.lists (A := X.A) (s := s) (e := fun _ => true) (PlainL.isList t1) (PlainL.isList t2) rfl hu (fun j h1 _ => by simp at h1)
    exact e _ _ _ _ ⟨.bl _, H, I, rfl, h⟩
  | cons _ _ =>
    have e := SeqAt.RcNeAt.lists_lengths (A := X.A) (s := s) (PlainL.isList t1) (PlainL.isList t2) (by simp) hu
    exact e _ _ _ _ ⟨.bl _, H, I, rfl, h⟩
end
/-! ## repr of data -/
def rRepr (K : PySem.W.Frag) : List V → Hp → VK → Prop := fun xs H Q => ∃ x d, xs = [x] ∧ Dq K H x d ∧ d.showable = true ∧ (d.hasDict = true → noL d = true) ∧ d.depth ≤ 190 ∧ d.shown.length ≤ sizeLine ∧ Q (.str d.shown) H
theorem call_reprD {X : Cx} (hg : X.A.guards = some []) (hu : X.A.units + 200 < cLine) : CallR X (.builtin "repr") (rRepr X.K) := by
  rintro pins s σ H xs us Q I r ⟨x, d, rfl, hd, hsh, hno, hdp, hlen, q⟩
  cases r with
  | cons rx rr =>
    cases rr
    obtain ⟨as, ra, hs⟩ := Dq.reads I hd rx
    cases hd with
    | non => cases rx; exact P.repr_of_none ⟨.str _, H, Inv.tok I _, ⟨_, rfl⟩, q⟩
    | bl b => cases rx; refine P.repr_of_bool ⟨.str (if b = true then "True" else "False"), H, Inv.tok I _, ⟨_, rfl⟩, ?_⟩; cases b <;> exact q
    | int i =>
      obtain ⟨t, rfl⟩ := rx
      exact P.repr_of_int (by rw [PyData.showable] at hsh; exact of_decide_eq_true hsh) ⟨.str _, H, Inv.tok I _, ⟨_, rfl⟩, q⟩
    | str z =>
      obtain ⟨t, rfl⟩ := rx
      exact P.repr_of_str ⟨.str _, H, Inv.tok I _, ⟨_, rfl⟩, q⟩ hlen
    | lst h hs' =>
      cases rx
      exact repr_of_reads' ra hsh (fun z => hs (hno z)) hg (by omega) (fun _ _ e => e) (fun h' u tk k => ⟨.str _, H, I.kept k, ⟨_, rfl⟩, q⟩) hlen
    | tup h hs' =>
      cases rx
      exact repr_of_reads' ra hsh (fun z => hs (hno z)) hg (by omega) (fun _ _ e => e) (fun h' u tk k => ⟨.str _, H, I.kept k, ⟨_, rfl⟩, q⟩) hlen
    | dct h =>
      cases rx
      exact repr_of_reads' ra hsh (fun z => hs (hno z)) hg (by omega) (fun _ _ e => e) (fun h' u tk k => ⟨.str _, H, I.kept k, ⟨_, rfl⟩, q⟩) hlen
/-! ## small data: what its repr is at most -/
mutual
def Sm : PyData → Bool
  | .none => true
  | .bool _ => true
  | .int i => decide (i.natAbs ≤ 20)
  | .str x => x.cps.toList.all (fun c => decide (c < 128)) && decide (x.cps.size ≤ 10)
  | .list xs => Sms xs
  | .tuple xs => Sms xs
  | .dict kvs => kvs.isEmpty
def Sms : List PyData → Bool
  | [] => true
  | d :: r => Sm d && Sms r
end
theorem small_int (i : Int) (h : i.natAbs ≤ 20) : (PyData.int i).shown.length ≤ 10 ∧ (PyData.int i).showable = true := by
  have a : ∀ n : Fin 21, (PyData.int (n.val : Int)).shown.length ≤ 10 ∧ (PyData.int (n.val : Int)).showable = true := by decide +kernel
  have b : ∀ n : Fin 21, (PyData.int (-(n.val : Int))).shown.length ≤ 10 ∧ (PyData.int (-(n.val : Int))).showable = true := by decide +kernel
  rcases Int.natAbs_eq i with e | e <;> rw [e]
  · exact a ⟨i.natAbs, by omega⟩
  · exact b ⟨i.natAbs, by omega⟩
mutual
theorem Sm.fine : ∀ d : PyData, Sm d = true → d.showable = true ∧ PyData.leavesShort 10 d = true ∧ d.bulk + 3 ≤ 13 * sz d
  | .none, _ => ⟨by rw [PyData.showable], by rw [PyData.leavesShort], by simp [PyData.bulk, sz]⟩
  | .bool _, _ => ⟨by rw [PyData.showable], by rw [PyData.leavesShort], by simp [PyData.bulk, sz]⟩
  | .int i, h => by
    have h' : i.natAbs ≤ 20 := of_decide_eq_true h
    exact ⟨(small_int i h').2, by rw [PyData.leavesShort]; exact decide_eq_true (small_int i h').1, by simp [PyData.bulk, sz]⟩
  | .str x, h => by
    have h' : (x.cps.toList.all fun c => decide (c < 128)) = true ∧ x.cps.size ≤ 10 := by
      rw [Sm, Bool.and_eq_true] at h
      exact ⟨h.1, of_decide_eq_true h.2⟩
    refine ⟨by rw [PyData.showable], ?_, by simp only [PyData.bulk, sz]; omega⟩
    rw [PyData.leavesShort, List.all_eq_true]
    intro c hc
    have := of_decide_eq_true (List.all_eq_true.mp h'.1 c hc)
    exact decide_eq_true (Nat.lt_trans this (by decide))
  | .list xs, h => by
    have := Sms.fine xs (by rwa [Sm] at h)
    exact ⟨by rw [PyData.showable]; exact this.1, by rw [PyData.leavesShort]; exact this.2.1, by simp only [PyData.bulk, sz]; omega⟩
  | .tuple xs, h => by
    have := Sms.fine xs (by rwa [Sm] at h)
    exact ⟨by rw [PyData.showable]; exact this.1, by rw [PyData.leavesShort]; exact this.2.1, by simp only [PyData.bulk, sz]; omega⟩
  | .dict [], _ => ⟨by rw [PyData.showable, PyData.showableKv], by rw [PyData.leavesShort, PyData.leavesShortKv], by simp [PyData.bulk, PyData.bulkKv, sz]⟩
  | .dict (_ :: _), h => by rw [Sm] at h; cases h
theorem Sms.fine : ∀ ds : List PyData, Sms ds = true → PyData.showableAll ds = true ∧ PyData.leavesShortAll 10 ds = true ∧ PyData.bulkAll ds ≤ 13 * szs ds
  | [], _ => ⟨by rw [PyData.showableAll], by rw [PyData.leavesShortAll], by simp [PyData.bulkAll]⟩
  | d :: r, h => by
    rw [Sms, Bool.and_eq_true] at h
    have a := Sm.fine d h.1
    have b := Sms.fine r h.2
    have c := sz_pos d
    exact ⟨by rw [PyData.showableAll, a.1, b.1]; rfl, by rw [PyData.leavesShortAll, a.2.1, b.2.1]; rfl, by simp only [PyData.bulkAll, szs]; omega⟩
end
/-- what a law's thing is like: small, and not both a list and a dict in it -/
structure Fine (d : PyData) : Prop where
  sm : Sm d = true
  nd : d.hasDict = true → noL d = true
theorem Fine.shown {d : PyData} (f : Fine d) (h : sz d ≤ 10000) : d.shown.length ≤ sizeLine := by
  have a := Sm.fine d f.sm
  have b := PyData.shown_le_bulk 10 (by decide) d a.2.1
  exact fits (by omega)
theorem Kd.noD : ∀ k : Kd, k.dat.hasDict = false ∧ noL k.dat = true
  | .b _ => by simp [Kd.dat, PyData.hasDict, PyData.hasDictAll, noL, noLs]
  | .u => by simp [Kd.dat, PyData.hasDict, PyData.hasDictAll, noL, noLs]
  | .p x y => by simp [Kd.dat, PyData.hasDict, PyData.hasDictAll, noL, noLs, Kd.noD x, Kd.noD y]
  | .f x y => by simp [Kd.dat, PyData.hasDict, PyData.hasDictAll, noL, noLs, Kd.noD x, Kd.noD y]
theorem Kd.sm : ∀ k : Kd, k.ok → Sm k.dat = true
  | .b n, h => by
    have h' : n < 8 := h
    have e : Sm (.str "base") = true := by decide +kernel
    simp only [Kd.dat, Sm, Sms, Bool.and_true] at e ⊢
    rw [e]
    simp
    omega
  | .u, _ => by decide +kernel
  | .p x y, h => by
    have e : Sm (.str "both") = true := by decide +kernel
    simp only [Kd.dat, Sm, Sms, Kd.sm x h.1, Kd.sm y h.2, Bool.and_true] at e ⊢
    exact e
  | .f x y, h => by
    have e : Sm (.str "from") = true := by decide +kernel
    simp only [Kd.dat, Sm, Sms, Kd.sm x h.1, Kd.sm y h.2, Bool.and_true] at e ⊢
    exact e
theorem Kd.fine (k : Kd) (h : k.ok) : Fine k.dat := ⟨k.sm h, fun z => by rw [k.noD.1] at z; cases z⟩
end KB

namespace KB
open PySem PySem.Spec PyProof.Rows L2
/-! ## factors, and the order of tuples on them -/
inductive Fc where
  | mk (ws : List Fc) (n : Nat)
namespace Fc
mutual
def dat : Fc → PyData
  | mk ws n => .tuple [.tuple (dats ws), .int n]
def dats : List Fc → List PyData
  | [] => []
  | f :: r => dat f :: dats r
end
mutual
def cmp : Fc → Fc → Ordering
  | mk ws n, mk vs m => (cmps ws vs).then (compare n m)
def cmps : List Fc → List Fc → Ordering
  | [], [] => .eq
  | [], _ :: _ => .lt
  | _ :: _, [] => .gt
  | a :: r, b :: s => (cmp a b).then (cmps r s)
end
mutual
theorem cmp_eq : ∀ a b : Fc, cmp a b = .eq ↔ a = b
  | mk ws n, mk vs m => by
    rw [cmp, Ordering.then_eq_eq, cmps_eq ws vs, Nat.compare_eq_eq, mk.injEq]
theorem cmps_eq : ∀ a b : List Fc, cmps a b = .eq ↔ a = b
  | [], [] => by simp [cmps]
  | [], _ :: _ => by simp [cmps]
  | _ :: _, [] => by simp [cmps]
  | a :: r, b :: s => by rw [cmps, Ordering.then_eq_eq, cmp_eq a b, cmps_eq r s, List.cons.injEq]
end
mutual
theorem cmp_swap : ∀ a b : Fc, cmp b a = (cmp a b).swap
  | mk ws n, mk vs m => by
    rw [cmp, cmp, Ordering.swap_then, cmps_swap ws vs, Nat.compare_swap]
theorem cmps_swap : ∀ a b : List Fc, cmps b a = (cmps a b).swap
  | [], [] => by simp [cmps]
  | [], _ :: _ => by simp [cmps]
  | _ :: _, [] => by simp [cmps]
  | a :: r, b :: s => by rw [cmps, cmps, Ordering.swap_then, cmp_swap a b, cmps_swap r s]
end
mutual
theorem cmp_tr : ∀ a b c : Fc, cmp a b = .lt → cmp b c = .lt → cmp a c = .lt
  | mk ws n, mk vs m, mk us k => by
    rw [cmp, cmp, cmp, Ordering.then_eq_lt, Ordering.then_eq_lt, Ordering.then_eq_lt, Nat.compare_eq_lt, Nat.compare_eq_lt, Nat.compare_eq_lt]
    rintro (h1 | ⟨h1, h2⟩) (h3 | ⟨h3, h4⟩)
    · exact .inl (cmps_tr ws vs us h1 h3)
    · rw [cmps_eq] at h3; subst h3; exact .inl h1
    · rw [cmps_eq] at h1; subst h1; exact .inl h3
    · rw [cmps_eq] at h1 h3; subst h1; subst h3; exact .inr ⟨(cmps_eq _ _).mpr rfl, by omega⟩
theorem cmps_tr : ∀ a b c : List Fc, cmps a b = .lt → cmps b c = .lt → cmps a c = .lt
  | [], [], c => by simp [cmps]
  | [], _ :: _, [] => by simp [cmps]
  | [], _ :: _, _ :: _ => by simp [cmps]
  | _ :: _, [], _ => by simp [cmps]
  | _ :: _, _ :: _, [] => by simp [cmps]
  | a :: r, b :: s, c :: t => by
    rw [cmps, cmps, cmps, Ordering.then_eq_lt, Ordering.then_eq_lt, Ordering.then_eq_lt]
    rintro (h1 | ⟨h1, h2⟩) (h3 | ⟨h3, h4⟩)
    · exact .inl (cmp_tr a b c h1 h3)
    · rw [cmp_eq] at h3; subst h3; exact .inl h1
    · rw [cmp_eq] at h1; subst h1; exact .inl h3
    · rw [cmp_eq] at h1 h3; subst h1; subst h3; exact .inr ⟨(cmp_eq _ _).mpr rfl, cmps_tr r s t h2 h4⟩
end
def lt (a b : Fc) : Bool := cmp a b == .lt
theorem swo : SrtO.Swo lt := by
  refine ⟨fun x y h => ?_, fun x y z h1 h2 => ?_⟩
  · have h' : cmp x y = .lt := by simpa [lt] using h
    simp [lt, cmp_swap x y, h']
  · have h1' : cmp y x ≠ .lt := by simpa [lt] using h1
    have h2' : cmp z y ≠ .lt := by simpa [lt] using h2
    have : cmp z x ≠ .lt := by
      intro h
      cases e : cmp y x with
      | lt => exact h1' e
      | eq => rw [cmp_eq] at e; subst e; exact h2' h
      | gt => exact h2' (cmp_tr z x y h (by rw [cmp_swap y x, e]; rfl))
    simpa [lt] using this
mutual
theorem lay : ∀ f : Fc, (dat f).canLay0 = true
  | mk ws n => by simp [dat, PyData.canLay0, PyData.canLayAll0, lays ws]
theorem lays : ∀ fs : List Fc, PyData.canLayAll0 (dats fs) = true
  | [] => by simp [dats, PyData.canLayAll0]
  | f :: r => by simp [dats, PyData.canLayAll0, lay f, lays r]
end
theorem nat_ev (n m : Nat) : ((n : Int) == (m : Int)) = (compare n m == .eq) := by
  by_cases h : n = m
  · subst h; simp
  · have h2 : ¬ compare n m = .eq := fun z => h (Nat.compare_eq_eq.mp z)
    rw [beq_eq_false_iff_ne.mpr (fun z => h (by omega)), beq_eq_false_iff_ne.mpr h2]
theorem then_ev (a b : Ordering) : (a.then b == .eq) = (a == .eq && b == .eq) := by cases a <;> cases b <;> rfl
mutual
theorem eqv : ∀ f g : Fc, (dat f).eqv (dat g) = (cmp f g == .eq)
  | mk ws n, mk vs m => by
    rw [dat, dat, ev_tup, ev_cons, ev_cons, ev_nil, ev_tup, ev_int, eqvs ws vs, nat_ev, cmp, then_ev, Bool.and_true]
theorem eqvs : ∀ fs gs : List Fc, PyData.eqvAll (dats fs) (dats gs) = (cmps fs gs == .eq)
  | [], [] => by rw [dats, ev_nil, cmps]; rfl
  | [], g :: r => by rw [dats, dats, ev_nilc, cmps]; rfl
  | f :: r, [] => by rw [dats, dats, ev_cnil, cmps]; rfl
  | f :: r, g :: t => by rw [dats, dats, ev_cons, eqv f g, eqvs r t, cmps, then_ev]
end
theorem dats_length : ∀ fs : List Fc, (dats fs).length = fs.length
  | [] => rfl
  | f :: r => by rw [dats, List.length_cons, dats_length r, List.length_cons]
def eF (fs gs : List Fc) (j : Nat) : Bool := match fs[j]?, gs[j]? with | some f, some g => cmp f g == .eq | _, _ => false
def rF (fs gs : List Fc) (j : Nat) : Bool := match fs[j]?, gs[j]? with | some f, some g => lt f g | _, _ => false
theorem firstLt_map (e r : Nat → Bool) (fin : Bool) (g : Nat → Nat) : ∀ l : List Nat, SeqAt.firstLt e r fin (l.map g) = SeqAt.firstLt (fun j => e (g j)) (fun j => r (g j)) fin l
  | [] => by rw [List.map_nil, SeqAt.firstLt.eq_1, SeqAt.firstLt.eq_1]
  | j :: t => by rw [List.map_cons, SeqAt.firstLt.eq_2, SeqAt.firstLt.eq_2, firstLt_map e r fin g t]
theorem then_lt (a b : Ordering) : (a.then b == .lt) = (if (a == .eq) = true then (b == .lt) else (a == .lt)) := by cases a <;> cases b <;> rfl
theorem firstLt_cmps : ∀ fs gs : List Fc, SeqAt.firstLt (eF fs gs) (rF fs gs) (decide (fs.length < gs.length)) (List.range (min fs.length gs.length)) = (cmps fs gs == .lt)
  | [], [] => by simp [SeqAt.firstLt.eq_1, cmps]
  | [], _ :: _ => by simp [SeqAt.firstLt.eq_1, cmps]
  | _ :: _, [] => by simp [SeqAt.firstLt.eq_1, cmps]
  | f :: r, g :: t => by
    have hm : min (f :: r).length (g :: t).length = min r.length t.length + 1 := by simp only [List.length_cons]; omega
    have hd : decide ((f :: r).length < (g :: t).length) = decide (r.length < t.length) := by simp
    rw [hm, hd, List.range_succ_eq_map, SeqAt.firstLt.eq_2, firstLt_map]
    have h1 : (fun j => eF (f :: r) (g :: t) (Nat.succ j)) = eF r t := funext fun j => rfl
    have h2 : (fun j => rF (f :: r) (g :: t) (Nat.succ j)) = rF r t := funext fun j => rfl
    rw [h1, h2, firstLt_cmps r t, cmps, then_lt]
    rfl
theorem tup_inv {h : Heap} {v : Value} {ds : List PyData} {as : List Addr} (r : Reads h v (.tuple ds) as) : ∃ a items, v = .ref a ∧ h.IsTuple a items ∧ ReadsAll h items.toList ds as := by
  cases r with
  | tuple e1 e2 e3 ra => exact ⟨_, _, rfl, ⟨_, e1, e2, _, e3⟩, ra⟩
theorem rc_int {A : Around} {s : Shared} (a : Int) (t : Tok) (b : Int) (u : Tok) : SeqAt.RcLt A s (.int a t) (.int b u) (decide (a < b)) := fun prog w E Q h => lt_int h
theorem reads_at {h : Heap} : ∀ {vs : List Value} {fs : List Fc} {as : List Addr}, ReadsAll h vs (dats fs) as → vs.length = fs.length ∧ ∀ (j : Nat) (hj : j < vs.length), ∃ f bs, fs[j]? = some f ∧ Reads h vs[j] (dat f) bs
  | _, [], _, r => by
    rw [dats] at r
    cases r
    exact ⟨rfl, fun j hj => absurd hj (Nat.not_lt_zero _)⟩
  | _, f :: t, _, r => by
    rw [dats] at r
    cases r with
    | cons r1 r2 =>
      obtain ⟨hl, hr⟩ := reads_at r2
      refine ⟨by simp [hl], fun j hj => ?_⟩
      cases j with
      | zero => exact ⟨f, _, rfl, r1⟩
      | succ j =>
        obtain ⟨g, bs, e, q⟩ := hr j (by simpa using hj)
        exact ⟨g, bs, by simpa using e, q⟩
theorem depth_mem {fs : List Fc} {f : Fc} {j : Nat} (h : fs[j]? = some f) : (dat f).depth ≤ PyData.depthAll (dats fs) := by
  induction fs generalizing j with
  | nil => simp at h
  | cons g r ih =>
    rw [dats]
    simp only [PyData.depthAll]
    cases j with
    | zero => simp at h; subst h; omega
    | succ j => have := ih (j := j) (by simpa using h); omega
mutual
theorem rcLt : ∀ (f g : Fc) {A : Around} {s : Shared} {v u : Value} {as bs : List Addr}, Reads s.heap v (dat f) as → Reads s.heap u (dat g) bs → A.units + (dat f).depth < cLine → SeqAt.RcLt A s v u (lt f g)
  | mk ws n, mk vs m, A, s, v, u, as, bs, rv, ru, hu => by
    rw [dat] at rv ru hu
    simp only [PyData.depth, PyData.depthAll] at hu
    obtain ⟨a, items, rfl, t1, ra⟩ := tup_inv rv
    obtain ⟨b, items2, rfl, t2, rb⟩ := tup_inv ru
    obtain ⟨il⟩ := items
    obtain ⟨il2⟩ := items2
    cases ra with
    | cons r1 r2 => cases r2 with
    | cons r3 r4 => cases r4 with
    | nil => cases rb with
    | cons p1 p2 => cases p2 with
    | cons p3 p4 => cases p4 with
    | nil =>
    cases r3
    cases p3
    have eq0 := SeqAt.eqAt_reads _ _ A.in1 s _ _ _ _ r1 p1 (by simpa [PyData.canLay0] using lays ws) (by simpa [PyData.canLay0] using lays vs) (by show A.units + 1 + _ < cLine; simp only [PyData.depth]; omega)
    rw [ev_tup, eqvs] at eq0
    obtain ⟨a1, w1, rfl, tw, rw1⟩ := tup_inv r1
    obtain ⟨b1, w2, rfl, tv, rv1⟩ := tup_inv p1
    obtain ⟨l1, f1⟩ := reads_at rw1
    obtain ⟨l2, f2⟩ := reads_at rv1
    have lt0 : SeqAt.RcLt A.in1 s (.ref a1) (.ref b1) (cmps ws vs == .lt) := by
      have h := SeqAt.RcLt.tuples (A := A.in1) (s := s) (e := eF ws vs) (r := rF ws vs) tw tv (by show A.units + 1 < cLine; omega) (fun j h1 h2 => ?_) (fun j h1 h2 _ => ?_)
      · have s1 : w1.size = ws.length := by rw [← l1]; simp
        have s2 : w2.size = vs.length := by rw [← l2]; simp
        rw [s1, s2, firstLt_cmps] at h
        exact h
      · obtain ⟨f, as1, e1, q1⟩ := f1 j (by simpa using h1)
        obtain ⟨g, bs1, e2, q2⟩ := f2 j (by simpa using h2)
        have d1 := depth_mem e1
        have := SeqAt.eqAt_reads _ _ A.in1.in1 s _ _ _ _ q1 q2 (lay f) (lay g) (by show A.units + 1 + 1 + _ < cLine; omega)
        rw [eqv f g] at this
        have ef : eF ws vs j = (cmp f g == .eq) := by simp [eF, e1, e2]
        rw [ef]
        simpa using this
      · obtain ⟨f, as1, e1, q1⟩ := f1 j (by simpa using h1)
        obtain ⟨g, bs1, e2, q2⟩ := f2 j (by simpa using h2)
        have := rcLts ws vs (A := A.in1.in1) j e1 q1 q2 (by show A.units + 1 + 1 + _ < cLine; omega)
        have ef : rF ws vs j = lt f g := by simp [rF, e1, e2]
        rw [ef]
        simpa using this
    have h := SeqAt.RcLt.tuples (A := A) (s := s) (e := fun j => if j = 0 then (cmps ws vs == .eq) else ((n : Int) == (m : Int))) (r := fun j => if j = 0 then (cmps ws vs == .lt) else decide ((n : Int) < (m : Int))) t1 t2 (by omega) (fun j h1 h2 => ?_) (fun j h1 h2 _ => ?_)
    · have e : SeqAt.firstLt (fun j => if j = 0 then (cmps ws vs == .eq) else ((n : Int) == (m : Int))) (fun j => if j = 0 then (cmps ws vs == .lt) else decide ((n : Int) < (m : Int))) (decide (2 < 2)) [0, 1] = lt (mk ws n) (mk vs m) := by
        rw [SeqAt.firstLt.eq_2, SeqAt.firstLt.eq_2, SeqAt.firstLt.eq_1, lt, cmp, then_lt]
        have hnm : decide ((n : Int) < (m : Int)) = (compare n m == .lt) := by
          by_cases h : n < m
          · have h2 : compare n m = .lt := Nat.compare_eq_lt.mpr h
            have h3 : ((n : Int) < (m : Int)) := by omega
            simp [h2, h3]
          · have h2 : compare n m ≠ .lt := fun z => h (Nat.compare_eq_lt.mp z)
            have h3 : ¬ ((n : Int) < (m : Int)) := by omega
            simp [h2, h3]
        simp only [hnm, nat_ev]
        generalize cmps ws vs = c
        generalize compare n m = d
        cases c <;> cases d <;> rfl
      rw [← e]
      exact h
    · match j, h1, h2 with
      | 0, _, _ => exact eq0
      | 1, _, _ => exact SeqAt.EqAt.int_int _ _ _ _
      | j + 2, h1, _ => exact absurd h1 (by simp)
    · match j, h1, h2 with
      | 0, _, _ => exact lt0
      | 1, _, _ => exact rc_int _ _ _ _
      | j + 2, h1, _ => exact absurd h1 (by simp)
theorem rcLts : ∀ (fs gs : List Fc) {A : Around} {s : Shared} (j : Nat) {f g : Fc} {v u : Value} {as bs : List Addr}, fs[j]? = some f → Reads s.heap v (dat f) as → Reads s.heap u (dat g) bs → A.units + PyData.depthAll (dats fs) < cLine → SeqAt.RcLt A s v u (lt f g)
  | [], _, _, _, _, _, _, _, _, _, _, h, _, _, _ => by simp at h
  | f0 :: r, gs, A, s, 0, f, g, v, u, as, bs, h, rv, ru, hu => by
    have e : f0 = f := by simpa using h
    subst e
    rw [dats] at hu
    simp only [PyData.depthAll] at hu
    exact rcLt f0 g rv ru (by omega)
  | f0 :: r, gs, A, s, j + 1, f, g, v, u, as, bs, h, rv, ru, hu => by
    rw [dats] at hu
    simp only [PyData.depthAll] at hu
    exact rcLts r gs j (by simpa using h) rv ru (by omega)
end
theorem rcLtW {ws vs : List Fc} {A : Around} {s : Shared} {v u : Value} {as bs : List Addr} (r1 : Reads s.heap v (.tuple (dats ws)) as) (p1 : Reads s.heap u (.tuple (dats vs)) bs) (hu : A.units + (PyData.depthAll (dats ws) + 2) < cLine) : SeqAt.RcLt A s v u (cmps ws vs == .lt) := by
  obtain ⟨a1, w1, rfl, tw, rw1⟩ := tup_inv r1
  obtain ⟨b1, w2, rfl, tv, rv1⟩ := tup_inv p1
  obtain ⟨l1, f1⟩ := reads_at rw1
  obtain ⟨l2, f2⟩ := reads_at rv1
  have h := SeqAt.RcLt.tuples (A := A) (s := s) (e := eF ws vs) (r := rF ws vs) tw tv (by omega) (fun j h1 h2 => ?_) (fun j h1 h2 _ => ?_)
  · have s1 : w1.size = ws.length := by rw [← l1]; simp
    have s2 : w2.size = vs.length := by rw [← l2]; simp
    rw [s1, s2, firstLt_cmps] at h
    exact h
  · obtain ⟨f, as1, e1, q1⟩ := f1 j (by simpa using h1)
    obtain ⟨g, bs1, e2, q2⟩ := f2 j (by simpa using h2)
    have d1 := depth_mem e1
    have := SeqAt.eqAt_reads _ _ A.in1 s _ _ _ _ q1 q2 (lay f) (lay g) (by show A.units + 1 + _ < cLine; omega)
    rw [eqv f g] at this
    have ef : eF ws vs j = (cmp f g == .eq) := by simp [eF, e1, e2]
    rw [ef]
    simpa using this
  · obtain ⟨f, as1, e1, q1⟩ := f1 j (by simpa using h1)
    obtain ⟨g, bs1, e2, q2⟩ := f2 j (by simpa using h2)
    have := rcLts ws vs (A := A.in1) j e1 q1 q2 (by show A.units + 1 + _ < cLine; omega)
    have ef : rF ws vs j = lt f g := by simp [rF, e1, e2]
    rw [ef]
    simpa using this
mutual
theorem keeps {h h' : Heap} (k : ∀ (b : Addr) (o : Obj), o.cls = .type "tuple" → h.get? b = some o → h'.get? b = some o) : ∀ (f : Fc) {v : Value} {as : List Addr}, Reads h v (dat f) as → Reads h' v (dat f) as
  | mk ws n, v, as, r => by
    rw [dat] at r ⊢
    obtain ⟨a, ⟨il⟩, rfl, ⟨o, e1, e2, n1, e3⟩, ra⟩ := tup_inv r
    cases ra with
    | cons r1 r2 => cases r2 with
    | cons r3 r4 =>
      cases r4
      cases r3
      obtain ⟨a2, ⟨il2⟩, rfl, ⟨o2, g1, g2, n2, g3⟩, rb⟩ := tup_inv r1
      exact .tuple (k _ _ e2 e1) e2 e3 (.cons (.tuple (k _ _ g2 g1) g2 g3 (keepsAll k ws rb)) (.cons (.int _ _) .nil))
theorem keepsAll {h h' : Heap} (k : ∀ (b : Addr) (o : Obj), o.cls = .type "tuple" → h.get? b = some o → h'.get? b = some o) : ∀ (fs : List Fc) {vs : List Value} {as : List Addr}, ReadsAll h vs (dats fs) as → ReadsAll h' vs (dats fs) as
  | [], _, _, r => by rw [dats] at r ⊢; cases r; exact .nil
  | f :: t, _, _, r => by
    rw [dats] at r ⊢
    cases r with
    | cons r1 r2 => exact .cons (keeps k f r1) (keepsAll k t r2)
end
theorem nat_ltv (n m : Nat) : decide ((n : Int) < (m : Int)) = (compare n m == .lt) := by
  by_cases h : n < m
  · have h2 : compare n m = .lt := Nat.compare_eq_lt.mpr h
    have h3 : ((n : Int) < (m : Int)) := by omega
    simp [h2, h3]
  · have h2 : compare n m ≠ .lt := fun z => h (Nat.compare_eq_lt.mp z)
    have h3 : ¬ ((n : Int) < (m : Int)) := by omega
    simp [h2, h3]
theorem cmp_self (f : Fc) : cmp f f = .eq := (cmp_eq f f).mpr rfl
theorem dat_inj {f g : Fc} (h : dat f = dat g) : f = g := by
  have a := eqv f g
  have b := eqv f f
  rw [cmp_self] at b
  rw [← h, b] at a
  exact (cmp_eq f g).mp (by simpa using a.symm)
open Classical in
noncomputable def kOf (h : Heap) (v : Value) : Fc := if e : ∃ f as, Reads h v (dat f) as then e.choose else .mk [] 0
theorem kOf_eq {h : Heap} {v : Value} {f : Fc} {as : List Addr} (r : Reads h v (dat f) as) : kOf h v = f := by
  have e : ∃ f as, Reads h v (dat f) as := ⟨f, as, r⟩
  unfold kOf
  rw [dif_pos e]
  obtain ⟨bs, q⟩ := e.choose_spec
  exact dat_inj (SeqAt.Reads.unique _ _ _ _ _ (lay _) q r)
theorem firsts {h : Heap} : ∀ {vs : List Value}, (∀ v ∈ vs, ∃ f as, Reads h v (dat f) as) → ∃ fs, PySem.W.KatTups h vs fs ∧ fs.length = vs.length ∧ ∀ f ∈ fs, ∃ a o, f = Value.ref a ∧ h.get? a = some o ∧ o.cls = .type "tuple"
  | [], _ => ⟨[], by simp only [PySem.W.KatTups], rfl, fun f hf => absurd hf List.not_mem_nil⟩
  | v :: r, hv => by
    obtain ⟨fs, h1, h2, h3⟩ := firsts (vs := r) fun x hx => hv x (List.mem_cons_of_mem _ hx)
    obtain ⟨f, as, rf⟩ := hv v List.mem_cons_self
    obtain ⟨ws, n⟩ := f
    rw [dat] at rf
    obtain ⟨a, ⟨il⟩, rfl, ⟨o, e1, e2, n1, e3⟩, ra⟩ := tup_inv rf
    cases ra with
    | cons r1 r2 =>
      obtain ⟨a2, ⟨il2⟩, rfl, ⟨o2, g1, g2, n2, g3⟩, rb⟩ := tup_inv r1
      refine ⟨.ref a2 :: fs, by simp only [PySem.W.KatTups]; exact ⟨⟨a, o, _, _, rfl, e1, e2, e3, rfl⟩, h1⟩, by simp [h2], fun f hf => ?_⟩
      rcases List.mem_cons.mp hf with rfl | hf
      · exact ⟨a2, o2, rfl, g1, g2⟩
      · exact h3 f hf
theorem cmp_sort {prog : Program} {w : World} {A : Around} {s : Shared} {vs : List Value} {k : Value → Fc} (hp : ∀ v ∈ vs, ∃ as, Reads s.heap v (dat (k v)) as ∧ A.units + ((dat (k v)).depth + 2) < cLine) :
    SrtO.Cmp prog w A s (tuples' false) (fun p => p.fst ∈ vs) (SrtO.lt2 fun v u => lt (k v) (k u)) := by
  intro p q hm hm'
  obtain ⟨as, rf, hu⟩ := hp p.fst hm
  obtain ⟨bs, rg, _⟩ := hp q.fst hm'
  show wpAny (model prog w) A (keyLt' (tuples' false) p.fst q.fst) (fun r s' => s' = s ∧ r = lt (k p.fst) (k q.fst)) (fun x x_1 => False) s
  generalize k p.fst = f at rf hu ⊢
  generalize k q.fst = g at rg ⊢
  obtain ⟨ws, n⟩ := f
  obtain ⟨us, m⟩ := g
  rw [dat] at rf rg hu
  simp only [PyData.depth, PyData.depthAll] at hu
  obtain ⟨a, ⟨il⟩, e0, ⟨o, e1, e2, n1, e3⟩, ra⟩ := tup_inv rf
  obtain ⟨b, ⟨il2⟩, g0, ⟨o2, g1, g2, n2, g3⟩, rb⟩ := tup_inv rg
  rw [e0, g0]
  cases ra with
  | cons r1 r2 => cases r2 with
  | cons r3 r4 =>
    cases r4
    cases r3
    cases rb with
    | cons p1 p2 => cases p2 with
    | cons p3 p4 =>
      cases p4
      cases p3
      have eq0 := SeqAt.eqAt_reads _ _ A s _ _ _ _ r1 p1 (by simpa [PyData.canLay0] using lays ws) (by simpa [PyData.canLay0] using lays us) (by simp only [PyData.depth]; omega)
      rw [ev_tup, eqvs] at eq0
      have lt0 := rcLtW (A := A) r1 p1 (by omega)
      have val : lt (mk ws n) (mk us m) = (if (cmps ws us == .eq) = true then (compare n m == .lt) else (cmps ws us == .lt)) := by rw [lt, cmp, then_lt]
      refine PySem.W.kat_lt e1 e3 g1 g3 (PySem.W.kat_cons (eq0 prog w _ _ (PySem.W.kat_go (fun c1 => PySem.W.kat_yes (PySem.W.kat_cons (SeqAt.EqAt.int_int _ _ _ _ prog w _ _ (PySem.W.kat_go (fun c2 => PySem.W.kat_yes (PySem.W.kat_nil ⟨rfl, ?_⟩)) fun c2 => PySem.W.kat_no (PySem.W.kat_one _ _ (lt_int ⟨rfl, ?_⟩)))))) fun c1 => PySem.W.kat_no (PySem.W.kat_one _ _ (lt0 prog w _ _ ⟨rfl, ?_⟩)))))
      · rw [val, if_pos c1]
        have : n = m := by have := eq_of_beq c2; omega
        subst this; simp
      · rw [val, if_pos c1]; exact nat_ltv n m
      · rw [val, c1]; rfl
theorem sortable {prog : Program} {w : World} {A : Around} {s : Shared} {a : Addr} {vs : List Value} {k : Value → Fc} (h0 : 0 < vs.length) (hp : ∀ v ∈ vs, ∃ as, Reads s.heap v (dat (k v)) as ∧ A.units + ((dat (k v)).depth + 2) < cLine)
    (ha : ∀ o : Obj, s.heap.get? a = some o → o.cls ≠ .type "tuple") : SrtO.SortableO prog w A s a vs (fun v u => lt (k v) (k u)) := by
  intro h' keep
  have kp : ∀ (b : Addr) (o : Obj), o.cls = .type "tuple" → s.heap.get? b = some o → h'.get? b = some o := fun b o c e => keep b o (fun z => by subst z; exact ha o e c) e
  have hp' : ∀ v ∈ vs, ∃ as, Reads h' v (dat (k v)) as ∧ A.units + ((dat (k v)).depth + 2) < cLine := fun v hv => by
    obtain ⟨as, r, u⟩ := hp v hv
    exact ⟨as, keeps kp _ r, u⟩
  obtain ⟨fs, h1, h2, h3⟩ := firsts (h := h') (vs := vs) fun v hv => by
    obtain ⟨as, r, _⟩ := hp' v hv
    exact ⟨_, as, r⟩
  refine ⟨tuples' false, fun Q E hq => PySem.W.kat_kind (T := .type "tuple") h1 (by omega) (fun f hf => ?_) (by decide) ?_, cmp_sort (s := { heap := h', gens := s.gens, drawn := s.drawn, toks := s.toks, os := s.os }) hp'⟩
  · obtain ⟨b, o, rfl, e1, e2⟩ := h3 f hf
    exact fun A Q E s k q => wpAny_typeOf_ref (k b o e1) (by rw [e2]; exact q)
  · have e : ((Value.type "tuple" : Value) != .type "tuple") = false := by decide
    rw [e]; exact hq
theorem sorted_fc {prog : Program} {w : World} {A : Around} {E : Value → Shared → Prop} {s : Shared} {l : Addr} {vs : List Value} {k : Value → Fc} {Q : Value → Shared → Prop} (hl : s.heap.IsList l vs.toArray) (hz : vs.length ≤ sizeLine)
    (hp : ∀ v ∈ vs, ∃ as, Reads s.heap v (dat (k v)) as ∧ A.units + ((dat (k v)).depth + 4) < cLine)
    (h : ∀ (h' : Heap) (d : Addr) (out : List Value), SrtO.Srtd (fun v u => lt (k v) (k u)) out → out.Perm vs → (∀ (b : Addr) (o : Obj), s.heap.get? b = some o → h'.get? b = some o) → s.heap.objs.size ≤ d → (∃ n, h'.get? d = some (seqObj "list" out.toArray n)) →
      Q (.ref d) { heap := h', gens := s.gens, drawn := s.drawn, toks := s.toks, os := s.os }) :
    wpAny (model prog w) A (call (.builtin "sorted") [.ref l]) Q E s := by
  refine SrtO.sorted_ord (ltv := fun v u => lt (k v) (k u)) ⟨fun x y => swo.asym _ _, fun x y z => swo.tr _ _ _⟩ hl hz (fun h2 h₁ a ha kk => ?_) fun out hs hb => ?_
  · refine sortable (s := { heap := h₁, gens := s.gens, drawn := s.drawn, toks := s.toks, os := s.os }) (by omega) (fun v hv => ?_) fun o e => ?_
    · obtain ⟨as, r, u⟩ := hp v hv
      exact ⟨as, keeps (fun b o _ e => (kk b o e).2) _ r, by show A.units + 1 + 1 + _ < cLine; omega⟩
    · have e2 := ha.symm.trans e
      cases e2
      intro z
      exact absurd (Value.type.inj z) (by decide)
  · obtain ⟨n, e⟩ := sortedAll_at s.heap vs out.toArray
    exact h _ _ out hs hb.perm (fun b o e => sortedAll_old e) (Nat.le_succ _) ⟨n, e⟩
/-! ## the one sorted list -/
def ins (f : Fc) : List Fc → List Fc
  | [] => [f]
  | g :: r => if lt g f = true then g :: ins f r else f :: g :: r
def srt : List Fc → List Fc
  | [] => []
  | f :: r => ins f (srt r)
theorem ins_perm (f : Fc) : ∀ l : List Fc, (ins f l).Perm (f :: l)
  | [] => .refl _
  | g :: r => by
    unfold ins
    split
    · exact ((ins_perm f r).cons g).trans (.swap f g r)
    · exact .refl _
theorem srt_perm : ∀ l : List Fc, (srt l).Perm l
  | [] => .refl _
  | f :: r => (ins_perm f (srt r)).trans ((srt_perm r).cons f)
abbrev Ord (l : List Fc) : Prop := l.Pairwise fun x y => lt y x = false
theorem ins_ord (f : Fc) : ∀ l : List Fc, Ord l → Ord (ins f l)
  | [], _ => List.pairwise_singleton _ _
  | g :: r, h => by
    have h' := List.pairwise_cons.mp h
    unfold ins
    split
    · rename_i c
      refine List.pairwise_cons.mpr ⟨fun x hx => ?_, ins_ord f r h'.2⟩
      rcases List.mem_cons.mp ((ins_perm f r).mem_iff.mp hx) with rfl | hx
      · exact swo.asym _ _ c
      · exact h'.1 x hx
    · rename_i c
      have c' : lt g f = false := Bool.eq_false_iff.mpr c
      refine List.pairwise_cons.mpr ⟨fun x hx => ?_, h⟩
      rcases List.mem_cons.mp hx with rfl | hx
      · exact c'
      · exact swo.tr _ _ _ c' (h'.1 x hx)
theorem srt_ord : ∀ l : List Fc, Ord (srt l)
  | [] => List.Pairwise.nil
  | f :: r => ins_ord f _ (srt_ord r)
theorem anti {a b : Fc} (h1 : lt a b = false) (h2 : lt b a = false) : a = b := by
  have h1' : cmp a b ≠ .lt := by simpa [lt] using h1
  have h2' : cmp b a ≠ .lt := by simpa [lt] using h2
  cases e : cmp a b with
  | lt => exact absurd e h1'
  | eq => exact (cmp_eq a b).mp e
  | gt => exact absurd (by rw [cmp_swap a b, e]; rfl) h2'
theorem ord_one : ∀ l m : List Fc, Ord l → Ord m → l.Perm m → l = m
  | [], m, _, _, p => p.nil_eq
  | a :: r, [], _, _, p => absurd p.length_eq (by simp)
  | a :: r, b :: t, h1, h2, p => by
    have g1 := List.pairwise_cons.mp h1
    have g2 := List.pairwise_cons.mp h2
    have e : a = b := by
      have ma : a ∈ b :: t := p.mem_iff.mp List.mem_cons_self
      have mb : b ∈ a :: r := p.mem_iff.mpr List.mem_cons_self
      rcases List.mem_cons.mp ma with h | h
      · exact h
      · rcases List.mem_cons.mp mb with k | k
        · exact k.symm
        · exact anti (g2.1 a h) (g1.1 b k)
    subst e
    rw [ord_one r t g1.2 g2.2 (p.cons_inv)]
/-! ## sorted of factors -/
theorem map_k {h : Heap} : ∀ {vs : List Value} {fs : List Fc} {as : List Addr}, ReadsAll h vs (dats fs) as → vs.map (kOf h) = fs
  | _, [], _, r => by rw [dats] at r; cases r; rfl
  | _, f :: t, _, r => by
    rw [dats] at r
    cases r with
    | cons r1 r2 => rw [List.map_cons, kOf_eq r1, map_k r2]
theorem dq_each {K : PySem.W.Frag} {H : Hp} (f : Value → V) (g : Value → Fc) : ∀ {l : List Value}, DqAll K H (l.map f) (dats (l.map g)) → ∀ v ∈ l, Dq K H (f v) (dat (g v))
  | [], _, v, hv => absurd hv List.not_mem_nil
  | x :: r, h, v, hv => by
    rw [List.map_cons, List.map_cons, dats] at h
    cases h with
    | cons a b =>
      rcases List.mem_cons.mp hv with rfl | hv
      · exact a
      · exact dq_each f g b v hv
theorem dq_all {K : PySem.W.Frag} {H : Hp} (f : Value → V) (g : Value → Fc) : ∀ {l : List Value}, (∀ v ∈ l, Dq K H (f v) (dat (g v))) → DqAll K H (l.map f) (dats (l.map g))
  | [], _ => by rw [List.map_nil, List.map_nil, dats]; exact .nil
  | x :: r, h => by
    rw [List.map_cons, List.map_cons, dats]
    exact .cons (h x List.mem_cons_self) (dq_all f g fun v hv => h v (List.mem_cons_of_mem _ hv))
theorem dq_ref {K : PySem.W.Frag} {H : Hp} {v : V} {f : Fc} (h : Dq K H v (dat f)) : ∃ a, v = .ref a := by
  obtain ⟨ws, n⟩ := f
  rw [dat] at h
  cases h
  exact ⟨_, rfl⟩
theorem dq_refs {K : PySem.W.Frag} {H : Hp} : ∀ {xs : List V} {fs : List Fc}, DqAll K H xs (dats fs) → ∀ x ∈ xs, ∃ a, x = .ref a
  | _, [], h, x, hx => by rw [dats] at h; cases h; exact absurd hx List.not_mem_nil
  | _, f :: r, h, x, hx => by
    rw [dats] at h
    cases h with
    | cons a b =>
      rcases List.mem_cons.mp hx with rfl | hx
      · exact dq_ref a
      · exact dq_refs b x hx
end Fc
def rSortF (K : PySem.W.Frag) : List V → Hp → VK → Prop := fun vs H Q => ∃ a xs fs, vs = [.ref a] ∧ SqL K H a xs ∧ DqAll K H xs (Fc.dats fs) ∧ PyData.depthAll (Fc.dats fs) ≤ 180 ∧
  ∀ ys p, DqAll K H ys (Fc.dats (Fc.srt fs)) → H p = none → Q (.ref p) (upd H p (.lst ys))
theorem call_sortF {X : Cx} (hu : X.A.units + 200 < cLine) : CallR X (.builtin "sorted") (rSortF X.K) := by
  rintro pins s σ H vs us Q I r ⟨a, xs, fs, rfl, hs, hd, hdep, q⟩
  obtain ⟨its, rv, hl, hz⟩ := I.list hs
  cases r with
  | cons r1 r2 =>
    cases r2
    cases r1
    obtain ⟨as, ra, _⟩ := DqAll.reads I hd rv
    obtain ⟨e1, e2⟩ := L2.refs_back rv (Fc.dq_refs hd)
    have hk := Fc.map_k ra
    obtain ⟨hlen, hat⟩ := Fc.reads_at ra
    have hd' : DqAll X.K H (its.map L2.backV) (Fc.dats (its.map (Fc.kOf s.heap))) := by rw [← e1, hk]; exact hd
    have each := Fc.dq_each _ _ hd'
    refine Fc.sorted_fc (k := Fc.kOf s.heap) (PlainL.isList hl) (by rw [← rv.length]; exact hz) (fun v hv => ?_) fun h' d out ho hp kp hsz hn => ?_
    · obtain ⟨j, hj, rfl⟩ := List.getElem_of_mem hv
      obtain ⟨f, bs, ef, rf⟩ := hat j hj
      rw [Fc.kOf_eq rf]
      have := Fc.depth_mem ef
      exact ⟨bs, rf, by omega⟩
    · obtain ⟨n, hn⟩ := hn
      have h3 : ∀ u ∈ out, ∃ a, u = Value.ref a := fun u hu => e2 u (hp.mem_iff.mp hu)
      have es : out.map (Fc.kOf s.heap) = Fc.srt fs := by
        refine Fc.ord_one _ _ (List.pairwise_map.mpr ho) (Fc.srt_ord _) ?_
        have p1 := hp.map (Fc.kOf s.heap)
        rw [hk] at p1
        exact p1.trans (Fc.srt_perm fs).symm
      refine ⟨.ref d, upd H d (.lst (out.map L2.backV)), I.laid kp hsz ⟨?_, out, n, L2.vals_back h3, hn⟩, rfl, q _ d ?_ (HOk.fresh I.hok hsz)⟩
      · rw [List.length_map, hp.length_eq, ← rv.length]; exact hz
      · rw [← es]
        exact Fc.dq_all _ _ fun v hv => each v (hp.mem_iff.mp hv)
end KB

namespace KB
open PySem L2
/-! ## the factors of a kind -/
namespace Fc
theorem srt_congr {l m : List Fc} (p : l.Perm m) : srt l = srt m := ord_one _ _ (srt_ord l) (srt_ord m) ((srt_perm l).trans (p.trans (srt_perm m).symm))
theorem srt_of {l : List Fc} (h : Ord l) : srt l = l := ord_one _ _ (srt_ord l) h (srt_perm l)
theorem srt_srt (l : List Fc) : srt (srt l) = srt l := srt_of (srt_ord l)
theorem srt_left (a b : List Fc) : srt (srt a ++ b) = srt (a ++ b) := srt_congr ((srt_perm a).append_right b)
theorem srt_right (a b : List Fc) : srt (a ++ srt b) = srt (a ++ b) := srt_congr ((srt_perm b).append_left a)
mutual
theorem pure_dat : ∀ f : Fc, pureT (dat f) = true
  | mk ws n => by simp [dat, pureT, pureTs, pure_dats ws]
theorem pure_dats : ∀ l : List Fc, pureTs (dats l) = true
  | [] => by simp [dats, pureTs]
  | f :: r => by simp [dats, pureTs, pure_dat f, pure_dats r]
end
theorem dats_append : ∀ a b : List Fc, dats (a ++ b) = dats a ++ dats b
  | [], b => by rw [dats]; rfl
  | f :: r, b => by rw [List.cons_append, dats, dats_append r b, dats]; rfl
theorem depth_le {B : Nat} : ∀ {l : List Fc}, (∀ f ∈ l, (dat f).depth ≤ B) → PyData.depthAll (dats l) ≤ B
  | [], _ => by rw [dats]; simp [PyData.depthAll]
  | f :: r, h => by
    rw [dats]
    simp only [PyData.depthAll]
    have a := h f List.mem_cons_self
    have b := depth_le (l := r) fun g hg => h g (List.mem_cons_of_mem _ hg)
    omega
theorem depth_of {l : List Fc} {f : Fc} (h : f ∈ l) : (dat f).depth ≤ PyData.depthAll (dats l) := by
  obtain ⟨j, hj, e⟩ := List.getElem_of_mem h
  exact depth_mem (j := j) (by rw [List.getElem?_eq_getElem hj, e])
theorem depth_perm {l m : List Fc} (p : l.Perm m) : PyData.depthAll (dats l) = PyData.depthAll (dats m) :=
  Nat.le_antisymm (depth_le fun f hf => depth_of (p.mem_iff.mp hf)) (depth_le fun f hf => depth_of (p.mem_iff.mpr hf))
theorem depth_srt (l : List Fc) : PyData.depthAll (dats (srt l)) = PyData.depthAll (dats l) := depth_perm (srt_perm l)
theorem depth_append (a b : List Fc) : PyData.depthAll (dats (a ++ b)) = max (PyData.depthAll (dats a)) (PyData.depthAll (dats b)) := by
  refine Nat.le_antisymm (depth_le fun f hf => ?_) (Nat.max_le.mpr ⟨depth_le fun f hf => depth_of (List.mem_append.mpr (.inl hf)), depth_le fun f hf => depth_of (List.mem_append.mpr (.inr hf))⟩)
  rcases List.mem_append.mp hf with h | h
  · have := depth_of h; omega
  · have := depth_of h; omega
end Fc
/-- the factors of a kind, each wanting W besides, in no order -/
def Kd.fac : Kd → List Fc → List Fc
  | .b n, W => [.mk W n]
  | .u, _ => []
  | .p x y, W => x.fac W ++ y.fac W
  | .f x y, W => y.fac (Fc.srt (W ++ Fc.srt (x.fac [])))
def Kd.form (k : Kd) : List Fc := Fc.srt (k.fac [])
/-- how far functions are handed to functions -/
def Kd.rk : Kd → Nat
  | .b _ => 0
  | .u => 0
  | .p x y => max x.rk y.rk
  | .f x y => max (x.rk + 1) y.rk
theorem Kd.fac_depth : ∀ (k : Kd) (W : List Fc), PyData.depthAll (Fc.dats (k.fac W)) ≤ 2 + max (PyData.depthAll (Fc.dats W)) (2 * k.rk)
  | .b n, W => by
    rw [Kd.fac, Fc.dats, Fc.dats, Fc.dat]
    simp only [PyData.depthAll, PyData.depth]
    omega
  | .u, W => by rw [Kd.fac, Fc.dats]; simp [PyData.depthAll]
  | .p x y, W => by
    have a := Kd.fac_depth x W
    have b := Kd.fac_depth y W
    rw [Kd.fac, Fc.depth_append, Kd.rk]
    omega
  | .f x y, W => by
    have a := Kd.fac_depth x []
    have b := Kd.fac_depth y (Fc.srt (W ++ Fc.srt (x.fac [])))
    rw [Fc.depth_srt, Fc.depth_append, Fc.depth_srt] at b
    rw [Fc.dats] at a
    simp only [PyData.depthAll] at a
    rw [Kd.fac, Kd.rk]
    omega
/-- a factor that wants V besides -/
def Fc.add (V : List Fc) : Fc → Fc
  | .mk ws n => .mk (Fc.srt (V ++ ws)) n
theorem Kd.fac_add : ∀ (k : Kd) (V W : List Fc), k.fac (Fc.srt (V ++ W)) = (k.fac W).map (Fc.add V)
  | .b n, V, W => by rw [Kd.fac, Kd.fac]; rfl
  | .u, V, W => by rw [Kd.fac, Kd.fac]; rfl
  | .p x y, V, W => by rw [Kd.fac, Kd.fac, List.map_append, Kd.fac_add x V W, Kd.fac_add y V W]
  | .f x y, V, W => by
    rw [Kd.fac, Kd.fac, Fc.srt_left, List.append_assoc, ← Kd.fac_add y V]
    rw [Fc.srt_right]
theorem Kd.fac_length : ∀ (k : Kd) (W : List Fc), (k.fac W).length ≤ k.leaves
  | .b n, W => by rw [Kd.fac]; simp [Kd.leaves]
  | .u, W => by rw [Kd.fac]; simp
  | .p x y, W => by have := Kd.fac_length x W; have := Kd.fac_length y W; rw [Kd.fac, List.length_append, Kd.leaves]; omega
  | .f x y, W => by have := Kd.fac_length y (Fc.srt (W ++ Fc.srt (x.fac []))); rw [Kd.fac, Kd.leaves]; omega
theorem Fc.srt_length (l : List Fc) : (Fc.srt l).length = l.length := (Fc.srt_perm l).length_eq
theorem Kd.form_length (k : Kd) : k.form.length ≤ k.leaves := by rw [Kd.form, Fc.srt_length]; exact k.fac_length []
theorem Kd.form_depth (k : Kd) : PyData.depthAll (Fc.dats k.form) ≤ 2 + 2 * k.rk := by
  have := k.fac_depth []
  rw [Kd.form, Fc.depth_srt]
  simp only [Fc.dats, PyData.depthAll] at this
  omega
/-- a walk over what is either of two sorts -/
theorem pi_or {X : Cx} {tg l : Expr} {w1 w2 : TI} (a : PI X tg l w1) (b : PI X tg l w2) : PI X tg l (fun σ H R => w1 σ H R ∨ w2 σ H R) :=
  ⟨fun pins s σ H R I h => h.elim (a.run pins s σ H R I) (b.run pins s σ H R I)⟩
theorem pi_seq {X : Cx} {tg l : Expr} {tl : TE} (h : PE X l tl) : PI X tg l (fun σ H R => iList X.K tl σ H R ∨ iTup X.K tl σ H R) := pi_or (pi_list h) (pi_tup h)
/-! ## the kind of factors -/
mutual
def Fc.kd : Fc → Kd
  | .mk ws n => Fc.kdw (.b n) ws
/-- what wants these gives the base -/
def Fc.kdw (b : Kd) : List Fc → Kd
  | [] => b
  | f :: r => .f (Fc.kdf (Fc.kd f) r) b
/-- a first kind, and those of the rest behind it -/
def Fc.kdf (k : Kd) : List Fc → Kd
  | [] => k
  | f :: r => .p k (Fc.kdf (Fc.kd f) r)
end
def Fc.kds : List Fc → Kd
  | [] => .u
  | f :: r => Fc.kdf f.kd r
end KB

namespace KB
open PySem L2
/-! ## forms by their parts; what keeps them -/
theorem Kd.form_p (x y : Kd) : (Kd.p x y).form = Fc.srt (x.form ++ y.form) := by
  rw [Kd.form, Kd.fac, Kd.form, Kd.form, Fc.srt_left, Fc.srt_right]
theorem Kd.fac_f (x y : Kd) : (Kd.f x y).fac [] = (y.fac []).map (Fc.add x.form) := by
  rw [Kd.fac, List.nil_append, Fc.srt_srt]
  have := Kd.fac_add y x.form []
  rw [List.append_nil, Kd.form, Fc.srt_srt] at this
  rw [Kd.form]; exact this
theorem Kd.form_f (x y : Kd) : (Kd.f x y).form = Fc.srt (y.form.map (Fc.add x.form)) := by
  rw [Kd.form, Kd.fac_f]
  exact Fc.srt_congr ((Fc.srt_perm (y.fac [])).map _).symm
theorem Kd.form_u : Kd.u.form = [] := by rw [Kd.form, Kd.fac]; rfl
theorem Kd.form_b (n : Nat) : (Kd.b n).form = [.mk [] n] := by rw [Kd.form, Kd.fac]; rfl
theorem Kd.cong_p {x x' y y' : Kd} (a : x.form = x'.form) (b : y.form = y'.form) : (Kd.p x y).form = (Kd.p x' y').form := by rw [Kd.form_p, Kd.form_p, a, b]
theorem Kd.cong_f {x x' y y' : Kd} (a : x.form = x'.form) (b : y.form = y'.form) : (Kd.f x y).form = (Kd.f x' y').form := by rw [Kd.form_f, Kd.form_f, a, b]
theorem Kd.form_srt (k : Kd) : Fc.srt k.form = k.form := Fc.srt_srt _
theorem Kd.q_unitR (x : Kd) : (Kd.p x .u).form = x.form := by rw [Kd.form_p, Kd.form_u, List.append_nil, Kd.form_srt]
theorem Kd.q_unitF (x : Kd) : (Kd.f .u x).form = x.form := by
  rw [Kd.form, Kd.fac, Kd.fac]
  rfl
theorem Kd.q_toU (x : Kd) : (Kd.f x .u).form = Kd.u.form := by rw [Kd.form, Kd.form, Kd.fac, Kd.fac, Kd.fac]
theorem Kd.q_comm (x y : Kd) : (Kd.p y x).form = (Kd.p x y).form := by rw [Kd.form_p, Kd.form_p]; exact Fc.srt_congr List.perm_append_comm
theorem Kd.q_assoc (x y z : Kd) : (Kd.p (.p x y) z).form = (Kd.p x (.p y z)).form := by
  rw [Kd.form, Kd.form, Kd.fac, Kd.fac, Kd.fac, Kd.fac, List.append_assoc]
theorem Kd.q_part (a x y : Kd) : (Kd.p (.f a x) (.f a y)).form = (Kd.f a (.p x y)).form := by
  rw [Kd.form, Kd.form, Kd.fac, Kd.fac, Kd.fac, Kd.fac, Kd.fac]
theorem Kd.q_curry (a b y : Kd) : (Kd.f (.p a b) y).form = (Kd.f a (.f b y)).form := by
  have h : Fc.srt ([] ++ Fc.srt ((Kd.p a b).fac [])) = Fc.srt (Fc.srt ([] ++ Fc.srt (a.fac [])) ++ Fc.srt (b.fac [])) := by
    rw [Kd.fac, List.nil_append, List.nil_append, Fc.srt_srt, Fc.srt_srt, Fc.srt_left, Fc.srt_right]
  show Fc.srt (y.fac (Fc.srt ([] ++ Fc.srt ((Kd.p a b).fac [])))) = Fc.srt (y.fac (Fc.srt (Fc.srt ([] ++ Fc.srt (a.fac [])) ++ Fc.srt (b.fac []))))
  rw [h]
theorem Kd.rk_lt : ∀ k : Kd, k.rk < k.leaves
  | .b _ => by simp [Kd.rk, Kd.leaves]
  | .u => by simp [Kd.rk, Kd.leaves]
  | .p x y => by have := Kd.rk_lt x; have := Kd.rk_lt y; simp only [Kd.rk, Kd.leaves]; omega
  | .f x y => by have := Kd.rk_lt x; have := Kd.rk_lt y; have := y.leaves_pos; simp only [Kd.rk, Kd.leaves]; omega
/-! ## the numbers in factors; bases -/
namespace Fc
mutual
def num : Fc → List Nat
  | mk ws n => n :: nums ws
def nums : List Fc → List Nat
  | [] => []
  | f :: r => num f ++ nums r
end
theorem mem_nums {n : Nat} : ∀ {l : List Fc}, n ∈ nums l ↔ ∃ f ∈ l, n ∈ num f
  | [] => by rw [nums]; simp
  | f :: r => by rw [nums, List.mem_append, mem_nums (l := r)]; simp
theorem nums_perm {n : Nat} {l m : List Fc} (p : l.Perm m) : n ∈ nums l ↔ n ∈ nums m := by
  rw [mem_nums, mem_nums]
  exact ⟨fun ⟨f, h, e⟩ => ⟨f, p.mem_iff.mp h, e⟩, fun ⟨f, h, e⟩ => ⟨f, p.mem_iff.mpr h, e⟩⟩
theorem nums_srt {n : Nat} (l : List Fc) : n ∈ nums (srt l) ↔ n ∈ nums l := nums_perm (srt_perm l)
theorem nums_app {n : Nat} (a b : List Fc) : n ∈ nums (a ++ b) ↔ n ∈ nums a ∨ n ∈ nums b := by
  rw [mem_nums, mem_nums, mem_nums]
  constructor
  · rintro ⟨f, h, e⟩
    rcases List.mem_append.mp h with h | h
    · exact .inl ⟨f, h, e⟩
    · exact .inr ⟨f, h, e⟩
  · rintro (⟨f, h, e⟩ | ⟨f, h, e⟩)
    · exact ⟨f, List.mem_append.mpr (.inl h), e⟩
    · exact ⟨f, List.mem_append.mpr (.inr h), e⟩
theorem num_add {n : Nat} (V : List Fc) : ∀ f : Fc, n ∈ num (add V f) ↔ n ∈ nums V ∨ n ∈ num f
  | mk ws m => by
    rw [add, num, num, List.mem_cons, List.mem_cons, nums_srt, nums_app]
    constructor
    · rintro (h | h | h)
      · exact .inr (.inl h)
      · exact .inl h
      · exact .inr (.inr h)
    · rintro (h | h | h)
      · exact .inr (.inl h)
      · exact .inl h
      · exact .inr (.inr h)
theorem nums_addL {n : Nat} (V : List Fc) (l : List Fc) : n ∈ nums (l.map (add V)) ↔ (l ≠ [] ∧ n ∈ nums V) ∨ n ∈ nums l := by
  rw [mem_nums (l := l.map (add V)), mem_nums (l := l)]
  constructor
  · rintro ⟨f, h, e⟩
    obtain ⟨g, hg, rfl⟩ := List.mem_map.mp h
    rcases (num_add V g).mp e with e | e
    · exact .inl ⟨fun z => (by rw [z] at hg; cases hg), e⟩
    · exact .inr ⟨g, hg, e⟩
  · rintro (⟨h, e⟩ | ⟨g, hg, e⟩)
    · cases l with
      | nil => exact absurd rfl h
      | cons g r => exact ⟨_, List.mem_map.mpr ⟨g, List.mem_cons_self, rfl⟩, (num_add V g).mpr (.inl e)⟩
    · exact ⟨_, List.mem_map.mpr ⟨g, hg, rfl⟩, (num_add V g).mpr (.inr e)⟩
end Fc
namespace Kd
def bases : Kd → List Nat
  | b n => [n]
  | u => []
  | p x y => x.bases ++ y.bases
  | f x y => x.bases ++ y.bases
theorem bases_ok : ∀ {k : Kd}, k.ok → ∀ n ∈ k.bases, n < 8
  | b m, h, n, e => by rw [bases, List.mem_singleton] at e; rw [e]; exact h
  | u, _, n, e => by rw [bases] at e; cases e
  | p x y, h, n, e => by rw [bases] at e; exact (List.mem_append.mp e).elim (bases_ok h.1 n) (bases_ok h.2 n)
  | f x y, h, n, e => by rw [bases] at e; exact (List.mem_append.mp e).elim (bases_ok h.1 n) (bases_ok h.2 n)
theorem bases_length : ∀ k : Kd, k.bases.length ≤ k.leaves
  | b _ => Nat.le_refl _
  | u => by simp [bases]
  | p x y => by have := bases_length x; have := bases_length y; simp only [bases, List.length_append, leaves]; omega
  | f x y => by have := bases_length x; have := bases_length y; simp only [bases, List.length_append, leaves]; omega
/-- one base exchanged, by its place -/
def chg (c : Nat) : Kd → Int → Kd
  | b n, i => if i = 0 then b c else b n
  | u, _ => u
  | p x y, i => p (x.chg c i) (y.chg c (i - x.bases.length))
  | f x y, i => f (x.chg c i) (y.chg c (i - x.bases.length))
theorem chg_ok {c : Nat} (hc : c < 8) : ∀ {k : Kd} (i : Int), k.ok → (k.chg c i).ok
  | b n, i, h => by rw [chg]; split; exact hc; exact h
  | u, _, h => h
  | p x y, i, h => ⟨chg_ok hc _ h.1, chg_ok hc _ h.2⟩
  | f x y, i, h => ⟨chg_ok hc _ h.1, chg_ok hc _ h.2⟩
theorem chg_leaves {c : Nat} : ∀ (k : Kd) (i : Int), (k.chg c i).leaves = k.leaves
  | b n, i => by rw [chg]; split <;> rfl
  | u, _ => rfl
  | p x y, i => by rw [chg, leaves, leaves, chg_leaves x, chg_leaves y]
  | f x y, i => by rw [chg, leaves, leaves, chg_leaves x, chg_leaves y]
/-- where the base exchanged is not in the form, this is as it was -/
theorem chg_form {c : Nat} : ∀ (k : Kd) (i : Int), c ∉ Fc.nums (k.chg c i).form → (k.chg c i).form = k.form
  | b n, i, h => by
    rw [chg] at h ⊢
    split at h
    · rw [form_b] at h; exact absurd (by simp [Fc.nums, Fc.num]) h
    · rename_i z; rw [if_neg z]
  | u, _, _ => rfl
  | p x y, i, h => by
    rw [chg] at h ⊢
    rw [form_p, Fc.nums_srt, Fc.nums_app] at h
    exact cong_p (chg_form x _ fun z => h (.inl z)) (chg_form y _ fun z => h (.inr z))
  | f x y, i, h => by
    rw [chg] at h ⊢
    rw [form_f, Fc.nums_srt, Fc.nums_addL] at h
    have hy := chg_form y (i - x.bases.length) fun z => h (.inr z)
    by_cases e : (y.chg c (i - x.bases.length)).form = []
    · rw [form_f, form_f, ← hy, e]; rfl
    · exact cong_f (chg_form x _ fun z => h (.inl ⟨e, z⟩)) hy
theorem nums_form {n : Nat} : ∀ {k : Kd}, n ∈ Fc.nums k.form → n ∈ k.bases
  | b m, h => by rw [form_b] at h; simpa [Fc.nums, Fc.num, bases] using h
  | u, h => by rw [form_u] at h; cases h
  | p x y, h => by
    rw [form_p, Fc.nums_srt, Fc.nums_app] at h
    rw [bases, List.mem_append]
    exact h.imp nums_form nums_form
  | f x y, h => by
    rw [form_f, Fc.nums_srt, Fc.nums_addL] at h
    rw [bases, List.mem_append]
    exact h.imp (fun z => nums_form z.2) nums_form
end Kd
mutual
theorem Fc.bases_kd (n : Nat) : ∀ f : Fc, n ∈ f.kd.bases ↔ n ∈ Fc.num f
  | .mk ws m => by
    rw [Fc.kd, Fc.num, Fc.bases_kdw n (.b m) ws, Kd.bases]
    simp only [List.mem_cons, List.not_mem_nil, or_false]
    exact or_comm
theorem Fc.bases_kdw (n : Nat) (b : Kd) : ∀ l : List Fc, n ∈ (Fc.kdw b l).bases ↔ n ∈ Fc.nums l ∨ n ∈ b.bases
  | [] => by rw [Fc.kdw, Fc.nums]; simp
  | f :: r => by rw [Fc.kdw, Kd.bases, List.mem_append, Fc.bases_kdf n f.kd r, Fc.nums, List.mem_append, Fc.bases_kd n f]
theorem Fc.bases_kdf (n : Nat) (k : Kd) : ∀ l : List Fc, n ∈ (Fc.kdf k l).bases ↔ n ∈ k.bases ∨ n ∈ Fc.nums l
  | [] => by rw [Fc.kdf, Fc.nums]; simp
  | f :: r => by rw [Fc.kdf, Kd.bases, List.mem_append, Fc.bases_kdf n f.kd r, Fc.nums, List.mem_append, Fc.bases_kd n f]
end
theorem Fc.bases_kds (n : Nat) : ∀ l : List Fc, n ∈ (Fc.kds l).bases ↔ n ∈ Fc.nums l
  | [] => by rw [Fc.kds, Fc.nums]; simp [Kd.bases]
  | f :: r => by rw [Fc.kds, Fc.bases_kdf, Fc.nums, List.mem_append, Fc.bases_kd n f]
/-- what the law of the base exchanged asks -/
theorem Kd.chg_law {k : Kd} {c : Nat} (hc : c ∉ k.bases) (i : Int) : (Fc.cmps k.form (k.chg c i).form == .eq) = !decide (c ∈ (Fc.kds (k.chg c i).form).bases) := by
  by_cases h : c ∈ (Fc.kds (k.chg c i).form).bases
  · rw [decide_eq_true h]
    rw [Fc.bases_kds] at h
    have : k.form ≠ (k.chg c i).form := fun e => hc (Kd.nums_form (by rw [e]; exact h))
    have : Fc.cmps k.form (k.chg c i).form ≠ .eq := fun z => this ((Fc.cmps_eq _ _).mp z)
    simpa using this
  · rw [decide_eq_false h]
    rw [Fc.bases_kds] at h
    rw [Kd.chg_form k i h, (Fc.cmps_eq _ _).mpr rfl]
    rfl
end KB

namespace KB
open PySem PySem.Spec PyProof.Rows L2
/-! ## sorted of a tuple of factors -/
section
variable {P : Program} {W : World} {A : Around} {X : Value → Shared → Prop} {s : Shared}
/-- the heap behind the gathering of the items -/
abbrev gath (h : Heap) (its : List Value) : Heap := (h.push (seqObj "list" #[] 0)).update h.objs.size (Obj.mapSeq (· ++ its.toArray))
theorem gather_tup {t : Addr} {its : List Value} {R : List Value → Shared → Prop} (ht : IsTup s.heap t its.toArray) (hn : its.length ≤ sizeLine) (q : R its { s with heap := gath s.heap its }) : wpAny (model P W) A (collect (.ref t)) R X s := by
  obtain ⟨ob, get, cl, m, dat⟩ := id ht
  have get2 : (s.heap.push (seqObj "list" #[] 0)).get? t = some ob := Heap.get?_push_of_some _ get
  have new : (s.heap.push (seqObj "list" #[] 0)).get? s.heap.objs.size = some (seqObj "list" #[] 0) := Heap.get?_push_size _ rfl
  unfold collect
  refine wpAny_bind (wpAny_runValue (codeAny_builtin entry_proto_collect' (?_ : wpAny _ _ (do again (.builtin "list.__iadd__" ⟨[← newList [], .ref t], []⟩)) _ _ s)))
  refine wpAny_bind (wpAny_newList (wpAny_pure ⟨Code.quiet_builtin _ (by decide +kernel), codeAny_builtin entry_list_iadd' (?_ : wpAny _ _ (Builtin.List.listExtendWith (.ref s.heap.objs.size) (.ref t) (.ref s.heap.objs.size)) _ _ { s with heap := s.heap.push (seqObj "list" #[] 0) })⟩))
  unfold Builtin.List.listExtendWith
  refine wpAny_bind (wpAny_typeOf (T := "tuple") ⟨ob, get2, cl⟩ (?_ : wpAny _ _ _ _ _ _))
  have yes : (Value.type "tuple" == Value.type "tuple") = true := by decide
  rw [if_pos (by rw [yes]; simp)]
  refine wpAny_bind (listItems_at get2 dat (wpAny_bind (listItems_at new rfl ?_)))
  rw [if_neg (by simp)]
  have fits : (#[] ++ its.toArray).size ≤ sizeLine + 1 := by simp only [Array.size_append, List.size_toArray, List.length_nil]; omega
  refine wpAny_bind (listUpdate_at new rfl (wpAny_pure ?_) (Nat.zero_le _) fits)
  have back : (#[] ++ its.toArray).toList = its := by simp
  refine wpAny_bind (wpAny_load (get?_update_seq new _) (?_ : wpAny _ _ (pure ((#[] : Array Value) ++ its.toArray).toList) R X _))
  rw [back]
  exact wpAny_pure q
theorem sorted_tup {t : Addr} {its : List Value} {lt : Value → Value → Bool} {R : Value → Shared → Prop} (O : SrtO.Swo lt) (ht : IsTup s.heap t its.toArray) (hn : its.length ≤ sizeLine)
    (S : 2 ≤ its.length → ∀ (g : Heap) (a : Addr), g.get? a = some (seqObj "list" its.toArray 0) → (∀ b o, s.heap.get? b = some o → b ≠ a ∧ g.get? b = some o) → SrtO.SortableO P W A.in1.in1 { s with heap := g } a its lt)
    (q : ∀ res : List Value, SrtO.Srtd lt res → SrtO.Stb lt res its → R (.ref (s.heap.objs.size + 1)) { s with heap := sortedAll s.heap its res.toArray }) :
    wpAny (model P W) A (call (.builtin "sorted") [.ref t]) R X s := by
  have size2 : (gath s.heap its).objs.size = s.heap.objs.size + 1 := by rw [Heap.size_update, size_push']
  have at2 : ((gath s.heap its).push (seqObj "list" its.toArray 0)).get? (s.heap.objs.size + 1) = some (seqObj "list" its.toArray 0) := by rw [← size2]; exact Heap.get?_push_size _ rfl
  have old : ∀ b o, s.heap.get? b = some o → b ≠ s.heap.objs.size + 1 ∧ ((gath s.heap its).push (seqObj "list" its.toArray 0)).get? b = some o := fun b o e => by
    have below : b < s.heap.objs.size := Heap.lt_size e
    refine ⟨Nat.ne_of_lt (Nat.lt_succ_of_lt below), Heap.get?_push_of_some _ ?_⟩
    rw [Heap.get?_update_ne _ _ _ _ (Nat.ne_of_lt below)]; exact Heap.get?_push_of_some _ e
  refine Calls.call_function_entry kind_sorted plain_sorted entry_sorted (args_sorted1 _) (?_ : wpAny _ _ _ _ _ _)
  unfold Builtin.«sorted»
  refine wpAny_bind (m := checkCount "sorted" 1 1 _) (wpAny_pure (wpAny_bind (gather_tup ht hn (wpAny_bind (wpAny_newList ?_ hn)))))
  show wpAny _ _ _ _ _ { s with heap := (gath s.heap its).push (seqObj "list" its.toArray 0) }
  rw [size2]
  refine wpAny_bind (wpAny_holding (wpAny_call_entry slot_list_sort ⟨_, at2, rfl⟩ entry_list_sort (SrtO.list_sort_ord O at2 hn (fun two => S two _ _ at2 old) fun res a b => ⟨_, rfl, (?_ : wpAny _ _ _ _ _ _)⟩) (args_list_sort _)))
  exact wpAny_pure ⟨_, rfl, q res a b⟩
theorem Fc.sorted_fcT {l : Addr} {vs : List Value} {k : Value → Fc} {Q : Value → Shared → Prop} (hl : IsTup s.heap l vs.toArray) (hz : vs.length ≤ sizeLine)
    (hp : ∀ v ∈ vs, ∃ as, Reads s.heap v (dat (k v)) as ∧ A.units + ((dat (k v)).depth + 4) < cLine)
    (h : ∀ (h' : Heap) (d : Addr) (out : List Value), SrtO.Srtd (fun v u => Fc.lt (k v) (k u)) out → out.Perm vs → (∀ (b : Addr) (o : Obj), s.heap.get? b = some o → h'.get? b = some o) → s.heap.objs.size ≤ d → (∃ n, h'.get? d = some (seqObj "list" out.toArray n)) →
      Q (.ref d) { heap := h', gens := s.gens, drawn := s.drawn, toks := s.toks, os := s.os }) :
    wpAny (model P W) A (call (.builtin "sorted") [.ref l]) Q X s := by
  refine sorted_tup (lt := fun v u => Fc.lt (k v) (k u)) ⟨fun x y => swo.asym _ _, fun x y z => swo.tr _ _ _⟩ hl hz (fun h2 h₁ a ha kk => ?_) fun out hs hb => ?_
  · refine sortable (s := { heap := h₁, gens := s.gens, drawn := s.drawn, toks := s.toks, os := s.os }) (by omega) (fun v hv => ?_) fun o e => ?_
    · obtain ⟨as, r, u⟩ := hp v hv
      exact ⟨as, keeps (fun b o _ e => (kk b o e).2) _ r, by show A.units + 1 + 1 + _ < cLine; omega⟩
    · have e2 := ha.symm.trans e
      cases e2
      intro z
      exact absurd (Value.type.inj z) (by decide)
  · obtain ⟨n, e⟩ := sortedAll_at s.heap vs out.toArray
    exact h _ _ out hs hb.perm (fun b o e => sortedAll_old e) (Nat.le_succ _) ⟨n, e⟩
end
def rSortG (K : PySem.W.Frag) : List V → Hp → VK → Prop := fun vs H Q => ∃ a xs fs, vs = [.ref a] ∧ (SqL K H a xs ∨ SqT K H a xs) ∧ DqAll K H xs (Fc.dats fs) ∧ PyData.depthAll (Fc.dats fs) ≤ 180 ∧
  ∀ ys p, DqAll K H ys (Fc.dats (Fc.srt fs)) → H p = none → Q (.ref p) (upd H p (.lst ys))
theorem call_sortG {X : Cx} (hu : X.A.units + 200 < cLine) : CallR X (.builtin "sorted") (rSortG X.K) := by
  rintro pins s σ H vs us Q I r ⟨a, xs, fs, rfl, hs, hd, hdep, q⟩
  rcases hs with hs | hs
  · exact call_sortF hu pins s σ H _ us Q I r ⟨a, xs, fs, rfl, hs, hd, hdep, q⟩
  obtain ⟨its, rv, hl, hz⟩ := I.tuple hs
  cases r with
  | cons r1 r2 =>
    cases r2
    cases r1
    obtain ⟨as, ra, _⟩ := DqAll.reads I hd rv
    obtain ⟨e1, e2⟩ := L2.refs_back rv (Fc.dq_refs hd)
    have hk := Fc.map_k ra
    obtain ⟨hlen, hat⟩ := Fc.reads_at ra
    have hd' : DqAll X.K H (its.map L2.backV) (Fc.dats (its.map (Fc.kOf s.heap))) := by rw [← e1, hk]; exact hd
    have each := Fc.dq_each _ _ hd'
    refine Fc.sorted_fcT (k := Fc.kOf s.heap) hl (by rw [← rv.length]; exact hz) (fun v hv => ?_) fun h' d out ho hp kp hsz hn => ?_
    · obtain ⟨j, hj, rfl⟩ := List.getElem_of_mem hv
      obtain ⟨f, bs, ef, rf⟩ := hat j hj
      rw [Fc.kOf_eq rf]
      have := Fc.depth_mem ef
      exact ⟨bs, rf, by omega⟩
    · obtain ⟨n, hn⟩ := hn
      have h3 : ∀ u ∈ out, ∃ a, u = Value.ref a := fun u hu => e2 u (hp.mem_iff.mp hu)
      have es : out.map (Fc.kOf s.heap) = Fc.srt fs := by
        refine Fc.ord_one _ _ (List.pairwise_map.mpr ho) (Fc.srt_ord _) ?_
        have p1 := hp.map (Fc.kOf s.heap)
        rw [hk] at p1
        exact p1.trans (Fc.srt_perm fs).symm
      refine ⟨.ref d, upd H d (.lst (out.map L2.backV)), I.laid kp hsz ⟨?_, out, n, L2.vals_back h3, hn⟩, rfl, q _ d ?_ (HOk.fresh I.hok hsz)⟩
      · rw [List.length_map, hp.length_eq, ← rv.length]; exact hz
      · rw [← es]
        exact Fc.dq_all _ _ fun v hv => each v (hp.mem_iff.mp hv)
/-! ## rows of a form: it, and what each factor wants, and so on -/
def Fc.ws : Fc → List Fc
  | .mk ws _ => ws
def Fc.n : Fc → Nat
  | .mk _ n => n
mutual
def Fc.rowsF : Fc → List (List Fc)
  | .mk ws _ => ws :: Fc.rowsW ws
def Fc.rowsW : List Fc → List (List Fc)
  | [] => []
  | f :: r => Fc.rowsF f ++ Fc.rowsW r
end
def Fc.rows (l : List Fc) : List (List Fc) := l :: Fc.rowsW l
theorem Fc.rowsW_map (l : List Fc) : Fc.rowsW l = (l.map fun f => Fc.rows f.ws).flatten := by
  induction l with
  | nil => rfl
  | cons f r ih => obtain ⟨ws, n⟩ := f; rw [Fc.rowsW, ih, Fc.rowsF]; rfl
def Fc.her (l : List Fc) : Bool := (Fc.rows l).all fun r => Fc.cmps r (Fc.srt r) == .eq
mutual
/-- each row in order, each number that of a base -/
def Fc.good : Fc → Prop
  | .mk ws n => n < 8 ∧ Fc.Ord ws ∧ Fc.goods ws
def Fc.goods : List Fc → Prop
  | [] => True
  | f :: r => Fc.good f ∧ Fc.goods r
end
theorem Fc.goods_iff : ∀ {l : List Fc}, Fc.goods l ↔ ∀ f ∈ l, Fc.good f
  | [] => by rw [Fc.goods]; simp
  | f :: r => by rw [Fc.goods, Fc.goods_iff (l := r)]; simp
theorem Fc.goods_srt (l : List Fc) : Fc.goods (Fc.srt l) ↔ Fc.goods l := by
  rw [Fc.goods_iff, Fc.goods_iff]
  exact ⟨fun h f hf => h f ((Fc.srt_perm l).mem_iff.mpr hf), fun h f hf => h f ((Fc.srt_perm l).mem_iff.mp hf)⟩
theorem Fc.goods_app (a b : List Fc) : Fc.goods (a ++ b) ↔ Fc.goods a ∧ Fc.goods b := by
  rw [Fc.goods_iff, Fc.goods_iff, Fc.goods_iff]
  exact ⟨fun h => ⟨fun f hf => h f (List.mem_append.mpr (.inl hf)), fun f hf => h f (List.mem_append.mpr (.inr hf))⟩, fun h f hf => (List.mem_append.mp hf).elim (h.1 f) (h.2 f)⟩
theorem Kd.fac_good : ∀ {k : Kd} {W : List Fc}, k.ok → Fc.Ord W → Fc.goods W → Fc.goods (k.fac W)
  | .b n, W, h, o, g => by rw [Kd.fac, Fc.goods, Fc.goods, Fc.good]; exact ⟨⟨h, o, g⟩, trivial⟩
  | .u, W, h, o, g => by rw [Kd.fac, Fc.goods]; trivial
  | .p x y, W, h, o, g => by rw [Kd.fac, Fc.goods_app]; exact ⟨Kd.fac_good h.1 o g, Kd.fac_good h.2 o g⟩
  | .f x y, W, h, o, g => by
    rw [Kd.fac]
    refine Kd.fac_good h.2 (Fc.srt_ord _) ?_
    rw [Fc.goods_srt, Fc.goods_app, Fc.goods_srt]
    exact ⟨g, Kd.fac_good h.1 .nil (by rw [Fc.goods]; trivial)⟩
theorem Kd.form_good {k : Kd} (h : k.ok) : Fc.goods k.form := by
  rw [Kd.form, Fc.goods_srt]
  exact Kd.fac_good h .nil (by rw [Fc.goods]; trivial)
mutual
theorem Fc.her_rowsF : ∀ {f : Fc}, Fc.good f → ∀ r ∈ Fc.rowsF f, Fc.Ord r
  | .mk ws n, g, r, h => by
    rw [Fc.good] at g
    rw [Fc.rowsF] at h
    rcases List.mem_cons.mp h with h | h
    · rw [h]; exact g.2.1
    · exact Fc.her_rowsW g.2.2 r h
theorem Fc.her_rowsW : ∀ {l : List Fc}, Fc.goods l → ∀ r ∈ Fc.rowsW l, Fc.Ord r
  | [], g, r, h => by rw [Fc.rowsW] at h; cases h
  | f :: t, g, r, h => by
    rw [Fc.goods] at g
    rw [Fc.rowsW] at h
    exact (List.mem_append.mp h).elim (Fc.her_rowsF g.1 r) (Fc.her_rowsW g.2 r)
end
theorem Kd.form_her {k : Kd} (h : k.ok) : Fc.her k.form = true := by
  refine List.all_eq_true.mpr fun r hr => ?_
  have o : Fc.Ord r := by
    rcases List.mem_cons.mp hr with e | e
    · rw [e]; exact Fc.srt_ord _
    · exact Fc.her_rowsW (Kd.form_good h) r e
  rw [Fc.srt_of o, (Fc.cmps_eq _ _).mpr rfl]; rfl
mutual
theorem Fc.good_num : ∀ {f : Fc}, Fc.good f → ∀ n ∈ Fc.num f, n < 8
  | .mk ws m, g, n, h => by
    rw [Fc.good] at g
    rw [Fc.num] at h
    rcases List.mem_cons.mp h with e | e
    · rw [e]; exact g.1
    · exact Fc.goods_num g.2.2 n e
theorem Fc.goods_num : ∀ {l : List Fc}, Fc.goods l → ∀ n ∈ Fc.nums l, n < 8
  | [], g, n, h => by rw [Fc.nums] at h; cases h
  | f :: r, g, n, h => by
    rw [Fc.goods] at g
    rw [Fc.nums] at h
    exact (List.mem_append.mp h).elim (Fc.good_num g.1 n) (Fc.goods_num g.2 n)
end
/-! ## how much there is of a form -/
mutual
def Fc.cnt : Fc → Nat
  | .mk ws _ => 1 + Fc.cnts ws
def Fc.cnts : List Fc → Nat
  | [] => 0
  | f :: r => Fc.cnt f + Fc.cnts r
end
theorem Fc.cnts_app (a b : List Fc) : Fc.cnts (a ++ b) = Fc.cnts a + Fc.cnts b := by
  induction a with
  | nil => rw [List.nil_append, Fc.cnts, Nat.zero_add]
  | cons f r ih => rw [List.cons_append, Fc.cnts, Fc.cnts, ih, Nat.add_assoc]
theorem Fc.cnts_perm {l m : List Fc} (p : l.Perm m) : Fc.cnts l = Fc.cnts m := by
  induction p with
  | nil => rfl
  | cons x _ ih => rw [Fc.cnts, Fc.cnts, ih]
  | swap x y l => simp only [Fc.cnts]; omega
  | trans _ _ a b => exact a.trans b
theorem Fc.cnts_add (V : List Fc) : ∀ l : List Fc, Fc.cnts (l.map (Fc.add V)) = Fc.cnts l + l.length * Fc.cnts V
  | [] => by rw [List.map_nil, Fc.cnts]; simp
  | .mk ws n :: r => by
    rw [List.map_cons, Fc.cnts, Fc.cnts_add V r, Fc.cnts, Fc.add, Fc.cnt, Fc.cnt, Fc.cnts_perm (Fc.srt_perm _), Fc.cnts_app, List.length_cons, Nat.succ_mul]
    omega
theorem Kd.cnts_form : ∀ k : Kd, Fc.cnts k.form + 1 ≤ 2 ^ k.leaves
  | .b n => by rw [Kd.form_b]; simp [Fc.cnts, Fc.cnt, Kd.leaves]
  | .u => by rw [Kd.form_u]; simp [Fc.cnts, Kd.leaves]
  | .p x y => by
    have a := Kd.cnts_form x
    have b := Kd.cnts_form y
    rw [Kd.form_p, Fc.cnts_perm (Fc.srt_perm _), Fc.cnts_app, Kd.leaves, Nat.pow_add]
    have c : 2 ^ x.leaves * 2 ^ y.leaves ≥ 2 ^ x.leaves * 1 + 1 * 2 ^ y.leaves - 1 := by
      have p1 : 1 ≤ 2 ^ x.leaves := Nat.one_le_two_pow
      have p2 : 1 ≤ 2 ^ y.leaves := Nat.one_le_two_pow
      obtain ⟨i, hi⟩ : ∃ i, 2 ^ x.leaves = i + 1 := ⟨_, (Nat.sub_add_cancel p1).symm⟩
      obtain ⟨j, hj⟩ : ∃ j, 2 ^ y.leaves = j + 1 := ⟨_, (Nat.sub_add_cancel p2).symm⟩
      rw [hi, hj, Nat.add_mul, Nat.mul_add]
      omega
    omega
  | .f x y => by
    have a := Kd.cnts_form x
    have b := Kd.cnts_form y
    have l := y.form_length
    have lt : y.leaves < 2 ^ y.leaves := Nat.lt_two_pow_self
    rw [Kd.form_f, Fc.cnts_perm (Fc.srt_perm _), Fc.cnts_add, Kd.leaves, Nat.pow_add]
    obtain ⟨i, hi⟩ : ∃ i, 2 ^ x.leaves = i + 1 := ⟨_, (Nat.sub_add_cancel Nat.one_le_two_pow).symm⟩
    obtain ⟨j, hj⟩ : ∃ j, 2 ^ y.leaves = j + 1 := ⟨_, (Nat.sub_add_cancel Nat.one_le_two_pow).symm⟩
    rw [hi] at a
    rw [hj] at b lt
    rw [hi, hj, Nat.add_mul, Nat.mul_add]
    have m : y.form.length * Fc.cnts x.form ≤ j * i := Nat.mul_le_mul (by omega) (by omega)
    have e := Nat.mul_comm i j
    omega
mutual
theorem Fc.sz_cnt : ∀ f : Fc, sz (Fc.dat f) = 3 * Fc.cnt f
  | .mk ws n => by rw [Fc.dat, Fc.cnt]; simp only [sz, szs]; rw [Fc.szs_cnt ws]; omega
theorem Fc.szs_cnt : ∀ l : List Fc, szs (Fc.dats l) = 3 * Fc.cnts l
  | [] => by rw [Fc.dats, Fc.cnts]; rfl
  | f :: r => by rw [Fc.dats, Fc.cnts]; simp only [szs]; rw [Fc.sz_cnt f, Fc.szs_cnt r]; omega
end
theorem Kd.form_szs (k : Kd) (h : k.leaves ≤ 16) : szs (Fc.dats k.form) ≤ 200000 := by
  have a := Kd.cnts_form k
  have b : 2 ^ k.leaves ≤ 2 ^ 16 := Nat.pow_le_pow_right (by decide) h
  rw [Fc.szs_cnt]
  have : (2 : Nat) ^ 16 = 65536 := by decide
  omega
end KB

namespace KB
open PySem PySem.Spec PyProof.Rows L2
/-- what follows is asked by a name of one's own -/
theorem pss_gen {X : Cx} {S : List Stmt} {t I : TS} (h : PSs X S t) (w : ∀ (D : Ends) (σ : L2.St) (H : Hp), I D σ H → t D σ H) : PSs X S I :=
  ⟨fun pins s σ H D J i => h.run pins s σ H D J (w D σ H i)⟩
/-- both ways of a test lead to the same -/
theorem ite2' {p : Prop} [Decidable p] {A B : Prop} (a : A) (b : ¬ p → B) : if p then A else B := by
  split
  · exact a
  · rename_i h; exact b h
end KB

namespace KB
open PySem L2
/-! ## how wide and deep the kind of a form is -/
theorem Kd.chg_rk {c : Nat} : ∀ (k : Kd) (i : Int), (k.chg c i).rk = k.rk
  | .b n, i => by rw [Kd.chg]; split <;> rfl
  | .u, _ => rfl
  | .p x y, i => by rw [Kd.chg, Kd.rk, Kd.rk, Kd.chg_rk x, Kd.chg_rk y]
  | .f x y, i => by rw [Kd.chg, Kd.rk, Kd.rk, Kd.chg_rk x, Kd.chg_rk y]
mutual
def Fc.wid : Fc → Nat
  | .mk ws _ => max ws.length (Fc.wids ws)
def Fc.wids : List Fc → Nat
  | [] => 0
  | f :: r => max (Fc.wid f) (Fc.wids r)
end
theorem Fc.wids_le {B : Nat} : ∀ {l : List Fc}, Fc.wids l ≤ B ↔ ∀ f ∈ l, Fc.wid f ≤ B
  | [] => by rw [Fc.wids]; simp
  | f :: r => by
    rw [Fc.wids, Nat.max_le, Fc.wids_le (l := r)]
    simp
theorem Fc.wids_app {B : Nat} (a b : List Fc) : Fc.wids (a ++ b) ≤ B ↔ Fc.wids a ≤ B ∧ Fc.wids b ≤ B := by
  rw [Fc.wids_le, Fc.wids_le, Fc.wids_le]
  exact ⟨fun h => ⟨fun f hf => h f (List.mem_append.mpr (.inl hf)), fun f hf => h f (List.mem_append.mpr (.inr hf))⟩, fun h f hf => (List.mem_append.mp hf).elim (h.1 f) (h.2 f)⟩
theorem Fc.wids_srt {B : Nat} (l : List Fc) : Fc.wids (Fc.srt l) ≤ B ↔ Fc.wids l ≤ B := by
  rw [Fc.wids_le, Fc.wids_le]
  exact ⟨fun h f hf => h f ((Fc.srt_perm l).mem_iff.mpr hf), fun h f hf => h f ((Fc.srt_perm l).mem_iff.mp hf)⟩
theorem Kd.fac_wid {B : Nat} : ∀ (k : Kd) {W : List Fc}, Fc.wids W ≤ B → W.length + k.leaves ≤ B → Fc.wids (k.fac W) ≤ B
  | .b n, W, h, l => by
    rw [Kd.fac, Fc.wids, Fc.wids, Fc.wid]
    simp only [Kd.leaves] at l
    omega
  | .u, W, h, l => by rw [Kd.fac, Fc.wids]; exact Nat.zero_le _
  | .p x y, W, h, l => by
    simp only [Kd.leaves] at l
    rw [Kd.fac, Fc.wids_app]
    exact ⟨Kd.fac_wid x h (by omega), Kd.fac_wid y h (by omega)⟩
  | .f x y, W, h, l => by
    simp only [Kd.leaves] at l
    have lx := x.fac_length []
    rw [Kd.fac]
    refine Kd.fac_wid y ?_ ?_
    · rw [Fc.wids_srt, Fc.wids_app, Fc.wids_srt]
      exact ⟨h, Kd.fac_wid x (by rw [Fc.wids]; exact Nat.zero_le _) (by simp only [List.length_nil]; omega)⟩
    · rw [Fc.srt_length, List.length_append, Fc.srt_length]; omega
theorem Kd.form_wid (k : Kd) : Fc.wids k.form ≤ k.leaves := by
  rw [Kd.form, Fc.wids_srt]
  exact Kd.fac_wid k (by rw [Fc.wids]; exact Nat.zero_le _) (by simp)
theorem Fc.kdf_deep {B : Nat} : ∀ (r : List Fc) (k : Kd), k.deep ≤ B → (∀ g ∈ r, g.kd.deep ≤ B) → (Fc.kdf k r).deep ≤ B + r.length
  | [], k, h, _ => by rw [Fc.kdf]; exact h
  | f :: r, k, h, hr => by
    have := Fc.kdf_deep r f.kd (hr f List.mem_cons_self) fun g hg => hr g (List.mem_cons_of_mem _ hg)
    rw [Fc.kdf, Kd.deep, List.length_cons]
    omega
theorem Fc.kds_deep (M : Nat) : ∀ (j : Nat) (l : List Fc), l.length ≤ M → Fc.wids l ≤ M → PyData.depthAll (Fc.dats l) ≤ 2 * j → (Fc.kds l).deep ≤ (M + 1) * j + 1
  | 0, l, _, _, hd => by
    cases l with
    | nil => rw [Fc.kds]; simp [Kd.deep]
    | cons f r =>
      obtain ⟨ws, n⟩ := f
      rw [Fc.dats, Fc.dat] at hd
      simp only [PyData.depthAll, PyData.depth] at hd
      omega
  | j + 1, l, hl, hw, hd => by
    cases l with
    | nil => rw [Fc.kds]; simp [Kd.deep]
    | cons f r =>
      have each : ∀ g ∈ f :: r, g.kd.deep ≤ (M + 1) * j + 2 := by
        intro g hg
        have dg := Fc.depth_of hg
        have wg := Fc.wids_le.mp hw g hg
        obtain ⟨ws, n⟩ := g
        rw [Fc.dat] at dg
        simp only [PyData.depthAll, PyData.depth] at dg
        rw [Fc.wid] at wg
        cases ws with
        | nil => rw [Fc.kd, Fc.kdw]; simp only [Kd.deep]; omega
        | cons g0 r0 =>
          have ih := Fc.kds_deep M j (g0 :: r0) (by omega) (by omega) (by omega)
          have e : (Fc.mk (g0 :: r0) n).kd = .f (Fc.kds (g0 :: r0)) (.b n) := by rw [Fc.kd, Fc.kdw, Fc.kds]
          rw [e]
          simp only [Kd.deep]
          omega
      have := Fc.kdf_deep r f.kd (each f List.mem_cons_self) fun g hg => each g (List.mem_cons_of_mem _ hg)
      rw [Fc.kds]
      rw [List.length_cons] at hl
      have e : (M + 1) * (j + 1) = (M + 1) * j + (M + 1) := Nat.mul_succ _ _
      omega
mutual
theorem Fc.kd_leaves : ∀ f : Fc, f.kd.leaves ≤ Fc.cnt f
  | .mk [] n => by rw [Fc.kd, Fc.kdw, Fc.cnt, Fc.cnts]; simp [Kd.leaves]
  | .mk (g :: r) n => by
    have a := Fc.kd_leaves g
    have b := Fc.kdf_leaves g.kd r
    rw [Fc.kd, Fc.kdw, Fc.cnt, Fc.cnts]
    simp only [Kd.leaves]
    omega
theorem Fc.kdf_leaves (k : Kd) : ∀ l : List Fc, (Fc.kdf k l).leaves ≤ k.leaves + Fc.cnts l
  | [] => by rw [Fc.kdf, Fc.cnts]; exact Nat.le_refl _
  | f :: r => by
    have a := Fc.kd_leaves f
    have b := Fc.kdf_leaves f.kd r
    rw [Fc.kdf, Kd.leaves, Fc.cnts]
    omega
end
theorem Fc.kds_leaves : ∀ l : List Fc, (Fc.kds l).leaves ≤ 1 + Fc.cnts l
  | [] => by rw [Fc.kds, Fc.cnts]; exact Nat.le_refl _
  | f :: r => by
    have a := Fc.kd_leaves f
    have b := Fc.kdf_leaves f.kd r
    rw [Fc.kds, Fc.cnts]
    omega
mutual
theorem Fc.kd_ok : ∀ {f : Fc}, Fc.good f → f.kd.ok
  | .mk [] n, h => by rw [Fc.good] at h; rw [Fc.kd, Fc.kdw]; exact h.1
  | .mk (g :: r) n, h => by
    rw [Fc.good, Fc.goods] at h
    rw [Fc.kd, Fc.kdw]
    exact ⟨Fc.kdf_ok (Fc.kd_ok h.2.2.1) h.2.2.2, h.1⟩
theorem Fc.kdf_ok {k : Kd} (hk : k.ok) : ∀ {l : List Fc}, Fc.goods l → (Fc.kdf k l).ok
  | [], _ => by rw [Fc.kdf]; exact hk
  | f :: r, h => by
    rw [Fc.goods] at h
    rw [Fc.kdf]
    exact ⟨hk, Fc.kdf_ok (Fc.kd_ok h.1) h.2⟩
end
theorem Fc.kds_ok : ∀ {l : List Fc}, Fc.goods l → (Fc.kds l).ok
  | [], _ => trivial
  | f :: r, h => by
    rw [Fc.goods] at h
    rw [Fc.kds]
    exact Fc.kdf_ok (Fc.kd_ok h.1) h.2
end KB

namespace KB
open PySem PySem.Spec PyProof.Rows L2
/-! ## kinds so deep; the kind of a form has this form -/
theorem Kd.rk_deep : ∀ k : Kd, k.rk + 1 ≤ k.deep
  | .b _ => by simp [Kd.rk, Kd.deep]
  | .u => by simp [Kd.rk, Kd.deep]
  | .p x y => by have := Kd.rk_deep x; have := Kd.rk_deep y; simp only [Kd.rk, Kd.deep]; omega
  | .f x y => by have := Kd.rk_deep x; have := Kd.rk_deep y; simp only [Kd.rk, Kd.deep]; omega
theorem Kd.leaves_deep : ∀ (n : Nat) (k : Kd), k.deep ≤ n + 1 → k.leaves ≤ 2 ^ n
  | _, .b _, _ => Nat.one_le_two_pow
  | _, .u, _ => Nat.one_le_two_pow
  | 0, .p x y, h => by have := x.leaves_pos; have := x.deep_le; have : 1 ≤ x.deep := by cases x <;> simp [Kd.deep] <;> omega
                       simp only [Kd.deep] at h; omega
  | 0, .f x y, h => by have : 1 ≤ x.deep := by cases x <;> simp [Kd.deep] <;> omega
                       simp only [Kd.deep] at h; omega
  | n + 1, .p x y, h => by
    simp only [Kd.deep] at h
    have a := Kd.leaves_deep n x (by omega)
    have b := Kd.leaves_deep n y (by omega)
    simp only [Kd.leaves]; rw [Nat.pow_succ]; omega
  | n + 1, .f x y, h => by
    simp only [Kd.deep] at h
    have a := Kd.leaves_deep n x (by omega)
    have b := Kd.leaves_deep n y (by omega)
    simp only [Kd.leaves]; rw [Nat.pow_succ]; omega
def cb : Nat → Nat
  | 0 => 1
  | n + 1 => cb n * (1 + 2 ^ n)
theorem cb_pos : ∀ n, 1 ≤ cb n
  | 0 => Nat.le_refl _
  | n + 1 => by
    rw [cb]
    have := cb_pos n
    exact Nat.le_trans this (Nat.le_mul_of_pos_right _ (Nat.lt_of_lt_of_le Nat.zero_lt_one (Nat.le_add_right 1 _)))
theorem Kd.cnts_deep : ∀ (n : Nat) (k : Kd), k.deep ≤ n + 1 → Fc.cnts k.form ≤ cb n
  | n, .b m, _ => by rw [Kd.form_b]; have := cb_pos n; simp [Fc.cnts, Fc.cnt]; omega
  | n, .u, _ => by rw [Kd.form_u]; simp [Fc.cnts]
  | 0, .p x y, h => by have : 1 ≤ x.deep := by cases x <;> simp [Kd.deep] <;> omega
                       simp only [Kd.deep] at h; omega
  | 0, .f x y, h => by have : 1 ≤ x.deep := by cases x <;> simp [Kd.deep] <;> omega
                       simp only [Kd.deep] at h; omega
  | n + 1, .p x y, h => by
    simp only [Kd.deep] at h
    have a := Kd.cnts_deep n x (by omega)
    have b := Kd.cnts_deep n y (by omega)
    rw [Kd.form_p, Fc.cnts_perm (Fc.srt_perm _), Fc.cnts_app, cb, Nat.mul_add]
    have : cb n * 1 ≤ cb n * 2 ^ n := Nat.mul_le_mul (Nat.le_refl _) Nat.one_le_two_pow
    omega
  | n + 1, .f x y, h => by
    simp only [Kd.deep] at h
    have a := Kd.cnts_deep n x (by omega)
    have b := Kd.cnts_deep n y (by omega)
    have l := y.form_length
    have ly := Kd.leaves_deep n y (by omega)
    rw [Kd.form_f, Fc.cnts_perm (Fc.srt_perm _), Fc.cnts_add, cb, Nat.mul_add, Nat.mul_comm (cb n) (2 ^ n)]
    have m : y.form.length * Fc.cnts x.form ≤ 2 ^ n * cb n := Nat.mul_le_mul (by omega) a
    omega
mutual
theorem Fc.kd_form : ∀ {f : Fc}, Fc.good f → f.kd.form = [f]
  | .mk [] n, h => by rw [Fc.kd, Fc.kdw, Kd.form_b]
  | .mk (g :: r) n, h => by
    rw [Fc.good, Fc.goods] at h
    have e : (Fc.kdf g.kd r).form = g :: r := by
      rw [Fc.kdf_form h.2.2.2, Fc.kd_form h.2.2.1, List.singleton_append, Fc.srt_of h.2.1]
    rw [Fc.kd, Fc.kdw, Kd.form_f, Kd.form_b, e, List.map_cons, List.map_nil, Fc.add, List.append_nil, Fc.srt_of h.2.1]
    rfl
theorem Fc.kdf_form {k : Kd} : ∀ {l : List Fc}, Fc.goods l → (Fc.kdf k l).form = Fc.srt (k.form ++ l)
  | [], _ => by rw [Fc.kdf, List.append_nil, Kd.form_srt]
  | f :: r, h => by
    rw [Fc.goods] at h
    rw [Fc.kdf, Kd.form_p, Fc.kdf_form h.2, Fc.kd_form h.1, Fc.srt_right, List.singleton_append]
end
theorem Fc.kds_form {l : List Fc} (g : Fc.goods l) (o : Fc.Ord l) : (Fc.kds l).form = l := by
  cases l with
  | nil => rw [Fc.kds, Kd.form_u]
  | cons f r =>
    rw [Fc.goods] at g
    rw [Fc.kds, Fc.kdf_form g.2, Fc.kd_form g.1, List.singleton_append, Fc.srt_of o]
theorem Kd.kds_form {k : Kd} (h : k.ok) : (Fc.kds k.form).form = k.form := Fc.kds_form (Kd.form_good h) (Fc.srt_ord _)
mutual
theorem Fc.kd_rk : ∀ f : Fc, 2 * f.kd.rk + 2 ≤ (Fc.dat f).depth
  | .mk [] n => by rw [Fc.kd, Fc.kdw, Fc.dat, Fc.dats]; simp only [Kd.rk, PyData.depth, PyData.depthAll]; omega
  | .mk (g :: r) n => by
    have a := Fc.kdf_rk g.kd r
    have b := Fc.kd_rk g
    have e : (Fc.mk (g :: r) n).kd.rk = (Fc.kdf g.kd r).rk + 1 := by rw [Fc.kd, Fc.kdw]; simp only [Kd.rk]; exact Nat.max_eq_left (Nat.zero_le _)
    rw [e, Fc.dat, Fc.dats]
    simp only [PyData.depth, PyData.depthAll]
    omega
theorem Fc.kdf_rk (k : Kd) : ∀ l : List Fc, 2 * (Fc.kdf k l).rk + 2 ≤ max (2 * k.rk + 2) (PyData.depthAll (Fc.dats l))
  | [] => by rw [Fc.kdf]; omega
  | f :: r => by
    have a := Fc.kdf_rk f.kd r
    have b := Fc.kd_rk f
    rw [Fc.kdf, Fc.dats]
    simp only [Kd.rk, PyData.depthAll]
    omega
end
theorem Fc.kds_rk (l : List Fc) : 2 * (Fc.kds l).rk ≤ PyData.depthAll (Fc.dats l) := by
  cases l with
  | nil => rw [Fc.kds]; simp [Kd.rk]
  | cons f r =>
    have a := Fc.kdf_rk f.kd r
    have b := Fc.kd_rk f
    rw [Fc.kds, Fc.dats]
    simp only [PyData.depthAll]
    omega
/-! ## what is read stays, but for tables of code -/
def notab (H : Hp) : Hp := fun b => match H b with | some (.tbl _) => none | o => o
theorem notab_sub (H : Hp) : Same (notab H) H := fun b o e => by
  unfold notab at e
  split at e
  · cases e
  · exact e
theorem notab_at {H : Hp} {b : Addr} {o : HO} (h : H b = some o) (n : ∀ ps, o ≠ .tbl ps) : notab H b = some o := by
  unfold notab
  rw [h]
  split
  · rename_i e
    exact absurd (Option.some.inj e) (n _)
  · rfl
theorem notab_ext {H H' : Hp} (e : LamX.ExtN H H') : Same (notab H) (notab H') := fun b o h => by
  have n : ∀ ps, o ≠ .tbl ps := fun ps z => by
    unfold notab at h
    split at h
    · cases h
    · rename_i hx; exact hx ps (by rw [h, z])
  exact notab_at (e b o (notab_sub H b o h) n) n
theorem notab_seq {K : PySem.W.Frag} {H : Hp} {a : Addr} {xs : List V} (h : SqL K H a xs) : SqL K (notab H) a xs := by
  rcases h with (h | ⟨o, h⟩) | h
  · exact .inl (.inl (notab_at h fun _ z => by cases z))
  · exact .inl (.inr ⟨o, notab_at h fun _ z => by cases z⟩)
  · exact .inr h
theorem notab_tup {K : PySem.W.Frag} {H : Hp} {a : Addr} {xs : List V} (h : SqT K H a xs) : SqT K (notab H) a xs := by
  rcases h with (h | ⟨o, h⟩) | h
  · exact .inl (.inl (notab_at h fun _ z => by cases z))
  · exact .inl (.inr ⟨o, notab_at h fun _ z => by cases z⟩)
  · exact .inr h
mutual
theorem Dq.notab {K : PySem.W.Frag} {H : Hp} : ∀ {d : PyData} {v : V}, Dq K H v d → Dq K (KB.notab H) v d
  | _, _, .non => .non
  | _, _, .bl b => .bl b
  | _, _, .int i => .int i
  | _, _, .str x => .str x
  | _, _, .lst h a => .lst (notab_seq h) (DqAll.notab a)
  | _, _, .tup h a => .tup (notab_tup h) (DqAll.notab a)
  | _, _, .dct h => .dct (notab_at h fun _ z => by cases z)
theorem DqAll.notab {K : PySem.W.Frag} {H : Hp} : ∀ {ds : List PyData} {vs : List V}, DqAll K H vs ds → DqAll K (KB.notab H) vs ds
  | _, _, .nil => .nil
  | _, _, .cons h a => .cons (Dq.notab h) (DqAll.notab a)
end
theorem Dq.extN {K : PySem.W.Frag} {H H' : Hp} {d : PyData} {v : V} (e : LamX.ExtN H H') (h : Dq K H v d) : Dq K H' v d := (h.notab.same (notab_ext e)).same (notab_sub H')
theorem seq_extN {K : PySem.W.Frag} {H H' : Hp} {a : Addr} {xs : List V} (e : LamX.ExtN H H') (h : SqL K H a xs) : SqL K H' a xs := L2.Same.seq (notab_sub H') (L2.Same.seq (notab_ext e) (notab_seq h))
end KB

namespace KB
open PySem PySem.Spec PyProof.Rows L2
/-! ## which of two tuples is greater -/
def RcGt (A : Around) (s : Shared) (y x : Value) (k : Bool) : Prop := ∀ (P : Program) (w : World) (E Q : Value → Shared → Prop), Q (.bool k) s → wpAny (model P w) A (richCompare .Gt y x) Q E s
section
open SeqAt AutoSeq1
theorem gt_at (p q : Addr) (us vs : Array Value) (m m2 : Nat) (d1 d2 : Option Addr) (k1 k2 : Array (Option Value)) (e r : Nat → Bool) :
    Meets (Builtin.«tuple.__gt__» ⟨[.ref p, .ref q], []⟩) fun A R s => s.heap.get? p = some ⟨.type "tuple", d1, .seq us m, k1⟩ ∧ s.heap.get? q = some ⟨.type "tuple", d2, .seq vs m2, k2⟩ ∧
      (∀ j (a : j < us.size) (b : j < vs.size), EqAt A.in1 s us[j] vs[j] (e j)) ∧ (∀ j (a : j < us.size) (b : j < vs.size), e j = false → RcGt A.in1 s us[j] vs[j] (r j)) ∧ R (.ok (.ret (.bool (firstLt e r (decide (us.size > vs.size)) (List.range (min us.size vs.size)))))) s :=
  .of_wp fun P w A R s ⟨gp, gq, heq, hgt, hR⟩ => by
    obtain ⟨hp, g, d, tk, os⟩ := s
    have kinds := AutoSeq1.sub_tuple_tuple
    have both : (us.toList.zip vs.toList).length = min us.size vs.size := by simp
    wp_walk using wpAny_loadPart' gp, wpAny_loadPart' gq, wpAny_forIn_list _ (fun left st s' => st.1 = none ∧ s' = ⟨hp, g, d, tk, os⟩ ∧ ∃ i, left = (us.toList.zip vs.toList).drop i ∧ R (.ok (.ret (.bool (firstLt e r (decide (us.size > vs.size)) ((List.range (min us.size vs.size)).drop i))))) ⟨hp, g, d, tk, os⟩) _
    case turn =>
      rintro ⟨y, x⟩ left st s' ⟨h0, rfl, i, hz, hR⟩
      have lt : i < (us.toList.zip vs.toList).length := by
        by_cases z : i < (us.toList.zip vs.toList).length
        · exact z
        · rw [List.drop_of_length_le (by omega)] at hz; cases hz
      have im : i < min us.size vs.size := both ▸ lt
      have i1 : i < us.size := by omega
      have i2 : i < vs.size := by omega
      rw [List.drop_eq_getElem_cons lt] at hz
      injection hz with hyx rest
      obtain rfl : y = us[i] := by simpa using congrArg Prod.fst hyx
      obtain rfl : x = vs[i] := by simpa using congrArg Prod.snd hyx
      have cut : (List.range (min us.size vs.size)).drop i = i :: (List.range (min us.size vs.size)).drop (i + 1) := by simp [List.drop_eq_getElem_cons, im]
      rw [cut] at hR
      refine wpAny_bind (heq i i1 i2 P w _ _ ?_)
      cases same : e i with
      | true => rw [firstLt_yes same] at hR; wp_walk; exact ⟨rfl, rfl, i + 1, rest, hR⟩
      | false =>
        rw [firstLt_no same] at hR
        have hg : ∀ (E Q : Value → Shared → Prop), Q (.bool (r i)) ⟨hp, g, d, tk, os⟩ → wpAny (model P w) A.in1 (richCompare .Gt us[i] vs[i]) Q E ⟨hp, g, d, tk, os⟩ := fun E Q h => hgt i i1 i2 same P w E Q h
        clear heq hgt
        generalize @PySem.richCompare = rc at hg ⊢
        wp_walk
        refine hg _ _ ?_
        wp_walk
        exact ⟨_, rfl, hR⟩
    case fin =>
      rintro ⟨c1, c2⟩ s' ⟨h0, rfl, i, hz, hR⟩
      simp only at h0
      subst h0
      have past : min us.size vs.size ≤ i := by
        by_cases z : i < (us.toList.zip vs.toList).length
        · rw [List.drop_eq_getElem_cons z] at hz; cases hz
        · omega
      rw [List.drop_of_length_le (by simpa using past)] at hR
      wp_walk
      exact ⟨_, rfl, by simpa [Builtin.Tuple.tupleCompareSizes, firstLt] using hR⟩
    case h => exact ⟨rfl, rfl, 0, rfl, by simpa using hR⟩
theorem gt_tuples {A : Around} {s : Shared} {p q : Addr} {us vs : Array Value} {e r : Nat → Bool} (hp : s.heap.IsTuple p us) (hq : s.heap.IsTuple q vs) (hu : A.units < cLine)
    (heq : ∀ j (a : j < us.size) (b : j < vs.size), EqAt A.in1 s us[j] vs[j] (e j)) (hgt : ∀ j (a : j < us.size) (b : j < vs.size), e j = false → RcGt A.in1 s us[j] vs[j] (r j)) :
    RcGt A s (.ref p) (.ref q) (firstLt e r (decide (us.size > vs.size)) (List.range (min us.size vs.size))) := fun P w E Q h => by
  obtain ⟨⟨c1, d1, da1, k1⟩, g1, t1, m1, z1⟩ := id hp
  obtain ⟨⟨c2, d2, da2, k2⟩, g2, t2, m2, z2⟩ := id hq
  simp only at t1 z1 t2 z2
  subst t1 z1 t2 z2
  exact richCompare_meets_room (op := .Gt) ⟨_, g1, rfl⟩ ⟨_, g2, rfl⟩ F.slot_tuple_gt F.entry_tuple_gt (F.args_tuple_gt_2 _ _) (gt_at p q us vs m1 m2 d1 d2 k1 k2 e r) ⟨g1, g2, heq, hgt, show _ ≠ Value.notImplemented ∧ Q (.bool _) s from ⟨(fun z => nomatch z), h⟩⟩ hu
end
namespace Fc
def gt (a b : Fc) : Bool := cmp a b == .gt
def gF (fs gs : List Fc) (j : Nat) : Bool := match fs[j]?, gs[j]? with | some f, some g => gt f g | _, _ => false
theorem then_gt (a b : Ordering) : (a.then b == .gt) = (if (a == .eq) = true then (b == .gt) else (a == .gt)) := by cases a <;> cases b <;> rfl
theorem firstGt_cmps : ∀ fs gs : List Fc, SeqAt.firstLt (eF fs gs) (gF fs gs) (decide (fs.length > gs.length)) (List.range (min fs.length gs.length)) = (cmps fs gs == .gt)
  | [], [] => by simp [SeqAt.firstLt.eq_1, cmps]
  | [], _ :: _ => by simp [SeqAt.firstLt.eq_1, cmps]
  | _ :: _, [] => by simp [SeqAt.firstLt.eq_1, cmps]
  | f :: r, g :: t => by
    have hm : min (f :: r).length (g :: t).length = min r.length t.length + 1 := by simp only [List.length_cons]; omega
    have hd : decide ((f :: r).length > (g :: t).length) = decide (r.length > t.length) := by simp
    rw [hm, hd, List.range_succ_eq_map, SeqAt.firstLt.eq_2, firstLt_map]
    have h1 : (fun j => eF (f :: r) (g :: t) (Nat.succ j)) = eF r t := funext fun j => rfl
    have h2 : (fun j => gF (f :: r) (g :: t) (Nat.succ j)) = gF r t := funext fun j => rfl
    rw [h1, h2, firstGt_cmps r t, cmps, then_gt]
    rfl
theorem rg_int {A : Around} {s : Shared} (a : Int) (t : Tok) (b : Int) (u : Tok) : RcGt A s (.int a t) (.int b u) (decide (b < a)) := fun prog w E Q h => gt_int h
mutual
theorem rcGt : ∀ (f g : Fc) {A : Around} {s : Shared} {v u : Value} {as bs : List Addr}, Reads s.heap v (dat f) as → Reads s.heap u (dat g) bs → A.units + (dat f).depth < cLine → RcGt A s v u (gt f g)
  | mk ws n, mk vs m, A, s, v, u, as, bs, rv, ru, hu => by
    rw [dat] at rv ru hu
    simp only [PyData.depth, PyData.depthAll] at hu
    obtain ⟨a, items, rfl, t1, ra⟩ := tup_inv rv
    obtain ⟨b, items2, rfl, t2, rb⟩ := tup_inv ru
    obtain ⟨il⟩ := items
    obtain ⟨il2⟩ := items2
    cases ra with
    | cons r1 r2 => cases r2 with
    | cons r3 r4 => cases r4 with
    | nil => cases rb with
    | cons p1 p2 => cases p2 with
    | cons p3 p4 => cases p4 with
    | nil =>
    cases r3
    cases p3
    have eq0 := SeqAt.eqAt_reads _ _ A.in1 s _ _ _ _ r1 p1 (by simpa [PyData.canLay0] using lays ws) (by simpa [PyData.canLay0] using lays vs) (by show A.units + 1 + _ < cLine; simp only [PyData.depth]; omega)
    rw [ev_tup, eqvs] at eq0
    obtain ⟨a1, w1, rfl, tw, rw1⟩ := tup_inv r1
    obtain ⟨b1, w2, rfl, tv, rv1⟩ := tup_inv p1
    obtain ⟨l1, f1⟩ := reads_at rw1
    obtain ⟨l2, f2⟩ := reads_at rv1
    have lt0 : RcGt A.in1 s (.ref a1) (.ref b1) (cmps ws vs == .gt) := by
      have h := gt_tuples (A := A.in1) (s := s) (e := eF ws vs) (r := gF ws vs) tw tv (by show A.units + 1 < cLine; omega) (fun j h1 h2 => ?_) (fun j h1 h2 _ => ?_)
      · have s1 : w1.size = ws.length := by rw [← l1]; simp
        have s2 : w2.size = vs.length := by rw [← l2]; simp
        rw [s1, s2, firstGt_cmps] at h
        exact h
      · obtain ⟨f, as1, e1, q1⟩ := f1 j (by simpa using h1)
        obtain ⟨g, bs1, e2, q2⟩ := f2 j (by simpa using h2)
        have d1 := depth_mem e1
        have := SeqAt.eqAt_reads _ _ A.in1.in1 s _ _ _ _ q1 q2 (lay f) (lay g) (by show A.units + 1 + 1 + _ < cLine; omega)
        rw [eqv f g] at this
        have ef : eF ws vs j = (cmp f g == .eq) := by simp [eF, e1, e2]
        rw [ef]
        simpa using this
      · obtain ⟨f, as1, e1, q1⟩ := f1 j (by simpa using h1)
        obtain ⟨g, bs1, e2, q2⟩ := f2 j (by simpa using h2)
        have := rcGts ws vs (A := A.in1.in1) j e1 q1 q2 (by show A.units + 1 + 1 + _ < cLine; omega)
        have ef : gF ws vs j = gt f g := by simp [gF, e1, e2]
        rw [ef]
        simpa using this
    have h := gt_tuples (A := A) (s := s) (e := fun j => if j = 0 then (cmps ws vs == .eq) else ((n : Int) == (m : Int))) (r := fun j => if j = 0 then (cmps ws vs == .gt) else decide ((m : Int) < (n : Int))) t1 t2 (by omega) (fun j h1 h2 => ?_) (fun j h1 h2 _ => ?_)
    · have e : SeqAt.firstLt (fun j => if j = 0 then (cmps ws vs == .eq) else ((n : Int) == (m : Int))) (fun j => if j = 0 then (cmps ws vs == .gt) else decide ((m : Int) < (n : Int))) (decide (2 > 2)) [0, 1] = gt (mk ws n) (mk vs m) := by
        rw [SeqAt.firstLt.eq_2, SeqAt.firstLt.eq_2, SeqAt.firstLt.eq_1, gt, cmp, then_gt]
        have hnm : decide ((m : Int) < (n : Int)) = (compare n m == .gt) := by
          by_cases h : m < n
          · have h2 : compare n m = .gt := Nat.compare_eq_gt.mpr h
            have h3 : ((m : Int) < (n : Int)) := by omega
            simp [h2, h3]
          · have h2 : compare n m ≠ .gt := fun z => h (Nat.compare_eq_gt.mp z)
            have h3 : ¬ ((m : Int) < (n : Int)) := by omega
            simp [h2, h3]
        simp only [hnm, nat_ev]
        generalize cmps ws vs = c
        generalize compare n m = d
        cases c <;> cases d <;> rfl
      rw [← e]
      exact h
    · match j, h1, h2 with
      | 0, _, _ => exact eq0
      | 1, _, _ => exact SeqAt.EqAt.int_int _ _ _ _
      | j + 2, h1, _ => exact absurd h1 (by simp)
    · match j, h1, h2 with
      | 0, _, _ => exact lt0
      | 1, _, _ => exact rg_int _ _ _ _
      | j + 2, h1, _ => exact absurd h1 (by simp)
theorem rcGts : ∀ (fs gs : List Fc) {A : Around} {s : Shared} (j : Nat) {f g : Fc} {v u : Value} {as bs : List Addr}, fs[j]? = some f → Reads s.heap v (dat f) as → Reads s.heap u (dat g) bs → A.units + PyData.depthAll (dats fs) < cLine → RcGt A s v u (gt f g)
  | [], _, _, _, _, _, _, _, _, _, _, h, _, _, _ => by simp at h
  | f0 :: r, gs, A, s, 0, f, g, v, u, as, bs, h, rv, ru, hu => by
    have e : f0 = f := by simpa using h
    subst e
    rw [dats] at hu
    simp only [PyData.depthAll] at hu
    exact rcGt f0 g rv ru (by omega)
  | f0 :: r, gs, A, s, j + 1, f, g, v, u, as, bs, h, rv, ru, hu => by
    rw [dats] at hu
    simp only [PyData.depthAll] at hu
    exact rcGts r gs j (by simpa using h) rv ru (by omega)
end
theorem gt_lt (a b : Fc) : gt a b = lt b a := by
  unfold gt lt
  rw [cmp_swap a b]
  cases cmp a b <;> rfl
end Fc
/-- a > b of two factors -/
def rGtF (K : PySem.W.Frag) : R2 := fun x y H Q => ∃ f g : Fc, Dq K H x (Fc.dat f) ∧ Dq K H y (Fc.dat g) ∧ (Fc.dat f).depth ≤ 190 ∧ Q (.bl (Fc.lt g f)) H
theorem op_gtF {X : Cx} (hu : X.A.units + 200 < cLine) : OpR X (compareOp .Gt) (rGtF X.K) := by
  intro pins s σ H x y v u Q I rx ry ⟨f, g, df, dg, dep, q⟩
  obtain ⟨as, ra, _⟩ := Dq.reads I df rx
  obtain ⟨bs, rb, _⟩ := Dq.reads I dg ry
  have h := Fc.rcGt f g (A := X.A) (s := s) ra rb (by omega)
  rw [Fc.gt_lt] at h
  exact h _ _ _ _ ⟨.bl _, H, I, rfl, q⟩
end KB

namespace KB
open PySem PySem.Spec L2
/-! ## data read as factors -/
def pQ (o : Option (List Fc)) (r : List PyData) : Option Fc := match o with
  | none => none
  | some ws => match r with
    | [.int n] => if 0 ≤ n ∧ n < 8 then some (.mk ws n.toNat) else none
    | _ => none
mutual
def pF : PyData → Option Fc
  | .tuple xs => pP xs
  | _ => none
def pP : List PyData → Option Fc
  | [] => none
  | w :: r => pQ (pW w) r
def pW : PyData → Option (List Fc)
  | .tuple ws => pL ws
  | _ => none
def pL : List PyData → Option (List Fc)
  | [] => some []
  | d :: r => match pF d, pL r with
    | some f, some l => some (f :: l)
    | _, _ => none
end
/-- a factor but for what stands in what it wants -/
def facSh : PyData → Bool
  | .tuple [w, b] => tyN w == "tuple" && isBn b
  | _ => false
def wOf : PyData → List PyData
  | .tuple (.tuple ws :: _) => ws
  | _ => []
theorem facSh_is {d : PyData} (h : facSh d = true) : ∃ (ws : List PyData) (n : Nat), d = .tuple [.tuple ws, .int (n : Int)] ∧ n < 8 := by
  match d, h with
  | .tuple [w, b], h =>
    simp only [facSh, Bool.and_eq_true, beq_iff_eq] at h
    cases w <;> simp [tyN] at h
    rename_i ws
    cases b <;> simp [isBn] at h
    rename_i n
    exact ⟨ws, n.toNat, by rw [Int.toNat_of_nonneg h.1], by omega⟩
theorem pF_sh (ws : List PyData) (n : Nat) (h : n < 8) : pF (.tuple [.tuple ws, .int (n : Int)]) = (pL ws).map fun l => .mk l n := by
  simp only [pF, pP, pW]
  cases pL ws with
  | none => rfl
  | some l =>
    have e : (0 : Int) ≤ (n : Int) ∧ (n : Int) < 8 := by omega
    simp only [Option.map_some, pQ]
    rw [if_pos e]; simp
theorem pQ_is {o : Option (List Fc)} {r : List PyData} {f : Fc} (h : pQ o r = some f) : ∃ (ws : List Fc) (n : Nat), o = some ws ∧ r = [.int (n : Int)] ∧ n < 8 ∧ f = .mk ws n := by
  cases o with
  | none => cases h
  | some ws =>
    simp only [pQ] at h
    split at h
    · rename_i n
      split at h
      · rename_i c
        cases h
        exact ⟨ws, n.toNat, rfl, by rw [Int.toNat_of_nonneg c.1], by omega, rfl⟩
      · cases h
    · cases h
mutual
theorem pF_dat : ∀ {d : PyData} {f : Fc}, pF d = some f → facSh d = true ∧ d = Fc.dat f ∧ ∀ n ∈ Fc.num f, n < 8
  | .tuple xs, f, h => by
    simp only [pF] at h
    obtain ⟨ws, n, e, hn, rfl, g⟩ := pP_dat h
    rw [e]
    refine ⟨?_, by rw [Fc.dat], fun k hk => ?_⟩
    · simp [facSh, tyN, isBn]; omega
    · rw [Fc.num] at hk
      rcases List.mem_cons.mp hk with z | z
      · rw [z]; exact hn
      · exact g k z
  | .none, f, h => by simp [pF] at h
  | .bool _, f, h => by simp [pF] at h
  | .int _, f, h => by simp [pF] at h
  | .str _, f, h => by simp [pF] at h
  | .list _, f, h => by simp [pF] at h
  | .dict _, f, h => by simp [pF] at h
theorem pP_dat : ∀ {xs : List PyData} {f : Fc}, pP xs = some f → ∃ (ws : List Fc) (n : Nat), xs = [.tuple (Fc.dats ws), .int (n : Int)] ∧ n < 8 ∧ f = .mk ws n ∧ ∀ k ∈ Fc.nums ws, k < 8
  | [], f, h => by simp [pP] at h
  | w :: r, f, h => by
    simp only [pP] at h
    obtain ⟨ws, n, e, rfl, hn, rfl⟩ := pQ_is h
    obtain ⟨ew, g⟩ := pW_dat e
    exact ⟨ws, n, by rw [ew], hn, rfl, g⟩
theorem pW_dat : ∀ {w : PyData} {ws : List Fc}, pW w = some ws → w = .tuple (Fc.dats ws) ∧ ∀ k ∈ Fc.nums ws, k < 8
  | .tuple xs, ws, h => by
    simp only [pW] at h
    obtain ⟨e, g⟩ := pL_dats h
    exact ⟨by rw [e], g⟩
  | .none, f, h => by simp [pW] at h
  | .bool _, f, h => by simp [pW] at h
  | .int _, f, h => by simp [pW] at h
  | .str _, f, h => by simp [pW] at h
  | .list _, f, h => by simp [pW] at h
  | .dict _, f, h => by simp [pW] at h
theorem pL_dats : ∀ {ds : List PyData} {F : List Fc}, pL ds = some F → ds = Fc.dats F ∧ ∀ n ∈ Fc.nums F, n < 8
  | [], F, h => by simp only [pL] at h; cases h; rw [Fc.dats]; exact ⟨rfl, fun n z => by rw [Fc.nums] at z; cases z⟩
  | d :: r, F, h => by
    simp only [pL] at h
    cases hd : pF d with
    | none => rw [hd] at h; cases h
    | some f =>
      cases hr : pL r with
      | none => rw [hd, hr] at h; cases h
      | some l =>
        rw [hd, hr] at h
        cases h
        obtain ⟨_, a, b⟩ := pF_dat hd
        obtain ⟨c, e⟩ := pL_dats hr
        refine ⟨by rw [Fc.dats, ← a, ← c], fun n hn => ?_⟩
        rw [Fc.nums] at hn
        exact (List.mem_append.mp hn).elim (b n) (e n)
end
theorem pF_no {d : PyData} (h : facSh d = false) : pF d = none := by
  cases e : pF d with
  | none => rfl
  | some f => rw [(pF_dat e).1] at h; cases h
mutual
theorem pF_of : ∀ {f : Fc}, (∀ n ∈ Fc.num f, n < 8) → pF (Fc.dat f) = some f
  | .mk ws n, h => by
    rw [Fc.num] at h
    rw [Fc.dat, pF_sh _ n (h n List.mem_cons_self), pL_of (l := ws) fun k hk => h k (List.mem_cons_of_mem _ hk)]
    rfl
theorem pL_of : ∀ {l : List Fc}, (∀ n ∈ Fc.nums l, n < 8) → pL (Fc.dats l) = some l
  | [], _ => by rw [Fc.dats, pL]
  | f :: r, h => by
    rw [Fc.nums] at h
    rw [Fc.dats, pL, pF_of fun n hn => h n (List.mem_append.mpr (.inl hn)), pL_of fun n hn => h n (List.mem_append.mpr (.inr hn))]
end
/-- where all are factors but for what is wanted, and what each wants is read, all is -/
theorem pL_all : ∀ {ds : List PyData}, (∀ d ∈ ds, facSh d = true) → (∀ d ∈ ds, pL (wOf d) ≠ none) → pL ds ≠ none
  | [], _, _ => by rw [pL]; simp
  | d :: r, h, g => by
    obtain ⟨ws, n, rfl, hn⟩ := facSh_is (h d List.mem_cons_self)
    have g1 := g _ List.mem_cons_self
    have g2 := pL_all (ds := r) (fun e he => h e (List.mem_cons_of_mem _ he)) fun e he => g e (List.mem_cons_of_mem _ he)
    rw [pL, pF_sh ws n hn]
    have e : wOf (.tuple [.tuple ws, .int (n : Int)]) = ws := rfl
    rw [e] at g1
    cases a : pL ws with
    | none => exact absurd a g1
    | some l => cases b : pL r with
      | none => exact absurd b g2
      | some m => simp
/-! ## what the law takes for a form -/
def lawF (d : PyData) : Bool := match pF d with | some f => Fc.her f.ws | none => false
def lawL : PyData → Bool
  | .list ds => (match pL ds with | some F => Fc.her F | none => false)
  | _ => false
theorem her_cons (l : List Fc) : Fc.her l = ((Fc.cmps l (Fc.srt l) == .eq) && l.all fun f => Fc.her f.ws) := by
  rw [Fc.her, Fc.rows, List.all_cons, Fc.rowsW_map, List.all_flatten, List.all_map]
  rfl
theorem lawF_all : ∀ ds : List PyData, ds.all lawF = (match pL ds with | some F => F.all fun f => Fc.her f.ws | none => false)
  | [] => by rw [pL]; rfl
  | d :: r => by
    rw [List.all_cons, lawF_all r, pL, lawF]
    cases pF d with
    | none => rfl
    | some f => cases pL r with
      | none => simp
      | some l => rfl
/-- a list is in order where no neighbours are turned -/
theorem ord_near : ∀ {l : List Fc}, (∀ k, 0 < k → k < l.length → ∀ f g, l[k - 1]? = some f → l[k]? = some g → Fc.lt g f = false) → Fc.Ord l
  | [], _ => .nil
  | [f], _ => List.pairwise_singleton _ _
  | f :: g :: r, h => by
    have t := ord_near (l := g :: r) fun k k0 k1 a b ha hb => h (k + 1) (by omega) (by simp only [List.length_cons] at k1 ⊢; omega) a b (by
      have : k + 1 - 1 = (k - 1) + 1 := by omega
      rw [this]; exact ha) hb
    have e : Fc.lt g f = false := h 1 (by decide) (by simp) f g rfl rfl
    refine List.pairwise_cons.mpr ⟨fun x hx => ?_, t⟩
    rcases List.mem_cons.mp hx with rfl | hx
    · exact e
    · have gx : Fc.lt x g = false := (List.pairwise_cons.mp t).1 x hx
      exact Fc.swo.tr f g x e gx
theorem near_ord {l : List Fc} (o : Fc.Ord l) {k : Nat} {f g : Fc} (k0 : 0 < k) (hf : l[k - 1]? = some f) (hg : l[k]? = some g) : Fc.lt g f = false := by
  have h1 := (List.getElem?_eq_some_iff.mp hf)
  have h2 := (List.getElem?_eq_some_iff.mp hg)
  obtain ⟨a, rfl⟩ := h1
  obtain ⟨b, rfl⟩ := h2
  exact List.pairwise_iff_getElem.mp o (k - 1) k a b (by omega)
theorem ord_iff (l : List Fc) : (Fc.cmps l (Fc.srt l) == .eq) = true ↔ Fc.Ord l := by
  constructor
  · intro h
    have : l = Fc.srt l := (Fc.cmps_eq _ _).mp (by simpa using h)
    rw [this]; exact Fc.srt_ord l
  · intro h
    rw [Fc.srt_of h, (Fc.cmps_eq _ _).mpr rfl]; rfl
end KB

/-! B18: refusals held as values: made, isinstance of them, their fields. -/
namespace KB
open PySem PySem.Spec PySem.Calls PyProof.Rows L2
/-- at a: a refusal of the class cls, held as a value; d: where its dict is, if it has one -/
def ExV (cls : Value) (d : Option Addr) (a : Addr) : HO := .ext fun h => ∃ (o : Obj) (fs : Array Value), h.get? a = some o ∧ Zc cls d o ∧ o.data = .fields fs
theorem exV_ok {P : Program} {w : World} {H : Hp} {h : Heap} {a : Addr} {cls : Value} {d : Option Addr} {o : Obj} {fs : Array Value} (e : h.get? a = some o) (z : Zc cls d o) (k : o.data = .fields fs) : ObjOk P w H h a (ExV cls d a) :=
  ⟨⟨o, fs, e, z, k⟩, ⟨o, e⟩, fun _ _ ⟨o', fs', e', r⟩ g => ⟨o', fs', g o' e', r⟩⟩
theorem inv_like {X : Cx} {pins : List (Addr × Obj)} {σ : L2.St} {H : Hp} {s s' : Shared} (I : Inv X pins σ H s) (h1 : s'.heap = s.heap) (h2 : s'.os = s.os) (h3 : AllBare s'.gens) : Inv X pins σ H s' := by
  obtain ⟨ok, os, bare, base, loc, cell, free, freeC, pin, hok, len⟩ := I
  rw [← h1] at base loc cell pin hok
  exact ⟨ok, h2.trans os, h3, base, loc, cell, free, freeC, pin, hok, len⟩
/-- what makes a refusal, as a value -/
def tHeld (t : L2.St → Hp → XK → Prop) : TE := fun σ H Q => t σ H fun cls d H' => ∀ a, H' a = none → Q (.ref a) (upd H' a (ExV cls d a))
theorem pe_held {X : Cx} {e : Expr} {t : L2.St → Hp → XK → Prop} (h : PMk X e t) : PE X e (tHeld t) := by
  refine ⟨fun pins s σ H Q I q => wpAny_mono (h pins s σ H _ I q) (fun u s1 hu => ?_) fun _ _ x => x⟩
  obtain ⟨a, oe, vs, sI, H', cls, d, eu, J, k, hne, ha, hz, hd, _, na, os, ag, _, q1⟩ := hu
  subst eu
  exact ⟨.ref a, upd H' a (ExV cls d a), inv_like (J.laidN (t' := s1.toks) k hne na (exV_ok ha hz hd)) rfl os ag, rfl, q1 a na⟩
/-- at a: a refusal of the class at D, one with a field (then its dict is known) or without -/
def Err (H : Hp) (a D : Addr) : Prop := ∃ d : Option Addr, H a = some (ExV (.ref D) d a) ∧ ∀ b, d = some b → ∃ fs, H b = some (.xd fs)
theorem Err.inst {P : Program} {w : World} {H : Hp} {h : Heap} {a D : Addr} (e : Err H a D) (k : HOk P w H h) : ∃ ox od, PySem.W.InstAt h a ox D od := by
  obtain ⟨d, e, ed⟩ := e
  obtain ⟨⟨oe, vs, ho, hz, hd⟩, _, _⟩ := k a _ e
  obtain ⟨oc, odd, oda, osl⟩ := oe
  obtain ⟨h1, h2⟩ := hz
  dsimp only at h1 h2 hd
  subst h1 h2 hd
  cases odd with
  | none => exact ⟨_, none, ho, rfl, rfl, trivial⟩
  | some b =>
    obtain ⟨fs, eb⟩ := ed b rfl
    obtain ⟨mA, ⟨o, es, ep, hod, _⟩, _⟩ : ∃ mA, h.Ns1 b mA ∧ ∀ f, RelO (fs.lookup f) (mA f) := k b _ eb
    exact ⟨_, some o, ho, rfl, rfl, hod⟩
/-- isinstance(e, c), e a refusal held as a value -/
def rIsX (K : PySem.W.Frag) : List V → Hp → VK → Prop := fun xs H Q => ∃ (a D : Addr) (c : V) (cv : Value) (b : Bool), xs = [.ref a, c] ∧ ExcC K D ∧ Err H a D ∧ (∀ u, RelV c u → u = cv) ∧ PySem.W.kitOne K (.ref D) cv = some b ∧ Q (.bl b) H
theorem call_isX {X : Cx} : CallR X (.builtin "isinstance") (rIsX X.K) := by
  intro pins s σ H xs us Q I r h
  obtain ⟨a, D, c, cv, b, rfl, C, er, hcv, e, q⟩ := h
  cases r with
  | cons rx rr =>
    cases rr with
    | cons rt rr =>
      cases rr
      cases rx
      have ec := hcv _ rt
      subst ec
      obtain ⟨ox, od, J⟩ := er.inst I.hok
      obtain ⟨cd, hc, _⟩ := PySem.W.any_some C.hd
      exact PySem.W.kia_one (PySem.W.kitx_exc (by rw [hc]; rfl) C.hg C.hk C.hs C.ha C.hn C.ht C.hm) I.kIn J e (fun z => nomatch z) fun tk => ⟨.bl b, H, I.kept (t' := tk) fun _ _ z => z, rfl, q⟩
/-- e.n, e a refusal with fields held as a value -/
def tXv (K : PySem.W.Frag) (n : Str) (te : TE) : TE := fun σ H Q => te σ H fun x H1 => ∃ (a C b : Addr) (fs : List (Str × V)) (v : V), x = .ref a ∧ XfC K C ∧ PySem.W.findIn K (.ref C) n = some none ∧
  H1 a = some (ExV (.ref C) (some b) a) ∧ H1 b = some (.xd fs) ∧ fs.lookup n = some v ∧ Q v H1
theorem pe_xv {X : Cx} {e : Expr} {te : TE} {pos : Pos} {n : Str} (he : PE X e te) (hb : attributeBase e n X.env (eval e X.env) = eval e X.env := by rfl) : PE X (.Attribute e n pos) (tXv X.K n te) := by
  refine ⟨fun pins s σ H Q I h => attr_of hb (thn (he.run pins s σ H _ I h) fun u s1 hh => ?_)⟩
  obtain ⟨x, H1, I1, rx, a, C, b, fs, v, ex, T, hno, ea, eb, l, q⟩ := hh
  subst ex
  obtain rfl : u = Value.ref a := rx
  obtain ⟨⟨oe, vs, ho, hz, hd⟩, _, _⟩ := I1.hok a _ ea
  obtain ⟨mA, hns, hr⟩ : ∃ mA, s1.heap.Ns1 b mA ∧ ∀ f, RelO (fs.lookup f) (mA f) := I1.hok b _ eb
  obtain ⟨od, hod, hl⟩ := lookIn_ns hns
  obtain ⟨u, hu, ru⟩ := RelO.some_of (v := v) (o := mA n) (by rw [← l]; exact hr n)
  have J : PySem.W.InstAt s1.heap a oe C (some od) := ⟨ho, hz.1, by unfold PySem.W.notCls; rw [hd] <;> rfl, by rw [hz.2]; exact hod⟩
  have hf := PySem.W.findObj_own T.hdC hno rfl (by rw [hl, hu])
  exact HandSPX.exc_get I1.kIn J T.ga T.gg T.exC hf (handed_of ru) ⟨v, H1, I1.tok _, ru, q⟩
end KB

/-! B19: a refusal made of its field by name. -/
namespace PySem
namespace KX
open PySem.W PySem.Calls PyProof.Rows PySem.HandSPX
section
variable {prog : Program} {w : World} {A : Around} {E : Value → Shared → Prop} {R : Result → Shared → Prop} {Q : Fin → Shared → Prop} {h : Heap} {g : Array GenState} {d : Drawn} {t : Nat} {os : OsState}
variable {nm q : Str} {C N fI : Addr} {bs bm bmB rest : List Value} {kw : List (Str × Value)} {hdct : Bool} {sn : List Str} {sub : List Value} {ab : Bool} {col : Option Bool} {dd : Option Addr} {k0 k1 k2 k3 k5 : Option Value} {B newId initId : String}
abbrev SameTypes (bm bmB : List Value) : Prop := ∀ X : String, bm.contains (.type X) = bmB.contains (.type X)
theorem own_has {T : String} {b : Bool} (s : SameTypes bm bmB) (e : bmB.contains (.type T) = b) : (Value.ref C :: bm).contains (.type T) = b := by
  have z : (Value.ref C == Value.type T) = false := rfl
  rw [List.contains_cons, s, e]
  cases b <;> rfl
theorem checkK_new (F : ExcBaseFacts B newId initId bmB) (s : SameTypes bm bmB) {M : Model} {Q : Unit → Shared → Prop} (hC : h.get? C = some (excClassObj nm q C N bs bm hdct sn sub ab col dd k0 k1 k2 k3 k5 newId))
    (k : Q () ⟨h, g, d, t, os⟩) : wpAny M A (checkBuiltinCall newId { pos := .ref C :: rest, kw := kw }) Q E ⟨h, g, d, t, os⟩ := by
  have sB := own_has (C := C) s F.hasB
  have ns := F.noStar
  simp only [checkBuiltinCall, F.newRow, F.newSplit, F.newKind]
  repeat (first
    | refine wpAny_madeBy_exc hC ?_
    | refine wpAny_staticBase_exc hC ?_
    | (refine wpAny_isSubtype_exc hC ?_; rw [sB])
    | refine wpAny_loadPart_at hC ?_
    | simp only [if_false, Bool.false_eq_true, bne_self_eq_false]
    | wp_step)
  exact k
theorem runK_new (F : ExcBaseFacts B newId initId bmB) (s : SameTypes bm bmB) (hC : h.get? C = some (excClassObj nm q C N bs bm hdct sn sub ab col dd k0 k1 k2 k3 k5 newId)) (sz : rest.length ≤ sizeLine)
    (k : R (.ok (.ret (.ref (h.objs.size + 1)))) ⟨(h.push (W.kdv_tup rest)).push (excO C h.objs.size), g, d, t, os⟩) :
    codeAny (model prog w) A (.builtin newId { pos := .ref C :: rest, kw := kw }) R ⟨h, g, d, t, os⟩ := by
  have ends := F.ends
  have sB := own_has (C := C) s F.hasB
  have sA := own_has (C := C) s F.noAttr
  have sN := own_has (C := C) s F.noName
  refine codeAny_builtinAt F.entry (wpAt_bind ?_)
  show wpAt _ _ _ (stack >>= _) _ _ _
  refine wpAt_bind (wpAt_stack fun _ _ => wpAt_of_wpAny ?_)
  wp_walk
  refine wpAt_of_wpAny ?_
  rw [F.owner]
  repeat (first
    | with_reducible refine wpAny_loadPart_at hC ?_
    | with_reducible refine wpAny_madeHere_exc F.canon hC ?_
    | (with_reducible refine wpAny_isSubtype_exc hC ?_; first | rw [sN] | rw [sA] | rw [sB])
    | wp_step)
  show R _ _
  rw [Heap.size_push]
  exact k
theorem typeK_new (F : ExcBaseFacts B newId initId bmB) (s : SameTypes bm bmB) (hC : h.get? C = some (excClassObj nm q C N bs bm hdct sn sub ab col dd k0 k1 k2 k3 k5 newId)) (sz : rest.length ≤ sizeLine)
    (hi : W.Looks (model prog w) h (typeLookup (.ref C) "__init__") (some (.ref fI))) (hb : ∀ self, W.Looks (model prog w) h (bindSpecial (.ref fI) self) (.ref fI, [self]))
    (k : codeAny (model prog w) A (.call (.ref fI) { pos := .ref (h.objs.size + 1) :: rest, kw := kw })
      (fun r s' => match r with
        | .ok (.ret v) => v = .none ∧ Q (.done (.ret (.ref (h.objs.size + 1)))) s'
        | .ok _ => False
        | .error e => E e s') ⟨(h.push (W.kdv_tup rest)).push (excO C h.objs.size), g, d, t, os⟩) :
    wpAny (model prog w) A (Builtin.«type.__call__» { pos := .ref C :: rest, kw := kw }) Q E ⟨h, g, d, t, os⟩ := by
  repeat (first | with_reducible refine wpAny_madeBy_exc hC ?_ | with_reducible refine wpAny_loadPart_at hC ?_ | wp_step)
  refine codeAny_call_builtin_code (Code.quiet_builtin _ F.quiet) (checkK_new F s hC (runK_new F s hC sz ?_))
  show wpAny _ _ _ _ _ _
  have up : ∀ b o, h.get? b = some o → ((h.push (W.kdv_tup rest)).push (excO C h.objs.size)).get? b = some o :=
    fun b o e => Heap.get?_push_of_some _ (Heap.get?_push_of_some _ e)
  have hC2 := up _ _ hC
  have hE : ((h.push (W.kdv_tup rest)).push (excO C h.objs.size)).get? (h.objs.size + 1) = some (excO C h.objs.size) := by heap_get
  have sC : (Value.ref C :: bm).contains (.ref C) = true := by simp
  unfold isInstance
  repeat (first | with_reducible refine wpAny_loadPart_at hE ?_ | (with_reducible refine wpAny_isSubtype_exc hC2 ?_; rw [sC]) | wp_step)
  show wpAny _ _ (typeLookup (.ref C) _) _ _ _
  refine (hi.keeps up).at (wpAny_holding (wpAny_bind (((hb (.ref (h.objs.size + 1))).keeps up).at ?_)))
  refine wpAny_bind (wpAny_call (codeAny_mono k fun r s' z => ?_))
  rcases r with e | (v | _ | _ | _) <;> first | exact z | exact z.elim | skip
  obtain ⟨rfl, z⟩ := z
  first | exact wpAny_pure (wpAny_pure z) | (wp_walk; exact z)
theorem checkK_type {M : Model} {Q : Unit → Shared → Prop} (hC : h.get? C = some (excClassObj nm q C N bs bm hdct sn sub ab col dd k0 k1 k2 k3 k5 newId)) (k : Q () ⟨h, g, d, t, os⟩) :
    wpAny M A (checkBuiltinCall "type.__call__" { pos := .ref C :: rest, kw := kw }) Q E ⟨h, g, d, t, os⟩ := by
  have ts := tc_sub
  have ty : (⟨h, g, d, t, os⟩ : Shared).TypeIs (.ref C) "type" := ⟨_, hC, rfl⟩
  simp only [checkBuiltinCall, tc_split, tc_kind]
  repeat (any_goals (first
    | assumption
    | with_reducible refine wpAny_map ?_
    | with_reducible refine wpAny_onRaise ?_
    | with_reducible refine wpAny_loadPart_at hC ?_
    | wp_step))
theorem callK_own (F : ExcBaseFacts B newId initId bmB) (s : SameTypes bm bmB) (hC : h.get? C = some (excClassObj nm q C N bs bm hdct sn sub ab col dd k0 k1 k2 k3 k5 newId)) (sz : rest.length ≤ sizeLine)
    (hi : W.Looks (model prog w) h (typeLookup (.ref C) "__init__") (some (.ref fI))) (hb : ∀ self, W.Looks (model prog w) h (bindSpecial (.ref fI) self) (.ref fI, [self]))
    (k : codeAny (model prog w) (A.under (.builtin "type.__call__" { pos := .ref C :: rest, kw := kw })) (.call (.ref fI) { pos := .ref (h.objs.size + 1) :: rest, kw := kw }) (W.InitBack (h.objs.size + 1) R)
      ⟨(h.push (W.kdv_tup rest)).push (excO C h.objs.size), g, d, t, os⟩) :
    codeAny (model prog w) A (.call (.ref C) { pos := rest, kw := kw }) R ⟨h, g, d, t, os⟩ := by
  have tl := tc_lookup
  have tb := tc_bind (.ref C)
  have ty : (⟨h, g, d, t, os⟩ : Shared).TypeIs (.ref C) "type" := ⟨_, hC, rfl⟩
  refine codeAny_of_tree ?_
  show wpAny _ _ (callAny (.ref C) _) _ _ _
  repeat (any_goals (first | assumption | with_reducible refine wpAny_loadPart_at hC ?_ | wp_step))
  refine ⟨rfl, codeAny_call_builtin_at (Code.quiet_builtin _ (by decide +kernel)) entry_typeCall (checkK_type hC (typeK_new F s hC sz hi hb (codeAny_mono k fun r s' z => ?_)))⟩
  rcases r with e | (v | _ | _ | _) <;> exact z
end
end KX
end PySem

/-! B20: the class above is asked for its __init__; a refusal made of its field by name, held. -/
namespace KB
open PySem PySem.Spec PySem.Calls PyProof.Rows L2
/-- what a class says, so that C.__init__ is ValueError's -/
structure InitC (K : PySem.W.Frag) (C : Addr) : Prop where
  ga : PySem.W.specialIn K (.ref C) "__getattribute__" = some (some (.builtin "type.__getattribute__"))
  ty : PySem.W.typeIn K (.ref C) = some (.type "type")
  rd : PySem.W.readsIn K C (.type "type") = true
  ini : PySem.W.findCls K (.ref C) (.type "type") "__init__" = some (.val (.builtin "ValueError.__init__"))
theorem hand_init : PySem.W.handedIn (.builtin "ValueError.__init__") = true := by decide +kernel
section
variable {X : Cx} {B C fI : Addr} {x : Str} {e : Expr} {es : List Expr} {ta : TA} {p1 p2 p pos : Pos}
theorem pe_ownInit {pl : Sem Bool} (T : InitC X.K B) (hg : Gl X x) (hm : X.mg x = some (.ref B)) (ha : PA X (e :: es) ta) (hdb : (x == ("__debug__" : Str)) = false := by decide)
    (hc : eval (.Call (.Attribute (.Name x p1) "__init__" p2) (e :: es) [] pos) X.env = (do
      let o ← eval (.Name x p1) X.env
      standAt p2.atName
      let (f, fs) ← holding [o] (getMethod o "__init__" pl)
      callWith pos f fs (backTo pos (starEach (e :: es) X.env)) (backToKw pos (keywordEach [] X.env))) := by rfl)
    (he : starEach (e :: es) X.env = (false, eval e X.env) :: starEach es X.env := by rfl) (hpl : (backTo pos (starEach es X.env)).any (·.1) = false := by rfl) :
    PE X (.Call (.Attribute (.Name x p1) "__init__" p2) (e :: es) [] pos) (tVeI X.K ta) := by
  refine ⟨fun pins s σ H Q I h => PySem.W.methodCall_KW (ld_glob I hg hm ?_ hdb) hc⟩
  obtain ⟨m, fr⟩ := I.fr
  refine PySem.W.method_of_cls fr I.ok.mod.kin T.ga (PySem.W.cls_val fr I.ok.mod.kin T.ty T.rd T.ini hand_init ?_)
  show wpAny _ _ (callWith pos (Value.builtin "ValueError.__init__") [] (backTo pos (starEach (e :: es) X.env)) []) _ _ _
  refine PyProof.Rows.callWith_method1 (thn (ha.run pos pins _ σ H _ (I.tok _) h) fun us s1 hh => ?_) he hpl
  obtain ⟨vs, H1, I1, rv, a, C, ws, rfl, sz, O, ea, k⟩ := hh
  cases rv with
  | @cons _ u _ ur ru rw =>
    obtain rfl : u = Value.ref a := ru
    refine oinit_ok O I1 ea ?_ fun s2 J => ⟨.non, H1, J, rfl, k⟩
    rw [← Paired.length rw, sizeLine_eq]
    omega
/-- C(k = v, ..), C's own __init__ keeping sp -/
def tMkK (C : Addr) (sp : Sp) (gV : List V → List V → List V) (tk : TA) : L2.St → Hp → XK → Prop := fun σ H Q => tk σ H fun zs H1 => ∀ a, H1 a = none → sp (gV [.ref a] zs) (upd H1 a (exo a C none))
  (fun v H2 => v = .non ∧ ∃ (d : Addr) (fs : List (Str × V)), H2 a = some (exo a C (some d)) ∧ H2 d = some (exd d fs) ∧ H1 d = none ∧ Q (.ref C) (some d) (upd (del H2 a) d (.xd fs))) (fun _ _ _ => False)
theorem pmk_oexK {CX : CXT} {k : Nat} {fd : FuncData} {ps ks : List Str} {g : List Value → List Value → List Value} {gV : List V → List V → List V} {sp : Sp} {kws : List Keyword} {tk : TA} (T : OexC X.K C)
    (iC : PySem.W.findIn X.K (.ref C) "__init__" = some (some (.ref fI))) (tI : PySem.W.typeIn X.K (.ref fI) = some (.type "function")) (F1 : FnOk X.prog X.w X.K X.mg X.base CX k fI fd ps sp) (hr : Room (k + 1) X.A)
    (hb : KBinds X.K fd ps ks g gV) (hx : Passes CX X (fun _ _ _ => False)) (hg : Gl X x) (hm : X.mg x = some (.ref C)) (hkw : PK X kws tk) (hdb : (x == ("__debug__" : Str)) = false := by decide)
    (hall : (backToKw pos (keywordEach kws X.env)).all (·.1.isSome) = true := by rfl) (hks : (backToKw pos (keywordEach kws X.env)).filterMap (·.1) = ks := by rfl)
    (hpl : ((backTo pos (starEach [] X.env)).any (·.1) || (backToKw pos (keywordEach kws X.env)).any (·.1.isNone)) = false := by rfl) : PMk X (.Call (.Name x p) [] kws pos) (tMkK C sp gV tk) := by
  intro pins s σ H Q I h
  obtain ⟨nm, q, N, bs, bm, sn, sub, ab, col, dd, k0, k1, k2, k3, k5, hC, hbm⟩ := T.cls
  refine wpAny_Call_Name_kw (ld_glob I hg hm (PySem.W.callWith_KW0 (h₀ := X.base) I.ok.mod.kin T.kC hall (thn (hkw.run pos pins s σ H _ I h) fun ws s1 hh => ⟨?_, ?_⟩) hpl) hdb)
  · obtain ⟨zs, H1, I1, rz, q1⟩ := hh
    exact I1.kIn
  obtain ⟨zs, H1, I1, rz, q1⟩ := hh
  rw [hks]
  obtain ⟨hp, g0, dr, tk0, os⟩ := s1
  have up : ∀ b o, hp.get? b = some o → ((hp.push (PySem.W.kdv_tup [])).push (PySem.HandSPX.excO C hp.objs.size)).get? b = some o := fun b o e => Heap.get?_push_of_some _ (Heap.get?_push_of_some _ e)
  have at_ : ((hp.push (PySem.W.kdv_tup [])).push (PySem.HandSPX.excO C hp.objs.size)).get? (hp.objs.size + 1) = some (PySem.HandSPX.excO C hp.objs.size) := by heap_get
  have new : H1 (hp.objs.size + 1) = none := I1.hok.fresh (Nat.le_succ _)
  have I2 : Inv X pins σ (upd H1 (hp.objs.size + 1) (exo (hp.objs.size + 1) C none)) ⟨(hp.push (PySem.W.kdv_tup [])).push (PySem.HandSPX.excO C hp.objs.size), g0, dr, tk0, os⟩ := I1.laid up (Nat.le_succ _) (exo_ok at_)
  have q2 := q1 _ new
  have r2 : Vals (gV [V.ref (hp.objs.size + 1)] zs) (g [Value.ref (hp.objs.size + 1)] ws) := hb.rel (.cons rfl .nil) rz
  have len : (g [Value.ref (hp.objs.size + 1)] ws).length = ps.length := by rw [← r2.length]; exact F1.len _ _ _ _ q2
  refine wpAny_call (PySem.KX.callK_own F.excBase_ValueError (fun Y => PySem.HandSPX.refsVE_contains Y bm hbm) (I1.kIn _ _ hC) (Nat.zero_le _) (PySem.W.looks_findIn I1.kIn iC) (fun self => PySem.W.bind_fn I1.kIn self tI) ?_)
  refine codeAny_mono (F1.run _ X.stack _ _ ⟨[.ref (hp.objs.size + 1)], ks.zip ws⟩ _ _ _ (fun _ _ _ => False) (hr.make C [] (ks.zip ws)) (I2.env0.make C [] (ks.zip ws)) (hb.to _ [.ref (hp.objs.size + 1)] ws I2.kIn len) r2 q2) fun r s2 z => ?_
  cases r with
  | error er => exact hx pins σ _ _ er s2 I2 z
  | ok fl =>
    cases fl with
    | next => exact z.elim
    | brk => exact z.elim
    | cont => exact z.elim
    | ret u =>
      obtain ⟨v, H2, os2, bare2, un2, hok2, rv, ev, d, fs, ea, ed, hd1, q3⟩ := z
      subst ev
      obtain ⟨h2, g2, d2, t2, o2⟩ := s2
      exact ⟨rv, mk_end (raises_own T.exC T.tyC) I1 (Nat.le_succ _) up un2 hok2 os2 bare2 ea ed hd1 q3⟩
end
end KB

/-! B21: truths of a list counted. -/
namespace KB
open PySem PySem.Spec PyProof.Rows L2 PySem.SeqAt
def isBl (c : Bool) (v : Value) : Bool := match v with
  | .bool b => b == c
  | _ => false
theorem isBl_at {A : Around} {s : Shared} {c : Bool} : ∀ {bs : List Bool} {us : List Value}, Vals (bs.map V.bl) us → ∀ y ∈ us, EqAt A s y (.bool c) (isBl c y)
  | [], us, r, y, hy => by
    rw [List.map_nil] at r
    cases r
    cases hy
  | b :: bs, us, r, y, hy => by
    rw [List.map_cons] at r
    cases r with
    | @cons _ u _ ur ru rr =>
      rcases List.mem_cons.mp hy with e | e
      · obtain rfl : u = Value.bool b := ru
        rw [e]
        exact EqAt.bool_bool b c
      · exact isBl_at rr y e
theorem isBl_count {c : Bool} : ∀ {bs : List Bool} {us : List Value}, Vals (bs.map V.bl) us → us.countP (isBl c) = bs.count c
  | [], us, r => by
    rw [List.map_nil] at r
    cases r
    rfl
  | b :: bs, us, r => by
    rw [List.map_cons] at r
    cases r with
    | @cons _ u _ ur ru rr =>
      obtain rfl : u = Value.bool b := ru
      rw [List.countP_cons, List.count_cons, isBl_count rr] <;> rfl
def rCntB (K : PySem.W.Frag) : V → List V → Hp → VK → Prop := fun x xs H Q => ∃ (p : Addr) (bs : List Bool) (c : Bool), x = .ref p ∧ xs = [.bl c] ∧ SqL K H p (bs.map V.bl) ∧ Q (.int (bs.count c : Nat)) H
theorem mt_lcountB {X : Cx} : MtR X "list.count" (rCntB X.K) := by
  intro pins s σ H x xs v us Q I rx rxs h
  obtain ⟨p, bs, c, rfl, rfl, hs, q⟩ := h
  cases rx
  obtain ⟨u, rfl, ru⟩ := rxs.one
  obtain rfl : u = Value.bool c := ru
  obtain ⟨its, rv, ⟨⟨cls, dd, data, sl⟩, n, ho, hc, hdn, hd⟩, _⟩ := I.list hs
  simp only at hc hd
  subst hc hd
  have cnt : its.toArray.toList.countP (isBl c) = bs.count c := isBl_count rv
  refine call_meets PySem.F.slot_list_count ⟨_, ho, rfl⟩ PySem.F.entry_list_count (PySem.F.args_list_count_2 _ _) (SeqAt.list_countAt p its.toArray n dd sl (.bool c) (isBl c)) ?_
  refine ⟨ho, fun y hy => isBl_at rv y (by simpa using hy), .int (bs.count c : Nat), H, I.tok _, ⟨s.toks, ?_⟩, q⟩
  rw [cnt]
end KB

/-! B22: kinds by sizes: their numbers, and the objects that hold them. -/
namespace KB
open PySem PySem.Spec PyProof.Rows L2
/-- the j-th statement of a class -/
def defIn (s : Stmt) (j : Nat) : Stmt := match s with
  | .ClassDef _ _ _ b _ _ _ _ _ _ _ => b.getD j (.Pass ⟨0, 0, 0, 0⟩)
  | _ => .Pass ⟨0, 0, 0, 0⟩
/-- the least number that is too great -/
def tooGreat : Nat := 10 ^ 40
/-- n to the power of t, or what is too great -/
def pw (n t : Nat) : Nat := min (n ^ t) tooGreat
theorem pw_one (t : Nat) : pw 1 t = 1 := by
  unfold pw tooGreat
  rw [Nat.one_pow]
  exact Nat.min_eq_left (Nat.one_le_pow _ _ (by decide))
theorem pw_stop {n t j : Nat} (hn : 1 ≤ n) (hj : j ≤ t) (h : t - j = 0 ∨ tooGreat ≤ n ^ j) : min (n ^ j) tooGreat = pw n t := by
  unfold pw
  rcases h with h | h
  · have e : j = t := by omega
    rw [e]
  · have h2 : n ^ j ≤ n ^ t := Nat.pow_le_pow_right hn hj
    rw [Nat.min_eq_right h, Nat.min_eq_right (Nat.le_trans h h2)]
theorem tooGreat_pos : 1 ≤ tooGreat := Nat.one_le_pow _ _ (by decide)
theorem pw_pos {n t : Nat} (hn : 1 ≤ n) : 1 ≤ pw n t := by
  have h1 : 1 ≤ n ^ t := Nat.one_le_pow _ _ hn
  have h2 := tooGreat_pos
  unfold pw
  omega
theorem pw_le {n t : Nat} : pw n t ≤ tooGreat := Nat.min_le_right _ _
namespace Kd
/-- how many worths, or what is too great -/
def num (s : Nat → Nat) : Kd → Nat
  | b i => s i
  | u => 1
  | p x y => min (x.num s * y.num s) tooGreat
  | f x y => pw (y.num s) (x.num s)
/-- the most that a function in it takes -/
def took (s : Nat → Nat) : Kd → Nat
  | b _ => 0
  | u => 0
  | p x y => max (x.took s) (y.took s)
  | f x y => max (max (x.took s) (y.took s)) (x.num s)
theorem num_pos {s : Nat → Nat} (hs : ∀ i, 1 ≤ s i) : ∀ k : Kd, 1 ≤ k.num s
  | b i => hs i
  | u => Nat.le_refl 1
  | p x y => by
    have hx := num_pos hs x
    have hy := num_pos hs y
    have h1 : 1 * 1 ≤ x.num s * y.num s := Nat.mul_le_mul hx hy
    have h2 := tooGreat_pos
    show 1 ≤ min (x.num s * y.num s) tooGreat
    omega
  | f x y => pw_pos (num_pos hs y)
theorem num_le {s : Nat → Nat} (hs : ∀ i, s i ≤ 999) : ∀ k : Kd, k.num s ≤ tooGreat
  | b i => Nat.le_trans (hs i) (by decide)
  | u => tooGreat_pos
  | p _ _ => Nat.min_le_right _ _
  | f _ _ => pw_le
theorem took_le {s : Nat → Nat} (hs : ∀ i, s i ≤ 999) : ∀ k : Kd, k.took s ≤ tooGreat
  | b _ => Nat.zero_le _
  | u => Nat.zero_le _
  | p x y => Nat.max_le.mpr ⟨took_le hs x, took_le hs y⟩
  | f x y => Nat.max_le.mpr ⟨Nat.max_le.mpr ⟨took_le hs x, took_le hs y⟩, num_le hs x⟩
end Kd
/-- the fields of such an object in the order in which they are set -/
def szF (wd : Str) (o t : V) (m k : Nat) : List (Str × V) := [("word", .str wd), ("one", o), ("other", t), ("many", .int m), ("most_taken", .int k)]
theorem szF_word {wd : Str} {o t : V} {m k : Nat} : (szF wd o t m k).lookup ("word" : Str) = some (V.str wd) := by rfl
theorem szF_one {wd : Str} {o t : V} {m k : Nat} : (szF wd o t m k).lookup ("one" : Str) = some o := by rfl
theorem szF_other {wd : Str} {o t : V} {m k : Nat} : (szF wd o t m k).lookup ("other" : Str) = some t := by rfl
theorem szF_many {wd : Str} {o t : V} {m k : Nat} : (szF wd o t m k).lookup ("many" : Str) = some (V.int m) := by rfl
theorem szF_most {wd : Str} {o t : V} {m k : Nat} : (szF wd o t m k).lookup ("most_taken" : Str) = some (V.int k) := by rfl
theorem szF_put {wd : Str} {o t : V} {m k j : Nat} : putF "most_taken" (.int j) (szF wd o t m k) = szF wd o t m j := by rfl
theorem szF_made {wd : Str} {o t : V} {m : Nat} : putF "most_taken" (.int 0) (putF "many" (.int m) (putF "other" t (putF "one" o (putF "word" (.str wd) [])))) = szF wd o t m 0 := by rfl
theorem putF_le {f : Str} {v : V} : ∀ {fs : List (Str × V)}, (putF f v fs).length ≤ fs.length + 1
  | [] => by simp [putF]
  | (g, x) :: r => by
    have h := putF_le (f := f) (v := v) (fs := r)
    unfold putF
    split
    · simp
    · simp only [List.length_cons]; omega
theorem upd_twice {H : Hp} {a : Addr} {o u : HO} : upd (upd H a o) a u = upd H a u := by
  funext b
  by_cases h : b = a
  · rw [h, upd_same, upd_same]
  · rw [upd_ne h, upd_ne h, upd_ne h]
theorem max_int {i j : Nat} : (if (j : Int) > (i : Int) then (j : Int) else (i : Int)) = ((max i j : Nat) : Int) := by
  split <;> omega
/-- at a: an object of the class C with these fields -/
def SzO (H : Hp) (C a : Addr) (wd : Str) (o t : V) (m k : Nat) : Prop := ∃ dx, H a = some (.ins C dx (szF wd o t m k))
/-- v is the kind by sizes -/
def Szd (C : Addr) (s : Nat → Nat) (H : Hp) : Kd → V → Prop
  | .b i, v => ∃ a, v = .ref a ∧ SzO H C a "base" .non .non (s i) 0
  | .u, v => ∃ a, v = .ref a ∧ SzO H C a "unit" .non .non 1 0
  | .p x y, v => ∃ a o t, v = .ref a ∧ SzO H C a "both" o t ((Kd.p x y).num s) ((Kd.p x y).took s) ∧ Szd C s H x o ∧ Szd C s H y t
  | .f x y, v => ∃ a o t, v = .ref a ∧ SzO H C a "from" o t ((Kd.f x y).num s) ((Kd.f x y).took s) ∧ Szd C s H x o ∧ Szd C s H y t
theorem Szd.same {C : Addr} {s : Nat → Nat} {H H' : Hp} (e : Same H H') : ∀ {k : Kd} {v : V}, Szd C s H k v → Szd C s H' k v
  | .b _, _, ⟨a, h, dx, g⟩ => ⟨a, h, dx, e _ _ g⟩
  | .u, _, ⟨a, h, dx, g⟩ => ⟨a, h, dx, e _ _ g⟩
  | .p _ _, _, ⟨a, o, t, h, ⟨dx, g⟩, h1, h2⟩ => ⟨a, o, t, h, ⟨dx, e _ _ g⟩, Szd.same e h1, Szd.same e h2⟩
  | .f _ _, _, ⟨a, o, t, h, ⟨dx, g⟩, h1, h2⟩ => ⟨a, o, t, h, ⟨dx, e _ _ g⟩, Szd.same e h1, Szd.same e h2⟩
/-- what each of them has: its word, its number, the most taken -/
theorem Szd.obj {C : Addr} {s : Nat → Nat} {H : Hp} {k : Kd} {v : V} (h : Szd C s H k v) : ∃ a wd o t, v = .ref a ∧ SzO H C a wd o t (k.num s) (k.took s) := by
  cases k with
  | b i => obtain ⟨a, e, g⟩ := h; exact ⟨a, _, _, _, e, g⟩
  | u => obtain ⟨a, e, g⟩ := h; exact ⟨a, _, _, _, e, g⟩
  | p x y => obtain ⟨a, o, t, e, g, _⟩ := h; exact ⟨a, _, o, t, e, g⟩
  | f x y => obtain ⟨a, o, t, e, g, _⟩ := h; exact ⟨a, _, o, t, e, g⟩
end KB

/-! B23: a whole number that stands in the module. -/
namespace KB
open PySem PySem.Spec PyProof.Rows L2
theorem pe_globN {X : Cx} {x : Str} {n : Int} {pos : Pos} (hg : Gl X x) (hm : ∃ t, X.mg x = some (.int n t)) (hd : (x == ("__debug__" : Str)) = false := by decide) : PE X (.Name x pos) (tC (.int n)) := by
  obtain ⟨t, h⟩ := hm
  exact pe_glob hg h ⟨_, rfl⟩ hd
theorem tooGreat_bits : tooGreat < 2 ^ 140 := by decide +kernel
theorem tooGreat_int : ((tooGreat : Nat) : Int) = 10000000000000000000000000000000000000000 := by decide +kernel
theorem min_nat {i j : Nat} : V.int (if (j : Int) < (i : Int) then (j : Int) else (i : Int)) = V.int ((min i j : Nat) : Int) := by
  congr 1
  split <;> omega
theorem pow_mul_ok {n j : Nat} (h1 : n ≤ tooGreat) (h2 : n ^ j < tooGreat) : CMulW ((n ^ j : Nat) : Int) (n : Int) := by
  have b := tooGreat_bits
  exact wide_mul (a := 140) (b := 140) (by rw [Int.natAbs_natCast]; omega) (by rw [Int.natAbs_natCast]; omega) (by decide) (by decide) (by decide)
end KB

/-! B24: the worths of a kind by sizes, in order. -/
namespace KB
open PySem PySem.Spec PyProof.Rows L2
/-- the rows of n things of l, in order -/
def rowsN (l : List PyData) : Nat → List (List PyData)
  | 0 => [[]]
  | n + 1 => (rowsN l n).flatMap fun r => l.map fun o => r ++ [o]
theorem sum_const {α : Type} (c : Nat) : ∀ l : List α, (l.map fun _ => c).sum = l.length * c
  | [] => by simp
  | _ :: r => by
    rw [List.map_cons, List.sum_cons, sum_const c r, List.length_cons, Nat.succ_mul]
    omega
theorem rowsN_length (l : List PyData) : ∀ n, (rowsN l n).length = l.length ^ n
  | 0 => rfl
  | n + 1 => by
    show ((rowsN l n).flatMap fun r => l.map fun o => r ++ [o]).length = _
    rw [List.length_flatMap]
    simp only [List.length_map]
    rw [sum_const, rowsN_length l n, Nat.pow_succ]
theorem rowsN_each {l : List PyData} : ∀ {n : Nat} {r : List PyData}, r ∈ rowsN l n → r.length = n ∧ ∀ o ∈ r, o ∈ l
  | 0, r, h => by
    have e : r = [] := by simpa [rowsN] using h
    subst e
    exact ⟨rfl, fun o ho => by cases ho⟩
  | n + 1, r, h => by
    obtain ⟨q, hq, h⟩ := List.mem_flatMap.mp h
    obtain ⟨o, ho, rfl⟩ := List.mem_map.mp h
    obtain ⟨h1, h2⟩ := rowsN_each hq
    refine ⟨by simp [h1], fun x hx => ?_⟩
    rcases List.mem_append.mp hx with hx | hx
    · exact h2 x hx
    · have e : x = o := by simpa using hx
      rw [e]
      exact ho
namespace Kd
/-- all worths, in order -/
def wl (s : Nat → Nat) : Kd → List PyData
  | b i => (List.range (s i)).map fun n => .int (n : Nat)
  | u => [.tuple []]
  | p x y => (x.wl s).flatMap fun c => (y.wl s).map fun d => .tuple [c, d]
  | f x y => (rowsN (y.wl s) (x.num s)).map .tuple
theorem wl_length {s : Nat → Nat} (hs : ∀ i, 1 ≤ s i ∧ s i ≤ 999) : ∀ k : Kd, k.num s < tooGreat → (k.wl s).length = k.num s
  | b i, _ => by show ((List.range (s i)).map _).length = s i; simp
  | u, _ => rfl
  | p x y, h => by
    have hx := num_pos (fun i => (hs i).1) x
    have hy := num_pos (fun i => (hs i).1) y
    have h : min (x.num s * y.num s) tooGreat < tooGreat := h
    have hp : x.num s * y.num s < tooGreat := by omega
    have h1 : x.num s * 1 ≤ x.num s * y.num s := Nat.mul_le_mul (Nat.le_refl _) hy
    have h2 : 1 * y.num s ≤ x.num s * y.num s := Nat.mul_le_mul hx (Nat.le_refl _)
    have e1 := wl_length hs x (by omega)
    have e2 := wl_length hs y (by omega)
    show ((x.wl s).flatMap fun c => (y.wl s).map fun d => PyData.tuple [c, d]).length = min (x.num s * y.num s) tooGreat
    rw [List.length_flatMap]
    simp only [List.length_map]
    rw [sum_const, e1, e2]
    omega
  | f x y, h => by
    have hx := num_pos (fun i => (hs i).1) x
    have hy := num_pos (fun i => (hs i).1) y
    have h : min (y.num s ^ x.num s) tooGreat < tooGreat := h
    have hp : y.num s ^ x.num s < tooGreat := by omega
    have h1 : y.num s ^ 1 ≤ y.num s ^ x.num s := Nat.pow_le_pow_right hy hx
    rw [Nat.pow_one] at h1
    have e2 := wl_length hs y (by omega)
    show ((rowsN (y.wl s) (x.num s)).map PyData.tuple).length = min (y.num s ^ x.num s) tooGreat
    rw [List.length_map, rowsN_length, e2]
    omega
end Kd
/-- whether a thing is a worth, told from within -/
def isW (s : Nat → Nat) : Kd → PyData → Bool
  | .b i, .int n => decide (0 ≤ n ∧ n < (s i : Int))
  | .u, .tuple [] => true
  | .p x y, .tuple [c, d] => isW s x c && isW s y d
  | .f x y, .tuple l => decide (l.length = x.num s) && l.all (isW s y)
  | _, _ => false
theorem wl_isW {s : Nat → Nat} : ∀ {k : Kd} {d : PyData}, d ∈ k.wl s → isW s k d = true
  | .b i, d, h => by
    obtain ⟨n, hn, rfl⟩ := List.mem_map.mp h
    have hn := List.mem_range.mp hn
    simp only [isW]
    exact decide_eq_true ⟨by omega, by omega⟩
  | .u, d, h => by
    have e : d = .tuple [] := by simpa [Kd.wl] using h
    subst e
    simp only [isW]
  | .p x y, d, h => by
    obtain ⟨c, hc, h⟩ := List.mem_flatMap.mp h
    obtain ⟨e, he, rfl⟩ := List.mem_map.mp h
    simp only [isW]
    rw [wl_isW hc, wl_isW he]
    rfl
  | .f x y, d, h => by
    obtain ⟨r, hr, rfl⟩ := List.mem_map.mp h
    obtain ⟨h1, h2⟩ := rowsN_each hr
    simp only [isW]
    rw [decide_eq_true h1, Bool.true_and]
    exact List.all_eq_true.mpr fun o ho => wl_isW (h2 o ho)
end KB

/-! B25: all(test for x in list); what is known at the end of the tables of several defs. -/
namespace KB
open PySem PySem.Spec PyProof.Rows L2
/-- the element: a test of the value v, told by its reading alone -/
def EltV (prog : Program) (w : World) (mg : Str → Option Value) (scope : Scope) (x : Str) (elt : Expr) (pb : V → Bool) : Prop :=
  ∀ (cenv : Env) (A' : Around) (E' : Value → Shared → Prop) (v : V) (u : Value) (T : String) (s₂ : Shared) (m₂ : Str → Option Value), cenv.scope = scope → s₂.heap.Ns cenv.globals mg → (∃ mb, s₂.heap.Ns cenv.builtins mb ∧ ∀ x : Str, x ≠ "__name__" → mb x = bootBuiltins x) →
    RelV v u → s₂.TypeIs u T → (Value.type T == Value.type "builtin_function_or_method") = false → ((∃ n, v = .int n ∧ T = "int") ∨ ((∀ n, v ≠ .int n) ∧ T ≠ "int")) → s₂.heap.Ns cenv.locals m₂ → m₂ x = some u →
    wpAny (model prog w) A' (eval elt cenv) (fun y s₃ => y = .bool (pb v) ∧ Keeps s₂ s₃) E' s₂
theorem ty_int {K : PySem.W.Frag} {H : Hp} {v : V} {T : String} (t : TyB K H v T) : (∃ n, v = .int n ∧ T = "int") ∨ ((∀ n, v ≠ .int n) ∧ T ≠ "int") := by
  cases t <;> first | exact .inl ⟨_, rfl, rfl⟩ | exact .inr ⟨fun n z => (by cases z), (by decide)⟩
theorem type_keeps {s s' : Shared} {P : Addr} {u : Value} {T : String} {ps : Array Value} (hP : s.heap.get? P = some { cls := .none, data := .fields ps }) (k : ∀ b o, b ≠ P → s.heap.get? b = some o → s'.heap.get? b = some o) (h : s.TypeIs u T) : s'.TypeIs u T := by
  cases u with
  | ref a =>
    obtain ⟨o, e, c⟩ := (show ∃ o, s.heap.get? a = some o ∧ o.cls = .type T from h)
    refine (show ∃ o, s'.heap.get? a = some o ∧ o.cls = .type T from ⟨o, k a o (fun z => ?_) e, c⟩)
    rw [z, hP] at e
    cases e
    cases c
  | _ => exact h
/-- the test at place j -/
def trV (pb : V → Bool) (l : List V) (j : Nat) : Bool := match l[j]? with
  | some b => pb b
  | none => false
theorem trV_some {pb : V → Bool} {l : List V} {j : Nat} {b : V} (h : l[j]? = some b) : trV pb l j = pb b := by
  unfold trV
  rw [h]
theorem all_trV (l : List V) (pb : V → Bool) : (List.range l.length).all (trV pb l) = l.all pb := by
  rw [Bool.eq_iff_iff, List.all_eq_true, List.all_eq_true]
  constructor
  · intro h b hb
    obtain ⟨j, hj, e⟩ := List.getElem_of_mem hb
    have q := h j (List.mem_range.mpr hj)
    rw [trV_some (List.getElem?_eq_getElem hj), e] at q
    exact q
  · intro h j hj
    have hj' := List.mem_range.mp hj
    rw [trV_some (List.getElem?_eq_getElem hj')]
    exact h _ (List.getElem_mem hj')
section
variable {X : Cx} {pins : List (Addr × Obj)} {σ : L2.St} {H : Hp} {s : Shared}
/-- the generator g over the values ws, ready to be walked, in the state s5; H1: what was held before -/
def ReadyV (X : Cx) (pins : List (Addr × Obj)) (σ : L2.St) (H1 : Hp) (P : Addr) (ws : List V) (pb : V → Bool) (g : Addr) (s5 : Shared) : Prop :=
  ∃ (fp wr : List Addr) (G : Array GenState → Array GenState → Prop) (F : Nat → Value → Prop) (St : Nat → Shared → Prop),
    WalksS X.prog X.w X.A.in1 g fp wr G ws.length F St ∧ St 0 s5 ∧ TruthOf X.prog X.w X.A.in1 F (trV pb ws) ∧
    ∀ s', Moved wr G s5 s' → ∃ H2, GxR.Tabbed P H1 H2 ∧ Inv X pins σ H2 s'
theorem gen_lstV {c P : Addr} {elt iter : Expr} {x : Str} {px gpos : Pos} {scope : Scope} {pb : V → Bool} {te : TE} {k : Nat} {Q' : Value → Shared → Prop} {R : List V → Hp → Prop}
    (hr : Room k X.A) (TB : GxR.TabB X.base X.mg c P) (hcode : X.env.code = .ref c) (S : GxR.GenS X.env scope x) (hi : PE X iter te) (hel : EltV X.prog X.w X.mg scope x elt pb)
    (hs : ∀ v, genFold iter X.env v = pure v) (I : Inv X pins σ H s) (h : te σ H fun v H1 => ∃ (yl : Addr) (ws : List V), v = .ref yl ∧ SqL X.K H1 yl ws ∧ (∀ a ∈ ws, ∃ T, TyB X.K H1 a T) ∧ GxR.TabG H1 P ∧ R ws H1)
    (hQ : ∀ ws H1 g s5, R ws H1 → ReadyV X pins σ H1 P ws pb g s5 → Q' (.ref g) s5) :
    wpAny (model X.prog X.w) X.A (eval (.GeneratorExp elt [⟨.Name x px, iter, [], 0⟩] scope gpos) X.env) Q' X.xe s := by
  refine wpAny_GeneratorExp_walksQ hr.hd S.co (closure_ok S.free) S.cell S.dot S.loc S.kind (by have := hr.dp; omega) ?_ hs
  refine thn (hi.run pins s σ H _ I h) fun xv s1 ⟨v, H1, I1, r1, q1⟩ => ?_
  obtain ⟨yl, ws, rfl, hyl, hPz, ⟨ps, hP, ht⟩, q1⟩ := q1
  obtain rfl : xv = Value.ref yl := r1
  obtain ⟨its, rv, hl, hz⟩ := I1.list hyl
  have hIL := hl.isList
  have hlen : its.length = ws.length := by rw [← rv.length]
  have hPs : s1.heap.get? P = some { cls := .none, data := .fields ps } := I1.hok P _ hP
  have hat : ∀ (i : Nat) (v : Value), its.toArray[i]? = some v → ∃ (a : V) (T : String), ws[i]? = some a ∧ RelV a v ∧ s1.TypeIs v T ∧ (Value.type T == Value.type "builtin_function_or_method") = false ∧ ((∃ n, a = .int n ∧ T = "int") ∨ ((∀ n, a ≠ .int n) ∧ T ≠ "int")) := fun i v hv => by
    have hv2 : its[i]? = some v := by simpa using hv
    have hi2 : i < its.length := (List.getElem?_eq_some_iff.mp hv2).1
    obtain ⟨a, ha⟩ : ∃ a, ws[i]? = some a := ⟨ws[i]'(by omega), List.getElem?_eq_getElem _⟩
    obtain ⟨u, hu, ru⟩ := rv.get ha
    rw [hv2] at hu
    cases hu
    obtain ⟨T, tT⟩ := hPz a (List.mem_of_getElem? ha)
    exact ⟨a, T, ha, ru, tT.is I1 ru, tT.nb, ty_int tT⟩
  refine wpAny_pyIter_list hIL ?_
  generalize ho : ({ cls := .type "list_iterator", data := .fields #[.ref yl, .int 0 0] } : Obj) = o
  have hitr : (s1.heap.push o).IsListIter s1.heap.objs.size yl 0 := by
    subst ho
    exact ⟨_, Heap.get?_push_size _ rfl, rfl, rfl⟩
  have hylt : yl < s1.heap.objs.size := by
    obtain ⟨_, e, _⟩ := _root_.id hIL
    exact Heap.lt_size e
  have hPlt : P < s1.heap.objs.size := Heap.lt_size hPs
  have hP2 : (s1.heap.push o).get? P = some { cls := .none, data := .fields ps } := Heap.get?_push_of_some _ hPs
  have cd : PySem.W.CodeHd (s1.heap.push o) c P := TB.code.keeps fun b u e => Heap.get?_push_of_some _ (I1.bk b u e)
  have lim2 : (s1.heap.push o).NoLimit := I1.nolimit.push o
  obtain ⟨mb, hmb, hbb⟩ := I1.mod.blt
  have hmb1 : s1.heap.Ns builtinsNs mb := hmb.keeps I1.bk
  have bP : builtinsNs ≠ P := fun z => by
    obtain ⟨o', es, ep, e, hd, _⟩ := hmb1
    rw [z, hPs] at e
    cases e
    cases hd
  have hmg1 : s1.heap.Ns mainGlobals X.mg := I1.mod.glob.keeps I1.bk
  have cont : ∀ (code : Value) (h3 : Heap) (tk : Nat) (ps' : Array Value), Heap.ExtBut P (s1.heap.push o) h3 → (s1.heap.push o).objs.size ≤ h3.objs.size → h3.get? P = some { cls := .none, data := .fields ps' } → (∃ more, ps' = ps ++ more) → TriplesOk ps'.toList →
      wpAny (model X.prog X.w) X.A (builtinsFor X.env.globals X.env.builtins) (fun bi s₄ =>
        ∃ Ia fp wr n₀ Pf St₀ pz F, Value.ref s1.heap.objs.size = .ref Ia ∧ (∀ A' : Around, A'.handled = none → Walks X.prog X.w A' Ia fp wr n₀ Pf St₀) ∧ St₀ 0 s₄.heap ∧ (∀ b ∈ fp, b < s₄.heap.objs.size) ∧ s₄.heap.NoLimit ∧ cStatics ∉ wr ∧
          (∀ href : Heap, (∀ b o, s₄.heap.get? b = some o → href.get? b = some o) →
            QuietGen X.prog X.w (genEnv scope (cloFrom X.env.cells scope.names []) s₄.heap.objs.size code bi X.env) x [] elt (List.range s₄.heap.objs.size) wr Pf pz F href) ∧
          (∀ a h₅ tk gs, gs.bare = true → s₄.heap.objs.size < a → h₅.objs.size = a + 1 → (∀ b o, s₄.heap.get? b = some o → h₅.get? b = some o) →
            WalksS X.prog X.w X.A.in4 a (a :: s₄.heap.objs.size :: List.range s₄.heap.objs.size) (s₄.heap.objs.size :: wr) (GenOnlyQ s₄.gens.size) (passing pz n₀ 0).length
              (fun j y => ∃ i, (passing pz n₀ 0)[j]? = some i ∧ F i y) (GenAt X.prog X.w X.A.in4 a s₄.gens.size s₄.heap.objs.size (List.range s₄.heap.objs.size) wr pz n₀ F) →
            GenAt X.prog X.w X.A.in4 a s₄.gens.size s₄.heap.objs.size (List.range s₄.heap.objs.size) wr pz n₀ F 0 { s₄ with gens := s₄.gens.push gs, toks := tk, heap := h₅ } →
            Q' (.ref a) { s₄ with gens := s₄.gens.push gs, toks := tk, heap := h₅ })) X.xe { s1 with heap := h3, toks := tk } := by
    intro code h3 tk ps' hx hsz hP3 hmore ht3
    obtain ⟨bm, ob, e1, e2, e3, e4, e5, e6, e7, e8⟩ := TB.bm
    have hcP : cStatics ≠ P := fun e => by
      obtain ⟨_, hns, _⟩ := I1.nolimit
      obtain ⟨o', es, ep, ho, hd, _⟩ := hns
      rw [e, hPs] at ho
      cases ho
      cases hd
    have hcl : cStatics < s1.heap.objs.size := let ⟨_, hns, _⟩ := I1.nolimit; hns.lt
    have sz2 : (s1.heap.push o).objs.size = s1.heap.objs.size + 1 := Heap.size_push ..
    have keep3 : ∀ b u, b ≠ P → s1.heap.get? b = some u → h3.get? b = some u := fun b u hb e => hx b u hb (Heap.get?_push_of_some _ e)
    refine wpAny_builtinsFor (m := X.mg) (by rw [I1.ok.glob]; exact ((I1.mod.glob.keeps I1.bk).push o).extBut hx TB.gP) e1 e2 (keep3 _ _ e4 (I1.bk _ _ e5)) e6 e7 e8 ?_
    have hylP : yl ≠ P := fun z => by
      obtain ⟨_, e, hc1, _, hd1⟩ := _root_.id hIL
      rw [z, hPs] at e
      cases e
      cases hd1
    have hIL3 : h3.IsList yl its.toArray := by
      obtain ⟨ob, e, r⟩ := _root_.id hIL
      exact ⟨ob, keep3 _ _ hylP e, r⟩
    have hItr3 : h3.IsListIter s1.heap.objs.size yl 0 := hitr.at fun u e => hx _ u (Nat.ne_of_gt hPlt) e
    refine ⟨s1.heap.objs.size, [s1.heap.objs.size, yl], [s1.heap.objs.size], its.toArray.size, (fun i v => its.toArray[i]? = some v), (fun i h => h.IsListIter s1.heap.objs.size yl i ∧ h.IsList yl its.toArray), (fun _ => true),
      (fun i y => ∃ a : V, ws[i]? = some a ∧ y = .bool (pb a)), rfl, (fun A' hA => Walks.list hA _ _ (Nat.ne_of_lt hylt) _), ⟨hItr3, hIL3⟩, ?_, lim2.extBut hx hcP, ?_, ?_, ?_⟩
    · intro b hb
      rcases List.mem_cons.mp hb with z | z
      · rw [z]
        show s1.heap.objs.size < h3.objs.size
        omega
      · rcases List.mem_cons.mp z with z | z
        · rw [z]
          have e9 : s1.heap.objs.size ≤ h3.objs.size := by omega
          exact Nat.lt_of_lt_of_le hylt e9
        · cases z
    · intro z
      rcases List.mem_cons.mp z with z | z
      · exact Nat.ne_of_lt hcl z
      · cases z
    · intro href hhref
      refine ⟨fun A' E' i v s₂ m₂ hA hPv hn hm hk => ?_, fun A' E' i v s₂ m₂ hA hPv hp hn hm hk => ?_⟩
      · simp only [List.forIn_nil]
        exact wpAny_pure ⟨rfl, GxR.keeps_refl _⟩
      · obtain ⟨a, T, ha, ru, tT, nb, ti⟩ := hat i v hPv
        have k2 : ∀ b u, b ≠ P → s1.heap.get? b = some u → s₂.heap.get? b = some u := fun b u hb e => by
          have e3 := keep3 b u hb e
          have l1 : b < s1.heap.objs.size := Heap.lt_size e
          refine hk b (List.mem_range.mpr (Heap.lt_size e3)) (fun z => ?_) u (hhref b u e3)
          rcases List.mem_cons.mp z with z | z
          · rw [z] at l1
            exact Nat.lt_irrefl _ l1
          · cases z
        refine wpAny_mono (hel _ A' E' a v T s₂ m₂ rfl ?_ ⟨mb, ?_, hbb⟩ ru (type_keeps hPs k2 tT) nb ti hn hm) (fun y s3 r => ⟨⟨a, ha, r.1⟩, r.2⟩) fun _ _ e => e
        · show s₂.heap.Ns X.env.globals X.mg
          rw [I1.ok.glob]
          exact hmg1.extBut k2 TB.gP
        · exact hmb1.extBut k2 bP
    · intro g h5 tk5 gs hgb hag hsz5 hk5 W5 hgat
      simp only [GxR.passing_true, List.length_range] at W5
      have hn5 : its.toArray.size = ws.length := by rw [List.size_toArray, hlen]
      rw [hn5] at W5 hgat
      refine hQ ws H1 g _ q1 ⟨_, _, _, _, _, W5.in4_1, hgat, ?_, fun s' hm => ?_⟩
      · intro j y sj Qj Ej hy hQj
        obtain ⟨i, hij, a, ha, rfl⟩ := hy
        obtain ⟨hj, ej⟩ := List.getElem?_eq_some_iff.mp hij
        rw [List.getElem_range] at ej
        subst ej
        have hQ2 : Qj (trV pb ws j) sj := hQj
        rw [trV_some ha] at hQ2
        exact wpAny_truthy_bool hQ2
      · obtain ⟨more, em⟩ := hmore
        have nwr : ∀ b u, s1.heap.get? b = some u → b ∉ h3.objs.size :: [s1.heap.objs.size] := fun b u e hb => by
          have hl := Heap.lt_size e
          rcases List.mem_cons.mp hb with z | z
          · rw [z] at hl
            have h9 : (h3.objs.size : Nat) < s1.heap.objs.size := hl
            omega
          · rcases List.mem_cons.mp z with z | z
            · rw [z] at hl
              exact Nat.lt_irrefl _ hl
            · cases z
        have J := GxR.inv_tab (more := more) (h' := s'.heap) (g' := s'.gens) (d' := s'.drawn) (t' := s'.toks) I1 hP (fun b u hb e => hm.heap b u (nwr b u e) (hk5 b u (keep3 b u hb e)))
          (by rw [← em]; exact hm.heap P _ (nwr P _ hPs) (hk5 P _ hP3)) (AllBare.movedS (I1.bare.push hgb) hm)
        rw [GxR.sh_eta s1 s' hm.os] at J
        refine ⟨upd H1 P (.tbl (ps ++ more)), ⟨⟨ps ++ more, upd_same, by rw [← em]; exact ht3⟩, fun b hb => upd_ne hb⟩, J⟩
  refine ⟨lim2, ?_⟩
  cases hf : codeAmong gpos ps.toList with
  | none =>
    refine wpAny_genexprCodeX hcode (cd.code hP2 ht) (cd.tab hP2) hf fun c' h' tk hx hge hlt hco' _ htab' _ => ?_
    obtain ⟨o1, vs, f1, tf, fl, tg, inF, tx, tt, op, _, _, _, _, _, _, _, _, _, htr, _⟩ := hco'
    exact cont _ h' tk _ hx (Nat.le_trans hge (Nat.le_of_lt hlt)) htab'.2 ⟨_, rfl⟩ htr
  | some cv =>
    refine wpAny_genexprCode_hit hcode (cd.code hP2 ht) hf ?_
    exact cont cv (s1.heap.push o) s1.toks ps (Heap.ExtBut.refl _ _) (Nat.le_refl _) hP2 ⟨#[], by simp⟩ ht
/-- all(test for x in e), e a list -/
def tAllL (K : PySem.W.Frag) (P : Addr) (pb : V → Bool) (te : TE) : TE := fun σ H Q => te σ H fun v H1 => ∃ (yl : Addr) (ws : List V), v = .ref yl ∧ SqL K H1 yl ws ∧ (∀ a ∈ ws, ∃ T, TyB K H1 a T) ∧ GxR.TabG H1 P ∧ ∀ H2, GxR.Tabbed P H1 H2 → Q (.bl (ws.all pb)) H2
theorem pe_allL {c P : Addr} {elt iter : Expr} {x : Str} {px p pos gpos : Pos} {scope : Scope} {pb : V → Bool} {te : TE} {k : Nat}
    (hr : Room k X.A) (hg : Gl X "all") (hm : X.mg "all" = none) (hb : bootBuiltins "all" = some (.builtin "all")) (TB : GxR.TabB X.base X.mg c P) (hcode : X.env.code = .ref c) (S : GxR.GenS X.env scope x) (hi : PE X iter te) (hel : EltV X.prog X.w X.mg scope x elt pb)
    (hs : ∀ v, genFold iter X.env v = pure v)
    (he : starEach [.GeneratorExp elt [⟨.Name x px, iter, [], 0⟩] scope gpos] X.env = (false, eval (.GeneratorExp elt [⟨.Name x px, iter, [], 0⟩] scope gpos) X.env) :: starEach [] X.env := by rfl) :
    PE X (.Call (.Name "all" p) [.GeneratorExp elt [⟨.Name x px, iter, [], 0⟩] scope gpos] [] pos) (tAllL X.K P pb te) := by
  refine ⟨fun pins s σ H Q I h => ?_⟩
  refine wpAny_Call_Name_kw (ld_blt I hg hm hb ?_)
  refine PyProof.Rows.callWith_builtin1 ?_ he (by rfl)
  rw [he]
  show wpAny _ _ (spliced ((false, eval (.GeneratorExp elt [⟨.Name x px, iter, [], 0⟩] scope gpos) X.env) :: backTo pos (starEach [] X.env))) _ _ s
  refine Calls.spliced_cons (gen_lstV (R := fun ws H1 => ∀ H2, GxR.Tabbed P H1 H2 → Q (.bl (ws.all pb)) H2) hr TB hcode S hi hel hs I h fun ws H1 g s5 hR hG => ?_)
  obtain ⟨fp, wr, G, F, St, W, hst, htr, hI⟩ := hG
  refine Calls.spliced_nil ?_
  refine call_all_walkS (W.self 0 _ _ _ hst ⟨g, fp, wr, G, _, F, St, _, rfl, W, hst, htr, fun s' hmv => ?_⟩)
  obtain ⟨H2, hT, J⟩ := hI s' hmv
  refine ⟨.bl _, H2, J, rfl, ?_⟩
  rw [all_trV ws pb]
  exact hR H2 hT
end
/-- type(x) is int and lo <= x <= hi -/
def sizeV (hi : Int) : V → Bool
  | .int n => decide (1 ≤ n) && decide (n ≤ hi)
  | _ => false
theorem elt_size {prog : Program} {w : World} {mg : Str → Option Value} {scope : Scope} {x y : Str} {hi : Int} {th : Tok} {j : Nat} {p1 p2 p3 p4 p5 p6 p7 p8 p9 p10 : Pos} (hk : scope.kind = .function) (hl : scope.names.lookup x = some .local) (gt : scope.names.lookup ("type" : Str) = some .globalImplicit) (gi : scope.names.lookup ("int" : Str) = some .globalImplicit) (gy : scope.names.lookup y = some .globalImplicit)
    (mt : mg "type" = none) (mi : mg "int" = none) (my : mg y = some (.int hi th)) (hd : (x == ("__debug__" : Str)) = false := by decide) (hy : (y == ("__debug__" : Str)) = false := by decide) :
    EltV prog w mg scope x (.BoolOp .And [.Compare (.Call (.Name "type" p1) [.Name x p2] [] p3) [.Is] [.Name "int" p4] p5, .Compare (.Constant (.int 1) j p6) [.LtE, .LtE] [.Name x p7, .Name y p8] p9] p10) (sizeV hi) := by
  intro cenv A' E' v u T s₂ m₂ hs hg hb ru tT nb ti hn hm
  obtain ⟨mb, hmb, hbb⟩ := hb
  have hk' : cenv.scope.kind = .function := by rw [hs]; exact hk
  have kof : ∀ {z : Str}, scope.names.lookup z = some .globalImplicit → cenv.kindOf z = some .globalImplicit := fun {z} h => by
    show cenv.scope.names.lookup z = some .globalImplicit
    rw [hs]; exact h
  have look : ∀ {Q : Value → Shared → Prop} {s : Shared} {pp : Pos}, s.heap.Ns cenv.locals m₂ → Q u s → wpAny (model prog w) A' (eval (.Name x pp) cenv) Q E' s := fun {Q s pp} h1 h2 =>
    wpAny_Name (wpAny_loadName_local hk' (show cenv.scope.names.lookup x = some .local by rw [hs]; exact hl) h1 hm h2) hd
  refine BoolOp_and (wpAny_Compare1 ?_)
  refine wpAny_Call_Name_kw (Calls.Name_function_global hk' (kof gt) (Calls.loadGlobal_builtin hg mt hmb ((hbb "type" (by decide)).trans (by decide +kernel : bootBuiltins "type" = some (.type "type"))) ?_) (by decide))
  refine Pv.callWith_type1 (Calls.spliced_cons (look hn (Calls.spliced_nil (call_type_of tT nb ?_))))
  refine Calls.Name_function_global hk' (kof gi) (Calls.loadGlobal_builtin hg mi hmb ((hbb "int" (by decide)).trans (by decide +kernel : bootBuiltins "int" = some (.type "int"))) ?_) (by decide)
  refine wpAny_is_plain rfl (wpAny_truthy_bool ?_)
  rcases ti with ⟨n, rfl, rfl⟩ | ⟨nn, nT⟩
  · rw [show (Value.type "int" == Value.type "int") = true from by decide +kernel]
    refine ite_tt (BoolOp_one ?_)
    obtain ⟨t, rfl⟩ := (show ∃ t, u = Value.int n t from ru)
    refine Compare_chain (wpAny_Constant_int ?_)
    refine chain_link (look hn (le_int (wpAny_truthy_bool ?_)))
    by_cases c : (1 : Int) ≤ n
    · rw [decide_eq_true c]
      refine ite_tt (chain_last (Calls.Name_function_global hk' (kof gy) (Calls.loadGlobal_global hg my (le_int ?_)) hy))
      refine ⟨?_, GxR.keeps_tok _ _⟩
      show Value.bool _ = Value.bool (decide (1 ≤ n) && decide (n ≤ hi))
      rw [decide_eq_true c, Bool.true_and]
    · rw [decide_eq_false c]
      refine ite_ff ⟨?_, GxR.keeps_tok _ _⟩
      show Value.bool _ = Value.bool (decide (1 ≤ n) && decide (n ≤ hi))
      rw [decide_eq_false c, Bool.false_and]
  · rw [show (Value.type T == Value.type "int") = false from by rw [ty_beq]; exact decide_eq_false nT]
    refine ite_ff ⟨?_, GxR.keeps_refl _⟩
    have e : sizeV hi v = false := by cases v <;> first | rfl | exact absurd rfl (nn _)
    rw [e]
/-! ## the end where defs of the module hold generator expressions -/
/-- as LamX.walk_ofOwn, for any defs of these names -/
theorem walk_ofTabs {l : PySem.W.OpenLaw} {n k : Nat} {q : Program} {loose : List Str} {XP : (Str → Option Value) → Heap → Prop} {YP : World → Heap → Prop} {d : DefRec} {K : Params → PySem.W.Frag} {CX : World → CXT} {x : Str} (names : List Str)
    (hn : l.most = some n) (hn2 : n ≤ sizeLine) (hdf : d.params.defaults = []) (hr : Room k callerA) (hrec : (names.all fun z => (recsOf q).any fun e => e.name == z) = true) (hY : ∀ (w : World) (h : Heap), YP w h → (K w.params).In h)
    (F : ∀ (w : World) (mg : Str → Option Value) (fa : Addr) (h : Heap), YP w h → (K w.params).In h → h.Ns mainGlobals mg → mg d.name = some (.ref fa) → (∀ z ∈ names, ∀ f, mg z = some (.ref f) → LamX.OwnTab (K w.params) f h) → LamX.LawAtS l w (K w.params) (CX w) k n x mg fa h)
    (hCX : ∀ (w : World) (H : Hp) (s : Shared) (e : Value) (s' : Shared), CX w [] H s (fun _ _ _ => False) e s' → False) :
    PySem.W.WalkO q loose XP YP l.row.toRowW d [] (fun f vs => PySem.call f vs) := by
  refine Att.attach_callB hn hdf fun w s₀ s₁ mg mb fa o pm cd doc a vs ns G Y ho hd hcd hmg hobj hints hlen hbits hg => ?_
  have KX := hY w _ Y
  have own : ∀ z ∈ names, ∀ f, mg z = some (.ref f) → LamX.OwnTab (K w.params) f s₁.heap := fun z hz f hf c P o1 fd1 e dd vs1 sl k1 k2 k3 k4 k5 => by
    obtain ⟨dL, hm, hn1⟩ := List.any_eq_true.mp (List.all_eq_true.mp hrec z hz)
    have hn2 : dL.name = z := beq_iff_eq.mp hn1
    obtain ⟨a', o', fd', c', P', h1, h2, h3, h4, h5, h6⟩ := G.T.tab dL hm
    rw [hn2, hf] at h1
    cases h1
    have g1 := KX _ _ k1
    rw [g1] at h2
    cases h2
    rw [k2] at h3
    cases h3
    rw [k3] at h4
    cases h4
    obtain ⟨⟨oc, vc, e1, _, e3, e4⟩, hP⟩ := h6
    have g2 := KX _ _ k4
    rw [g2] at e1
    cases e1
    cases e3
    rw [k5] at e4
    cases e4
    exact hP
  obtain ⟨fd, cs, sp, hT, nT, C, hb, hsp, hF⟩ := F w mg fa _ Y KX G.T.g hmg own
  exact LamX.law_callTs KX G.T.g G.T.b G.T.builtins G.T.nolimit hg hT nT C G.T.bmain hobj hints (Nat.le_trans hlen hn2) hr hF hb (fun H hH hS => hsp H a ns hlen hbits hH hS) fun H e s' => hCX w H s₁ e s'
end KB

/-! B26: () + t; t * n for any n from 1 on; list(range(n)). -/
namespace KB
open PySem PySem.Spec PyProof.Rows L2
section
variable {X : Cx}
/-- () + t is t -/
def rCatT0 (K : PySem.W.Frag) : R2 := fun x y H Q => ∃ a b ys, x = .ref a ∧ y = .ref b ∧ SqT K H a [] ∧ SqT K H b ys ∧ Q (.ref b) H
theorem op_catT0 : OpR X (binaryOp .Add) (rCatT0 X.K) := by
  intro pins s σ H x y v u Q I rx ry h
  obtain ⟨a, b, ys, rfl, rfl, ha, hb, q⟩ := h
  cases rx
  cases ry
  obtain ⟨its, r1, p1, _⟩ := I.tuple ha
  obtain ⟨its2, r2, p2, _⟩ := I.tuple hb
  cases r1
  obtain ⟨⟨cls, dd, data, sl⟩, ho, hc, n, hd⟩ := id p1
  obtain ⟨⟨cls2, dd2, data2, sl2⟩, ho2, hc2, n2, hd2⟩ := id p2
  simp only at hc hd hc2 hd2
  subst hc hd hc2 hd2
  exact concat_meets ⟨_, ho, rfl⟩ ⟨_, ho2, rfl⟩ noFill_tuple_add seq_tuple_add PySem.F.slot_tuple_add PySem.F.entry_tuple_add (PySem.F.args_tuple_add_2 _ _)
      (tuple_addW0 a b (List.toArray []) its2.toArray n n2 dd dd2 sl sl2 rfl) ⟨ho, ho2, ⟨.ref b, H, I, rfl, q⟩⟩
def rAddB (K : PySem.W.Frag) : R2 := fun x y H Q => rAddA K x y H Q ∨ rCatT0 K x y H Q
theorem op_addB : OpR X (binaryOp .Add) (rAddB X.K) := op_addA.or op_catT0
theorem tuple_mulW1 (l : Addr) (items : Array Value) (n : Nat) (dd : Option Addr) (sl : Array (Option Value)) (u : Tok) :
    Meets (Builtin.«tuple.__mul__» ⟨[.ref l, .int 1 u], []⟩) (fun _ R s => s.heap.get? l = some { cls := .type "tuple", dict := dd, data := .seq items n, slots := sl } ∧ R (.ok (.ret (Value.ref l))) s) :=
  .of_wp fun prog w A R s h => by
    obtain ⟨hp, g, d, tk, os⟩ := s
    obtain ⟨hl, h⟩ := h
    have f1 := AutoSeq1.idx_int
    have f2 := AutoSeq1.sub_tuple_tuple
    have c0 : (decide ((1 : Int) < -(2 ^ 63)) || decide ((1 : Int) ≥ 2 ^ 63)) = false := by decide
    have c1 : (items.isEmpty || (1 : Int) == 1) = true := by rw [show ((1 : Int) == 1) = true from rfl, Bool.or_true]
    wp_walk using wpAny_loadPart' hl
    repeat (first
      | (refine wpAny_ite_false (decide_eq_false (by rw [c0]; exact Bool.false_ne_true)) ?_; wp_walk using wpAny_loadPart' hl)
      | (refine wpAny_ite_true (decide_eq_true c1) ?_; wp_walk using wpAny_loadPart' hl))
    exact ⟨_, rfl, h⟩
/-- t * 1 is t -/
def rRepT1 (K : PySem.W.Frag) : R2 := fun x y H Q => ∃ l xs, x = .ref l ∧ y = .int 1 ∧ SqT K H l xs ∧ Q (.ref l) H
theorem op_repT1 : OpR X (binaryOp .Mult) (rRepT1 X.K) := by
  intro pins s σ H x y v u Q I rx ry h
  obtain ⟨l, xs, rfl, rfl, hT, q⟩ := h
  cases rx
  obtain ⟨t, rfl⟩ := ry
  obtain ⟨its, r, ⟨⟨cls, dd, data, sl⟩, ho, hc, n, hd⟩, hs⟩ := I.tuple hT
  simp only at hc hd
  subst hc hd
  exact wpAny_binaryOp_repeat_ref (T := "tuple") (U := "int") (by decide) ⟨_, ho, rfl⟩ (fun s' => typeIs_int s' 1 t) noFill_tuple_mul F.fills_int_mul F.slot_int_rmul repeat_tuple F.slot_int_index.lookup
    (call_meets F.slot_int_rmul (typeIs_int s 1 t) F.entry_int_rmul (F.args_int_rmul_2 _ _) (int_rmul_tuple 1 t l its.toArray n dd sl)
      ⟨ho, rfl, ⟨_, ho, rfl⟩, call_meets F.slot_tuple_mul ⟨_, ho, rfl⟩ F.entry_tuple_mul (F.args_tuple_mul_2 _ _) (tuple_mulW1 l its.toArray n dd sl t) ⟨ho, ⟨.ref l, H, I, rfl, q⟩⟩⟩)
/-- t * k is a new tuple, k from 2 on, of a million things at most -/
def rRepTL (K : PySem.W.Frag) : R2 := fun x y H Q => ∃ l k xs, x = .ref l ∧ y = .int k ∧ SqT K H l xs ∧ xs ≠ [] ∧ 2 ≤ k ∧ xs.length * k.toNat ≤ 1000000 ∧ ∀ p, H p = none → Q (.ref p) (upd H p (.tup (List.replicate k.toNat xs).flatten))
theorem op_repTL : OpR X (binaryOp .Mult) (rRepTL X.K) := by
  intro pins s σ H x y v u Q I rx ry h
  obtain ⟨l, k, xs, rfl, rfl, hT, hne, h1, hz, q⟩ := h
  cases rx
  obtain ⟨t, rfl⟩ := ry
  obtain ⟨its, r, ⟨⟨cls, dd, data, sl⟩, ho, hc, n, hd⟩, hs⟩ := I.tuple hT
  simp only at hc hd
  subst hc hd
  have hle : its.length = xs.length := r.length.symm
  have hn : its ≠ [] := fun e => hne (by
    rw [e] at hle
    exact List.eq_nil_of_length_eq_zero hle.symm)
  have hi : its.toArray.isEmpty = false := by
    cases its with
    | nil => exact absurd rfl hn
    | cons a b => rfl
  have hsz0 : its.toArray.size = xs.length := by rw [List.size_toArray, hle]
  have hpos : 0 < xs.length := List.length_pos_iff.mpr hne
  have kk : k.toNat ≤ 1000000 := by
    have a1 : 1 * k.toNat ≤ xs.length * k.toNat := Nat.mul_le_mul hpos (Nat.le_refl _)
    omega
  have ek : ((k.toNat : Nat) : Int) = k := by omega
  have hm : ((its.toArray.size : Nat) : Int) * k ≤ 1000000 := by
    rw [hsz0, ← ek, ← Int.natCast_mul]
    revert hz
    generalize xs.length * k.toNat = m
    omega
  have hz' : k.toNat * xs.length ≤ 1000000 := by rw [Nat.mul_comm]; exact hz
  have flen : (List.replicate k.toNat its).flatten.length ≤ sizeLine := by
    rw [PyProof.Rows.lm_len_rep_flat, hle, sizeLine_eq]
    omega
  have c0 : (decide (k < -(2 ^ 63)) || decide (k ≥ 2 ^ 63)) = false := by
    rw [decide_eq_false (by omega), decide_eq_false (by omega)] <;> rfl
  have c1 : (its.toArray.isEmpty || k == 1) = false := by
    rw [hi, Bool.false_or]
    exact beq_eq_false_iff_ne.mpr (by omega)
  have c2 : (decide (k ≤ 0) || its.toArray.isEmpty) = false := by
    rw [hi, Bool.or_false]
    exact decide_eq_false (by omega)
  have c4 : Builtin.Tuple.tupleTooMany (((its.toArray.size : Nat) : Int) * k) = false := by
    unfold Builtin.Tuple.tupleTooMany
    rw [sizeLine_eq]
    exact decide_eq_false (by omega)
  refine wpAny_binaryOp_repeat_ref (T := "tuple") (U := "int") (by decide) ⟨_, ho, rfl⟩ (fun s' => typeIs_int s' k t) noFill_tuple_mul F.fills_int_mul F.slot_int_rmul repeat_tuple F.slot_int_index.lookup
    (call_meets F.slot_int_rmul (typeIs_int s k t) F.entry_int_rmul (F.args_int_rmul_2 _ _) (int_rmul_tuple k t l its.toArray n dd sl)
      ⟨ho, rfl, ⟨_, ho, rfl⟩, call_meets F.slot_tuple_mul ⟨_, ho, rfl⟩ F.entry_tuple_mul (F.args_tuple_mul_2 _ _) (tuple_mulW l its.toArray n dd sl k t c0 c1 c2 (by omega) c4 (by rw [size_rep, List.size_toArray]; exact flen)) ⟨ho, ?_⟩⟩)
  rw [size_rep]
  refine ⟨.ref s.heap.objs.size, _, I.laid (t' := s.toks) (o := .tup (List.replicate k.toNat xs).flatten) (fun b ob q => Heap.get?_push_of_some _ q) (Nat.le_refl _) ?_, rfl, q _ (I.hok.fresh (Nat.le_refl _))⟩
  exact ⟨by rw [PyProof.Rows.lm_len_rep_flat, sizeLine_eq]; omega, _, r.rep k.toNat, IsTup.new _ _⟩
def rRepTA (K : PySem.W.Frag) : R2 := fun x y H Q => rRepT1 K x y H Q ∨ rRepTL K x y H Q
theorem op_repTA : OpR X (binaryOp .Mult) (rRepTA X.K) := op_repT1.or op_repTL
end
end KB

/-! B27: sizes as data; what stays where tables of code grow; comprehensions with two walks. -/
namespace KB
open PySem PySem.Spec PyProof.Rows L2
/-! ## sizes -/
def szD : PyData → Bool
  | .int n => decide (1 ≤ n) && decide (n ≤ 999)
  | _ => false
/-- whether a thing is sizes -/
def isSz : PyData → Bool
  | .list ds => ds.length == 8 && ds.all szD
  | _ => false
def intD : PyData → Int
  | .int n => n
  | _ => 1
/-- the sizes that are told by data -/
def sOf (ds : List PyData) (i : Nat) : Nat := if i < 8 then (intD (ds.getD i .none)).toNat else 1
theorem Dq.szV {K : PySem.W.Frag} {H : Hp} {v : V} {d : PyData} (h : Dq K H v d) : sizeV 999 v = szD d := by cases h <;> rfl
theorem DqAll.szV {K : PySem.W.Frag} {H : Hp} : ∀ {ds : List PyData} {vs : List V}, DqAll K H vs ds → vs.all (sizeV 999) = ds.all szD
  | _, _, .nil => rfl
  | _, _, .cons h a => by rw [List.all_cons, List.all_cons, Dq.szV h, DqAll.szV a]
theorem DqAll.tys {K : PySem.W.Frag} {H : Hp} : ∀ {ds : List PyData} {vs : List V}, DqAll K H vs ds → ∀ a ∈ vs, ∃ T, TyB K H a T
  | _, _, .nil, a, h => by cases h
  | _, _, .cons (d := d) h t, a, ha => by
    rcases List.mem_cons.mp ha with rfl | ha
    · exact ⟨tyN d, h.ty⟩
    · exact DqAll.tys t a ha
theorem DqAll.get {K : PySem.W.Frag} {H : Hp} : ∀ {ds : List PyData} {vs : List V} {i : Nat} {v : V}, DqAll K H vs ds → vs[i]? = some v → ∃ d, ds[i]? = some d ∧ Dq K H v d
  | _, _, i, v, .nil, h => by rw [List.getElem?_nil] at h; cases h
  | _, _, 0, v, .cons (d := d) hd t, h => by
    have e := Option.some.inj h
    exact ⟨d, rfl, e ▸ hd⟩
  | _, _, i + 1, v, .cons hd t, h => DqAll.get (i := i) t h
theorem DqAll.getD {K : PySem.W.Frag} {H : Hp} {ds : List PyData} {vs : List V} {i : Nat} {d : PyData} (a : DqAll K H vs ds) (h : ds[i]? = some d) : ∃ v, vs[i]? = some v ∧ Dq K H v d := by
  have hl := a.length
  have hi : i < vs.length := by rw [hl]; exact (List.getElem?_eq_some_iff.mp h).1
  obtain ⟨d', e, q⟩ := a.get (List.getElem?_eq_getElem hi)
  rw [h] at e
  cases e
  exact ⟨_, List.getElem?_eq_getElem hi, q⟩
theorem szD_is {d : PyData} (h : szD d = true) : ∃ n : Int, d = .int n ∧ 1 ≤ n ∧ n ≤ 999 := by
  cases d <;> simp only [szD] at h <;> try (cases h)
  rename_i n
  rw [Bool.and_eq_true] at h
  exact ⟨n, rfl, of_decide_eq_true h.1, of_decide_eq_true h.2⟩
theorem isSz_is {d : PyData} (h : isSz d = true) : ∃ ds, d = .list ds ∧ ds.length = 8 ∧ ∀ x ∈ ds, szD x = true := by
  cases d <;> simp only [isSz] at h <;> try (cases h)
  rename_i ds
  rw [Bool.and_eq_true] at h
  exact ⟨ds, rfl, eq_of_beq h.1, List.all_eq_true.mp h.2⟩
theorem sOf_ok {ds : List PyData} (hl : ds.length = 8) (h : ∀ x ∈ ds, szD x = true) (i : Nat) : 1 ≤ sOf ds i ∧ sOf ds i ≤ 999 := by
  unfold sOf
  by_cases c : i < 8
  · rw [if_pos c]
    have hi : i < ds.length := by omega
    have e : ds.getD i .none = ds[i] := by rw [List.getD_eq_getElem?_getD, List.getElem?_eq_getElem hi]; rfl
    rw [e]
    obtain ⟨n, en, n1, n2⟩ := szD_is (h _ (List.getElem_mem hi))
    rw [en]
    show 1 ≤ n.toNat ∧ n.toNat ≤ 999
    omega
  · rw [if_neg c]
    exact ⟨Nat.le_refl _, by decide⟩
theorem DqAll.ints {K : PySem.W.Frag} {H : Hp} : ∀ {ds : List PyData} {vs : List V}, DqAll K H vs ds → (∀ x ∈ ds, szD x = true) → vs = (ds.map intD).map V.int
  | _, _, .nil, _ => rfl
  | _, _, .cons (d := d) h t, q => by
    obtain ⟨n, en, _⟩ := szD_is (q d List.mem_cons_self)
    subst en
    cases h
    rw [DqAll.ints t fun x hx => q x (List.mem_cons_of_mem _ hx)]
    rfl
theorem ints_at {ds : List PyData} (hl : ds.length = 8) (h : ∀ x ∈ ds, szD x = true) {i : Nat} (hi : i < 8) : (ds.map intD)[i]? = some ((sOf ds i : Nat) : Int) := by
  have hi' : i < ds.length := by omega
  have e : ds.getD i .none = ds[i] := by rw [List.getD_eq_getElem?_getD, List.getElem?_eq_getElem hi']; rfl
  obtain ⟨n, en, n1, n2⟩ := szD_is (h _ (List.getElem_mem hi'))
  unfold sOf
  rw [if_pos hi, e, List.getElem?_map, List.getElem?_eq_getElem hi', en]
  show some n = some ((n.toNat : Nat) : Int)
  congr 1
  omega
/-! ## what stays where tables of code grow -/
structure Stay (P : Addr) (H H' : Hp) : Prop where
  ext : LamX.ExtN H H'
  tab : GxR.TabG H' P
  but : ∀ b o, b ≠ P → H b = some o → H' b = some o
theorem TabG.same {P : Addr} {H H' : Hp} (t : GxR.TabG H P) (s : Same H H') : GxR.TabG H' P := by
  obtain ⟨ps, e, r⟩ := t
  exact ⟨ps, s _ _ e, r⟩
theorem Stay.of_same {P : Addr} {H H' : Hp} (t : GxR.TabG H P) (s : Same H H') : Stay P H H' := ⟨LamX.ExtN.of s, TabG.same t s, fun b o _ e => s b o e⟩
theorem Stay.refl {P : Addr} {H : Hp} (t : GxR.TabG H P) : Stay P H H := .of_same t (Same.refl _)
theorem Stay.of_tab {P : Addr} {H H' : Hp} (t : GxR.TabG H P) (h : GxR.Tabbed P H H') : Stay P H H' := by
  refine ⟨fun b o e n => ?_, h.1, fun b o n e => by rw [h.2 b n]; exact e⟩
  by_cases c : b = P
  · obtain ⟨ps, e2, _⟩ := t
    rw [c, e2] at e
    cases e
    exact absurd rfl (n ps)
  · rw [h.2 b c]; exact e
theorem Stay.trans {P : Addr} {H H1 H2 : Hp} (a : Stay P H H1) (b : Stay P H1 H2) : Stay P H H2 := ⟨a.ext.trans b.ext, b.tab, fun x o n e => b.but x o n (a.but x o n e)⟩
theorem Stay.same {P : Addr} {H H1 H2 : Hp} (a : Stay P H H1) (s : Same H1 H2) : Stay P H H2 := a.trans (.of_same a.tab s)
theorem Tabbed.refl {P : Addr} {H : Hp} (t : GxR.TabG H P) : GxR.Tabbed P H H := ⟨t, fun _ _ => rfl⟩
theorem Stay.at_ {P a : Addr} {H H' : Hp} {xs : List V} (s : Stay P H H') (e : H a = some (.lst xs)) : H' a = some (.lst xs) := s.ext _ _ e fun _ z => by cases z
theorem Stay.dq {P : Addr} {K : PySem.W.Frag} {H H' : Hp} {d : PyData} {v : V} (s : Stay P H H') (h : Dq K H v d) : Dq K H' v d := Dq.extN s.ext h
theorem Stay.dqs {P : Addr} {K : PySem.W.Frag} {H H' : Hp} {ds : List PyData} {vs : List V} (s : Stay P H H') (h : DqAll K H vs ds) : DqAll K H' vs ds := (h.notab.same (notab_ext s.ext)).same (notab_sub H')
/-- nothing but a table may stand there -/
def Nw (H : Hp) (p : Addr) : Prop := ∀ o, H p = some o → ∃ ps, o = .tbl ps
theorem Nw.of {H : Hp} {p : Addr} (h : H p = none) : Nw H p := fun o e => by rw [h] at e; cases e
theorem Nw.back {H H' : Hp} {p : Addr} (e : LamX.ExtN H H') (h : Nw H' p) : Nw H p := fun o q => Classical.byContradiction fun c => c (h o (e p o q fun ps z => c ⟨ps, z⟩))
theorem Nw.ne {H : Hp} {p a : Addr} {o : HO} (h : Nw H p) (e : H a = some o) (n : ∀ ps, o ≠ .tbl ps) : a ≠ p := fun z => by
  obtain ⟨ps, r⟩ := h o (z ▸ e)
  exact n ps r
theorem out_extN {w : Addr} {H H' : Hp} (e : LamX.ExtN H H') : LamX.ExtN (out w H) (out w H') := fun b o h n => by
  obtain ⟨c, h⟩ := out_some h
  exact out_at c (e b o h n)
theorem Szd.extN {C : Addr} {s : Nat → Nat} {H H' : Hp} (e : LamX.ExtN H H') : ∀ {k : Kd} {v : V}, Szd C s H k v → Szd C s H' k v
  | .b _, _, ⟨a, h, dx, g⟩ => ⟨a, h, dx, e _ _ g fun _ z => by cases z⟩
  | .u, _, ⟨a, h, dx, g⟩ => ⟨a, h, dx, e _ _ g fun _ z => by cases z⟩
  | .p _ _, _, ⟨a, o, t, h, ⟨dx, g⟩, h1, h2⟩ => ⟨a, o, t, h, ⟨dx, e _ _ g fun _ z => by cases z⟩, Szd.extN e h1, Szd.extN e h2⟩
  | .f _ _, _, ⟨a, o, t, h, ⟨dx, g⟩, h1, h2⟩ => ⟨a, o, t, h, ⟨dx, e _ _ g fun _ z => by cases z⟩, Szd.extN e h1, Szd.extN e h2⟩
/-- what stood stays also without a new object -/
theorem same_out {D : Addr} {H H' : Hp} (n : H D = none) (s : Same H H') : Same H (out D H') := fun b o e => out_at (ne_of_none e n) (s b o e)
/-! ## walks within comprehensions, one within another -/
/-- a walk over a list, whatever is done in each turn -/
theorem lc_out {K : PySem.W.Frag} {a : Addr} {xs : List V} {Body : V → Hp → (Hp → Prop) → Prop} {H0 : Hp} {Qd : Hp → Prop} (Pv : Nat → Hp → Prop) (h0 : Pv 0 H0) (hl : ∀ i H, i ≤ xs.length → Pv i H → SqL K H a xs)
    (hs : ∀ i x H, xs[i]? = some x → Pv i H → Body x H (Pv (i + 1))) (hd : ∀ H, Pv xs.length H → Qd H) :
    ∃ W : Nat → Nat → Hp → Prop, (∃ m, W 0 m H0) ∧ ∀ i m H, W i m H → ((Itl K a).stop i H ∧ Qd H) ∨ ((Itl K a).go i H ∧ ∃ Nx : Hp → Prop, (∀ H', Nx H' → ∃ m', m' < m ∧ W (i + 1) m' H') ∧ ∀ x H', (Itl K a).yld i H x H' → Body x H' Nx) := by
  refine ⟨fun i m H => m = xs.length - i ∧ i ≤ xs.length ∧ Pv i H, ⟨xs.length, by simp, Nat.zero_le _, h0⟩, ?_⟩
  rintro i m H ⟨rfl, hi, p⟩
  have q := hl i H hi p
  by_cases hlt : i < xs.length
  · refine .inr ⟨⟨xs, xs[i], q, by simp [hlt]⟩, Pv (i + 1), fun H' p' => ⟨xs.length - (i + 1), by omega, rfl, hlt, p'⟩, fun x H' y => ?_⟩
    obtain ⟨e, y⟩ := y
    subst e
    exact hs i x _ (y xs q) p
  · have e : i = xs.length := by omega
    subst e
    exact .inl ⟨⟨xs, q, Nat.le_refl _⟩, hd H p⟩
/-- the same over a tuple -/
theorem lc_outT {K : PySem.W.Frag} {a : Addr} {xs : List V} {Body : V → Hp → (Hp → Prop) → Prop} {H0 : Hp} {Qd : Hp → Prop} (Pv : Nat → Hp → Prop) (h0 : Pv 0 H0) (hl : ∀ i H, i ≤ xs.length → Pv i H → SqT K H a xs)
    (hs : ∀ i x H, xs[i]? = some x → Pv i H → Body x H (Pv (i + 1))) (hd : ∀ H, Pv xs.length H → Qd H) :
    ∃ W : Nat → Nat → Hp → Prop, (∃ m, W 0 m H0) ∧ ∀ i m H, W i m H → ((Itt K a).stop i H ∧ Qd H) ∨ ((Itt K a).go i H ∧ ∃ Nx : Hp → Prop, (∀ H', Nx H' → ∃ m', m' < m ∧ W (i + 1) m' H') ∧ ∀ x H', (Itt K a).yld i H x H' → Body x H' Nx) := by
  refine ⟨fun i m H => m = xs.length - i ∧ i ≤ xs.length ∧ Pv i H, ⟨xs.length, by simp, Nat.zero_le _, h0⟩, ?_⟩
  rintro i m H ⟨rfl, hi, p⟩
  have q := hl i H hi p
  by_cases hlt : i < xs.length
  · refine .inr ⟨⟨xs, xs[i], q, by simp [hlt]⟩, Pv (i + 1), fun H' p' => ⟨xs.length - (i + 1), by omega, rfl, hlt, p'⟩, fun x H' y => ?_⟩
    obtain ⟨e, y⟩ := y
    subst e
    exact hs i x _ (y xs q) p
  · have e : i = xs.length := by omega
    subst e
    exact .inl ⟨⟨xs, q, Nat.le_refl _⟩, hd H p⟩
theorem DqAll.snoc {K : PySem.W.Frag} {H : Hp} {ds : List PyData} {vs : List V} {d : PyData} {v : V} (a : DqAll K H vs ds) (h : Dq K H v d) : DqAll K H (vs ++ [v]) (ds ++ [d]) := a.append (.cons h .nil)
/-- what is held at D of data that do not hang on D -/
structure Held (K : PySem.W.Frag) (H : Hp) (D : Addr) (ds : List PyData) : Prop where
  ex : ∃ us, H D = some (.lst us) ∧ DqAll K (out D H) us ds
/-- a list of data that do not hang on it, one more being put to it; the new thing t is laid before -/
theorem Held.put {K : PySem.W.Frag} {H : Hp} {D : Addr} {us : List V} {ds : List PyData} {v : V} {d : PyData} (e : H D = some (.lst us)) (a : DqAll K (out D H) us ds) (h : Dq K (out D H) v d) :
    DqAll K (out D (upd H D (.lst (us ++ [v])))) (us ++ [v]) (ds ++ [d]) := (a.same (out_set _)).snoc (h.same (out_set _))
theorem take_succ {α : Type} {l : List α} {i : Nat} {x : α} (h : l[i]? = some x) : l.take (i + 1) = l.take i ++ [x] := by rw [List.take_add_one, h]; rfl
end KB

/-! B28: all worths: their numbers, and lists that are put together of two. -/
namespace KB
open PySem PySem.Spec PyProof.Rows L2
/-- a walk within a comprehension's block: the context's own K is told -/
theorem pi_listK {X : Cx} {K : PySem.W.Frag} {tg l : Expr} {tl : TE} (hK : X.K = K) (hl : PE X l tl) : PI X tg l (iList K tl) := by
  subst hK
  exact pi_list hl
theorem pi_tupK {X : Cx} {K : PySem.W.Frag} {tg l : Expr} {tl : TE} (hK : X.K = K) (hl : PE X l tl) : PI X tg l (iTup K tl) := by
  subst hK
  exact pi_tup hl
theorem dq_range {K : PySem.W.Frag} {H : Hp} (n : Nat) : DqAll K H (rgV 0 (n : Int)) ((List.range n).map fun i => PyData.int (i : Nat)) := by
  have e : rgV 0 (n : Int) = (List.range n).map fun i => V.int ((i : Nat) : Int) := by
    unfold rgV
    have e1 : ((n : Int) - 0).toNat = n := by omega
    rw [e1]
    refine List.map_congr_left fun i _ => ?_
    rw [Int.zero_add]
  rw [e]
  induction List.range n with
  | nil => exact .nil
  | cons i r ih => exact .cons (.int _) ih
theorem few_p {s : Nat → Nat} (hs : ∀ i, 1 ≤ s i ∧ s i ≤ 999) {x y : Kd} (h : (Kd.p x y).num s ≤ 5000) : x.num s ≤ 5000 ∧ y.num s ≤ 5000 ∧ x.num s * y.num s ≤ 5000 := by
  have hx := Kd.num_pos (fun i => (hs i).1) x
  have hy := Kd.num_pos (fun i => (hs i).1) y
  have tg : 5000 < tooGreat := by decide +kernel
  have h : min (x.num s * y.num s) tooGreat ≤ 5000 := h
  have hp : x.num s * y.num s ≤ 5000 := by omega
  have h1 : x.num s * 1 ≤ x.num s * y.num s := Nat.mul_le_mul (Nat.le_refl _) hy
  have h2 : 1 * y.num s ≤ x.num s * y.num s := Nat.mul_le_mul hx (Nat.le_refl _)
  omega
theorem few_f {s : Nat → Nat} (hs : ∀ i, 1 ≤ s i ∧ s i ≤ 999) {x y : Kd} (h : (Kd.f x y).num s ≤ 5000) : y.num s ≤ 5000 ∧ y.num s ^ x.num s ≤ 5000 := by
  have hx := Kd.num_pos (fun i => (hs i).1) x
  have hy := Kd.num_pos (fun i => (hs i).1) y
  have tg : 5000 < tooGreat := by decide +kernel
  have h : min (y.num s ^ x.num s) tooGreat ≤ 5000 := h
  have hp : y.num s ^ x.num s ≤ 5000 := by omega
  have h1 : y.num s ^ 1 ≤ y.num s ^ x.num s := Nat.pow_le_pow_right hy hx
  rw [Nat.pow_one] at h1
  omega
theorem few_lt {n : Nat} (h : n ≤ 5000) : n < tooGreat := Nat.lt_of_le_of_lt h (by decide +kernel)
theorem rowsN_one (d : PyData) : ∀ n, rowsN [d] n = [List.replicate n d]
  | 0 => rfl
  | n + 1 => by
    show (rowsN [d] n).flatMap (fun r => [d].map fun o => r ++ [o]) = _
    rw [rowsN_one d n]
    simp [List.replicate_succ']
theorem len_pos_of {α : Type} {l : List α} (h : l.length = 1) : ∃ d, l = [d] := by
  match l, h with
  | [d], _ => exact ⟨d, rfl⟩
/-- what is made so far of a list at D -/
def Pr2 (K : PySem.W.Frag) (D : Addr) (H3 : Hp) (data : List PyData) (H : Hp) : Prop := ∃ acc, H D = some (.lst acc) ∧ DqAll K (out D H) acc data ∧ Same H3 H
theorem Pr2.start {K : PySem.W.Frag} {D : Addr} {H3 : Hp} (n : H3 D = none) : Pr2 K D H3 [] (upd H3 D (.lst [])) := ⟨[], upd_same, .nil, same_new n _⟩
/-- one more thing is put to the list -/
theorem Pr2.step {K : PySem.W.Frag} {D : Addr} {H3 H H' : Hp} {data : List PyData} {acc : List V} {v : V} {d : PyData} (n : H3 D = none) (e : H D = some (.lst acc)) (a : DqAll K (out D H) acc data) (s : Same H3 H) (s2 : Same H H') (dv : Dq K (out D H') v d) : Pr2 K D H3 (data ++ [d]) (upd H' D (.lst (acc ++ [v]))) :=
  ⟨acc ++ [v], upd_same, ((a.same (out_same s2)).snoc dv).same (out_set _), fun b o q => by rw [upd_ne (ne_of_none q n)]; exact s2 _ _ (s _ _ q)⟩
theorem flat_length {α : Type} (A B : List α) (f : α → α → α) : (A.flatMap fun c => B.map (f c)).length = A.length * B.length := by
  rw [List.length_flatMap]
  simp only [List.length_map]
  exact sum_const _ _
theorem flat_take {α : Type} {A B : List α} {f : α → α → α} {i : Nat} {c : α} (h : A[i]? = some c) : (A.take (i + 1)).flatMap (fun c => B.map (f c)) = (A.take i).flatMap (fun c => B.map (f c)) ++ B.map (f c) := by
  rw [take_succ h, List.flatMap_append]
  simp
/-- so far, in the midst -/
def mid (A B : List PyData) (f : PyData → PyData → PyData) (i : Nat) (c : PyData) (j : Nat) : List PyData := (A.take i).flatMap (fun c => B.map (f c)) ++ (B.take j).map (f c)
theorem mid_zero {A B : List PyData} {f : PyData → PyData → PyData} {i : Nat} {c : PyData} : mid A B f i c 0 = (A.take i).flatMap (fun c => B.map (f c)) := by simp [mid]
theorem mid_succ {A B : List PyData} {f : PyData → PyData → PyData} {i j : Nat} {c d : PyData} (h : B[j]? = some d) : mid A B f i c (j + 1) = mid A B f i c j ++ [f c d] := by simp [mid, take_succ h]
theorem mid_end {A B : List PyData} {f : PyData → PyData → PyData} {i : Nat} {c : PyData} (h : A[i]? = some c) : mid A B f i c B.length = (A.take (i + 1)).flatMap (fun c => B.map (f c)) := by
  rw [flat_take h]
  simp [mid]
theorem mid_length {A B : List PyData} {f : PyData → PyData → PyData} {i j : Nat} {c : PyData} (hi : i < A.length) (hj : j < B.length) (few : A.length * B.length ≤ 5000) : (mid A B f i c j).length < 5000 := by
  unfold mid
  rw [List.length_append, flat_length, List.length_map, List.length_take, List.length_take]
  have h1 : (i + 1) * B.length ≤ A.length * B.length := Nat.mul_le_mul (by omega) (Nat.le_refl _)
  rw [Nat.succ_mul] at h1
  have e1 : min i A.length = i := by omega
  have e2 : min j B.length = j := by omega
  rw [e1, e2]
  omega
/-- a row with one more -/
def catT : PyData → PyData → PyData
  | .tuple r, d => .tuple (r ++ [d])
  | _, d => d
theorem rows_cat {ws : List PyData} {j : Nat} : (((rowsN ws j).map PyData.tuple).flatMap fun c => ws.map fun d => catT c d) = (rowsN ws (j + 1)).map PyData.tuple := by
  show _ = ((rowsN ws j).flatMap fun r => ws.map fun o => r ++ [o]).map PyData.tuple
  rw [List.map_flatMap, List.flatMap_map]
  simp only [List.map_map]
  rfl
end KB

/-! B29: whether a thing is a worth: rows of things, and how much is left to be looked at. -/
namespace KB
open PySem PySem.Spec PyProof.Rows L2
/-- within a comprehension's block -/
theorem pe_fldK {X : Cx} {K : PySem.W.Frag} {e : Expr} {f : Str} {pos : Pos} {ta : TE} (hK : X.K = K) (he : PE X e ta) (hb : attributeBase e f X.env (eval e X.env) = eval e X.env) : PE X (.Attribute e f pos) (tFld K ta f) := by
  subst hK
  exact pe_fld he hb
/-- a thing's first look -/
def topW (s : Nat → Nat) : Kd → PyData → Bool
  | .b i, .int n => decide (0 ≤ n) && decide (n < (s i : Int))
  | .b _, _ => false
  | .u, .tuple l => l.length == 0
  | .p _ _, .tuple l => l.length == 2
  | .f x _, .tuple l => l.length == x.num s
  | _, _ => false
/-- the things that stand in one of a pair's row -/
def nthD (n : Nat) : PyData → PyData
  | .tuple l => l.getD n .none
  | _ => .none
def itemsD : PyData → List PyData
  | .tuple l => l
  | _ => []
/-- a row of things, all worths of the kind -/
def rowW (s : Nat → Nat) (k : Kd) (ds : List PyData) : Bool := ds.all (isW s k)
theorem isW_b {s : Nat → Nat} {i : Nat} (d : PyData) : isW s (.b i) d = topW s (.b i) d := by
  cases d <;> simp only [isW, topW]
  rename_i n
  rw [← Bool.decide_and]
theorem isW_u {s : Nat → Nat} (d : PyData) : isW s .u d = topW s .u d := by
  cases d <;> try (simp only [isW, topW])
  rename_i l
  cases l <;> simp [isW, topW]
theorem isW_p {s : Nat → Nat} {x y : Kd} (d : PyData) : isW s (.p x y) d = (topW s (.p x y) d && (isW s x (nthD 0 d) && isW s y (nthD 1 d))) := by
  cases d <;> try (simp only [isW, topW, Bool.false_and])
  rename_i l
  match l with
  | [] => simp [isW, topW]
  | [a] => simp [isW, topW]
  | [a, b] => simp [isW, topW, nthD]
  | a :: b :: c :: r => simp [isW, topW]
theorem isW_f {s : Nat → Nat} {x y : Kd} (d : PyData) : isW s (.f x y) d = (topW s (.f x y) d && (itemsD d).all (isW s y)) := by
  cases d <;> try (simp only [isW, topW, Bool.false_and])
  rename_i l
  simp only [isW, topW, itemsD]
  congr 1
theorem all_and {α : Type} (l : List α) (p q : α → Bool) : (l.all fun x => p x && q x) = (l.all p && l.all q) := by
  induction l with
  | nil => rfl
  | cons a r ih =>
    rw [List.all_cons, List.all_cons, List.all_cons, ih]
    cases p a <;> cases q a <;> simp
theorem rowW_b {s : Nat → Nat} {i : Nat} (ds : List PyData) : rowW s (.b i) ds = ds.all (topW s (.b i)) := by
  unfold rowW
  congr 1
  funext d
  exact isW_b d
theorem rowW_u {s : Nat → Nat} (ds : List PyData) : rowW s .u ds = ds.all (topW s .u) := by
  unfold rowW
  congr 1
  funext d
  exact isW_u d
theorem rowW_p {s : Nat → Nat} {x y : Kd} (ds : List PyData) : rowW s (.p x y) ds = (ds.all (topW s (.p x y)) && (rowW s x (ds.map (nthD 0)) && rowW s y (ds.map (nthD 1)))) := by
  unfold rowW
  rw [show isW s (.p x y) = fun d => topW s (.p x y) d && (isW s x (nthD 0 d) && isW s y (nthD 1 d)) from funext fun d => isW_p d, all_and, all_and, List.all_map, List.all_map]
  rfl
theorem rowW_f {s : Nat → Nat} {x y : Kd} (ds : List PyData) : rowW s (.f x y) ds = (ds.all (topW s (.f x y)) && rowW s y (ds.flatMap itemsD)) := by
  unfold rowW
  rw [show isW s (.f x y) = fun d => topW s (.f x y) d && (itemsD d).all (isW s y) from funext fun d => isW_f d, all_and, List.all_flatMap]
/-- what is left to be looked at -/
def wtK (s : Nat → Nat) : Kd → Nat
  | .b _ => 1
  | .u => 1
  | .p x y => wtK s x + wtK s y + 3
  | .f x y => wtK s y * x.num s + 2
def wt1 (s : Nat → Nat) (k : Kd) (n : Nat) : Nat := wtK s k * n + if n > 1000 then 1 else 0
def wts (s : Nat → Nat) : List (Kd × List PyData) → Nat
  | [] => 0
  | e :: r => wt1 s e.1 e.2.length + wts s r
theorem wts_append {s : Nat → Nat} : ∀ a b : List (Kd × List PyData), wts s (a ++ b) = wts s a + wts s b
  | [], b => by simp [wts]
  | e :: r, b => by
    rw [List.cons_append, wts, wts, wts_append r b]
    omega
theorem wtK_pos {s : Nat → Nat} (k : Kd) : 1 ≤ wtK s k := by cases k <;> simp only [wtK] <;> omega
theorem wt1_pos {s : Nat → Nat} {k : Kd} {n : Nat} (h : 1 ≤ n) : 1 ≤ wt1 s k n := by
  have := wtK_pos (s := s) k
  have h2 : 1 * 1 ≤ wtK s k * n := Nat.mul_le_mul this h
  unfold wt1
  omega
theorem wt1_le {s : Nat → Nat} {k : Kd} {n : Nat} : wt1 s k n ≤ wtK s k * n + 1 := by
  unfold wt1
  split <;> omega
theorem wt1_p {s : Nat → Nat} {x y : Kd} {n : Nat} (h : 1 ≤ n) : wt1 s x n + wt1 s y n < wt1 s (.p x y) n := by
  have a := wt1_le (s := s) (k := x) (n := n)
  have b := wt1_le (s := s) (k := y) (n := n)
  have c : wtK s (.p x y) * n = wtK s x * n + wtK s y * n + 3 * n := by
    show (wtK s x + wtK s y + 3) * n = _
    rw [Nat.add_mul, Nat.add_mul]
  have d : wt1 s (.p x y) n ≥ wtK s (.p x y) * n := by unfold wt1; omega
  omega
theorem wt1_f {s : Nat → Nat} {x y : Kd} {n : Nat} (h : 1 ≤ n) : wt1 s y (n * x.num s) < wt1 s (.f x y) n := by
  have b := wt1_le (s := s) (k := y) (n := n * x.num s)
  have c : wtK s (.f x y) * n = wtK s y * (n * x.num s) + 2 * n := by
    show (wtK s y * x.num s + 2) * n = _
    rw [Nat.add_mul, Nat.mul_assoc, Nat.mul_comm (x.num s) n]
  have d : wt1 s (.f x y) n ≥ wtK s (.f x y) * n := by unfold wt1; omega
  omega
/-- all that stand in the rows -/
def all2 (s : Nat → Nat) (st : List (Kd × List PyData)) : Bool := st.all fun e => rowW s e.1 e.2
def szs2 : List (Kd × List PyData) → Nat
  | [] => 0
  | e :: r => szs e.2 + szs2 r
theorem szs2_append : ∀ a b : List (Kd × List PyData), szs2 (a ++ b) = szs2 a + szs2 b
  | [], b => by simp [szs2]
  | e :: r, b => by
    rw [List.cons_append, szs2, szs2, szs2_append r b]
    omega
theorem szs2_len {st : List (Kd × List PyData)} (h : ∀ e ∈ st, e.2 ≠ []) : st.length ≤ szs2 st := by
  induction st with
  | nil => exact Nat.le_refl _
  | cons e r ih =>
    have h1 := h e List.mem_cons_self
    have h2 := ih fun x hx => h x (List.mem_cons_of_mem _ hx)
    have h3 := len_szs e.2
    have h4 := List.length_pos_iff.mpr h1
    rw [List.length_cons, szs2]
    omega
/-- the parts of a row of so many -/
def parts1 (ds : List PyData) : Nat → List (List PyData)
  | 0 => []
  | n + 1 => parts1 ds n ++ [(ds.drop (1000 * n)).take 1000]
theorem take_add {α : Type} (l : List α) (a b : Nat) : l.take (a + b) = l.take a ++ (l.drop a).take b := List.take_add
theorem parts1_all {s : Nat → Nat} {k : Kd} {ds : List PyData} : ∀ n, all2 s ((parts1 ds n).map fun r => (k, r)) = rowW s k (ds.take (1000 * n))
  | 0 => by simp [parts1, all2, rowW]
  | n + 1 => by
    unfold all2
    rw [parts1, List.map_append, List.all_append]
    have ih := parts1_all (s := s) (k := k) (ds := ds) n
    unfold all2 at ih
    rw [ih, Nat.mul_succ, take_add]
    unfold rowW
    rw [List.all_append]
    simp [rowW]
theorem parts1_szs {ds : List PyData} {k : Kd} : ∀ n, szs2 ((parts1 ds n).map fun r => (k, r)) = szs (ds.take (1000 * n))
  | 0 => by simp [parts1, szs2, szs]
  | n + 1 => by
    rw [parts1, List.map_append, szs2_append, parts1_szs n, Nat.mul_succ, take_add, szs_append]
    simp [szs2]
theorem parts1_wts {s : Nat → Nat} {ds : List PyData} {k : Kd} : ∀ n, wts s ((parts1 ds n).map fun r => (k, r)) = wtK s k * (ds.take (1000 * n)).length
  | 0 => by simp [parts1, wts]
  | n + 1 => by
    rw [parts1, List.map_append, wts_append, parts1_wts n, Nat.mul_succ, take_add, List.length_append, Nat.mul_add]
    have h : ((ds.drop (1000 * n)).take 1000).length ≤ 1000 := by rw [List.length_take]; omega
    simp only [List.map_cons, List.map_nil, wts, wt1]
    rw [if_neg (by omega)]
    omega
theorem rgc_parts {L : Nat} (h1 : 1000 < L) (h2 : L ≤ 1000000) : RgC 0 (L : Int) 1000 ((L + 999) / 1000) := by
  have e : Builtin.Range.rangeSize 0 (L : Int) 1000 = (((L + 999) / 1000 : Nat) : Int) := by
    unfold Builtin.Range.rangeSize
    rw [if_pos (by decide), if_pos (by omega)]
    omega
  refine ⟨by decide, by decide, ?_, e⟩
  have hn : (L + 999) / 1000 ≤ 1001 := by omega
  unfold Builtin.Range.small
  rw [e]
  generalize (L + 999) / 1000 = n at hn
  have f : ∀ i : Int, -2000000 ≤ i → i ≤ 2000000 → Builtin.Range.rangeFitsLong i = true := fun i h1 h2 => by
    unfold Builtin.Range.rangeFitsLong
    rw [decide_eq_true (by omega : -(2 ^ 63) ≤ i), decide_eq_true (by omega : i < 2 ^ 63)]
    rfl
  simp only [f 0 (by decide) (by decide), f (L : Int) (by omega) (by omega), f 1000 (by decide) (by decide), f (n : Int) (by omega) (by omega), Bool.true_and]
  rw [if_pos (by decide), f ((L : Int) + (1000 - 1)) (by omega) (by omega), Bool.or_true]
theorem cut_part {xs : List V} {j : Nat} (h : 1000 * j < xs.length) : cutV xs (some (0 + (j : Nat) * 1000)) (some (0 + (j : Nat) * 1000 + 1000)) = (xs.drop (1000 * j)).take 1000 := by
  unfold cutV
  have e1 : (0 + ((j : Nat) : Int) * 1000) = ((1000 * j : Nat) : Int) := by omega
  have e2 : (0 + ((j : Nat) : Int) * 1000 + 1000) = ((1000 * j + 1000 : Nat) : Int) := by omega
  rw [e2, e1, HT.sIx_nat, HT.sIx_nat]
  have m1 : min (1000 * j) xs.length = 1000 * j := Nat.min_eq_left (by omega)
  rw [m1]
  by_cases c : 1000 * j + 1000 ≤ xs.length
  · have m2 : min (1000 * j + 1000) xs.length = 1000 * j + 1000 := Nat.min_eq_left c
    rw [m2]
    congr 1
    omega
  · have m2 : min (1000 * j + 1000) xs.length = xs.length := Nat.min_eq_right (by omega)
    rw [m2]
    rw [List.take_of_length_le (by rw [List.length_drop]; omega), List.take_of_length_le (by rw [List.length_drop]; omega)]
theorem DqAll.drop {K : PySem.W.Frag} {H : Hp} : ∀ {ds : List PyData} {vs : List V} (n : Nat), DqAll K H vs ds → DqAll K H (vs.drop n) (ds.drop n)
  | _, _, 0, h => h
  | _, _, _ + 1, .nil => .nil
  | _, _, n + 1, .cons _ t => DqAll.drop n t
theorem DqAll.take {K : PySem.W.Frag} {H : Hp} : ∀ {ds : List PyData} {vs : List V} (n : Nat), DqAll K H vs ds → DqAll K H (vs.take n) (ds.take n)
  | _, _, 0, _ => .nil
  | _, _, _ + 1, .nil => .nil
  | _, _, n + 1, .cons h t => .cons h (DqAll.take n t)
theorem parts1_ne {ds : List PyData} : ∀ {n : Nat}, (∀ j, j < n → 1000 * j < ds.length) → ∀ r ∈ parts1 ds n, r ≠ []
  | 0, _, r, hr => by cases hr
  | n + 1, h, r, hr => by
    rw [parts1] at hr
    rcases List.mem_append.mp hr with hr | hr
    · exact parts1_ne (fun j hj => h j (by omega)) r hr
    · have e : r = (ds.drop (1000 * n)).take 1000 := by simpa using hr
      have hn := h n (Nat.lt_succ_self n)
      intro z
      rw [e] at z
      have l := congrArg List.length z
      rw [List.length_take, List.length_drop, List.length_nil] at l
      omega
theorem nth_szs {s : Nat → Nat} {x y : Kd} : ∀ {ds : List PyData}, ds.all (topW s (.p x y)) = true → szs (ds.map (nthD 0)) + szs (ds.map (nthD 1)) ≤ szs ds
  | [], _ => by simp [szs]
  | d :: r, h => by
    rw [List.all_cons, Bool.and_eq_true] at h
    have ih := nth_szs h.2
    have e : sz (nthD 0 d) + sz (nthD 1 d) ≤ sz d := by
      have h1 := h.1
      cases d with
      | tuple l =>
        match l, h1 with
        | [a, b], _ => simp only [nthD, List.getD_eq_getElem?_getD]; simp [sz, szs]
        | [], h => simp [topW] at h
        | [a], h => simp [topW] at h
        | a :: b :: c :: r, h => simp [topW] at h
      | _ => simp [topW] at h1
    simp only [List.map_cons, szs]
    omega
theorem items_szs : ∀ ds : List PyData, szs (ds.flatMap itemsD) ≤ szs ds
  | [] => by simp
  | d :: r => by
    have ih := items_szs r
    have e : szs (itemsD d) ≤ sz d := by cases d <;> simp [itemsD, sz, szs]
    rw [List.flatMap_cons, szs_append, szs]
    omega
theorem items_len {s : Nat → Nat} {x y : Kd} : ∀ {ds : List PyData}, ds.all (topW s (.f x y)) = true → (ds.flatMap itemsD).length = ds.length * x.num s
  | [], _ => by simp
  | d :: r, h => by
    rw [List.all_cons, Bool.and_eq_true] at h
    have ih := items_len h.2
    have e : (itemsD d).length = x.num s := by
      have h1 := h.1
      cases d with
      | tuple l => exact eq_of_beq h1
      | _ => simp [topW] at h1
    rw [List.flatMap_cons, List.length_append, ih, e, List.length_cons, Nat.succ_mul]
    omega
end KB

/-! B30: calls by names alone; worths as data; small kinds by small sizes. -/
namespace KB
open PySem PySem.Spec PyProof.Rows L2
section
variable (P : Program) (w : World) (K : PySem.W.Frag) (mg : Str → Option Value) (base : Heap)
/-- as Cal, and the def itself -/
def CalA (st : Stmt) (CX : CXT) (k : Nat) (x : Str) (ps : List Str) (sp : Sp) : Prop :=
  ∃ f fd, FnOk P w K mg base CX k f fd ps sp ∧ Binds K fd ps [] ∧ PySem.W.keepIn K (.ref f) = true ∧ mg x = some (.ref f) ∧ Fun K x x st f fd
end
theorem CalA.cal {P : Program} {w : World} {K : PySem.W.Frag} {mg : Str → Option Value} {base : Heap} {st : Stmt} {CX : CXT} {k : Nat} {x : Str} {ps : List Str} {sp : Sp} (C : CalA P w K mg base st CX k x ps sp) : Cal P w K mg base CX k x ps sp :=
  let ⟨f, fd, h1, h2, h3, h4, _⟩ := C; ⟨f, fd, h1, h2, h3, h4⟩
def tCallK0 (sp : Sp) (gV : List V → List V → List V) (E : XK) (tk : TA) : TE := fun σ H Q => tk σ H fun zs H2 => sp (gV [] zs) H2 Q E
section
variable {X : Cx} {CX : CXT} {k : Nat} {x : Str} {ps ks : List Str} {sp : Sp} {E : XK} {p pos : Pos} {st : Stmt} {kws : List Keyword} {tk : TA} {g : List Value → List Value → List Value} {gV : List V → List V → List V}
/-- f(k = v, ..), all by names -/
theorem pe_callK0 (C : CalA X.prog X.w X.K X.mg X.base st CX k x ps sp) (hr : Room k X.A) (hx : Passes CX X E) (hb : ∀ f fd, Fun X.K x x st f fd → KBinds X.K fd ps ks g gV) (hkw : PK X kws tk) (hg : Gl X x := by rfl) (hdb : (x == ("__debug__" : Str)) = false := by decide)
    (hall : (backToKw pos (keywordEach kws X.env)).all (·.1.isSome) = true := by rfl) (hks : (backToKw pos (keywordEach kws X.env)).filterMap (·.1) = ks := by rfl)
    (hpl : ((backTo pos (starEach [] X.env)).any (·.1) || (backToKw pos (keywordEach kws X.env)).any (·.1.isNone)) = false := by rfl) : PE X (.Call (.Name x p) [] kws pos) (tCallK0 sp gV E tk) := by
  obtain ⟨f, fd, F, _, hk, hm, hf⟩ := C
  refine ⟨fun pins s σ H Q I h => ?_⟩
  refine wpAny_Call_Name_kw (ld_glob I hg hm ?_ hdb)
  refine PySem.W.callWith_KW0 (h₀ := X.base) I.ok.mod.kin hk hall (thn (hkw.run pos pins s σ H _ I h) fun ws s2 ⟨zs, H2, I2, rz, q2⟩ => ⟨I2.kIn, ?_⟩) hpl
  rw [hks]
  exact run_fnk F hr (hb f fd hf) hx I2 .nil rz q2
end
/-- one by its name; two, three in another order -/
def kw1 {α : Type} (us ws : List α) : List α := match us, ws with
  | [], [w] => [w]
  | _, _ => []
def kw21 {α : Type} (us ws : List α) : List α := match us, ws with
  | [], [a, b] => [b, a]
  | _, _ => []
def kw321 {α : Type} (us ws : List α) : List α := match us, ws with
  | [], [a, b, c] => [c, b, a]
  | _, _ => []
theorem kw1_rel {vs : List V} {us : List Value} {zs : List V} {ws : List Value} (r : Vals vs us) (q : Vals zs ws) : Vals (kw1 vs zs) (kw1 us ws) := by
  cases r with
  | nil =>
    cases q with
    | nil => exact .nil
    | cons h t =>
      cases t with
      | nil => exact .cons h .nil
      | cons _ _ => exact .nil
  | cons _ _ => exact .nil
theorem kw21_rel {vs : List V} {us : List Value} {zs : List V} {ws : List Value} (r : Vals vs us) (q : Vals zs ws) : Vals (kw21 vs zs) (kw21 us ws) := by
  cases r with
  | nil =>
    cases q with
    | nil => exact .nil
    | cons h t =>
      cases t with
      | nil => exact .nil
      | cons h2 t2 =>
        cases t2 with
        | nil => exact .cons h2 (.cons h .nil)
        | cons _ _ => exact .nil
  | cons _ _ => exact .nil
theorem kw321_rel {vs : List V} {us : List Value} {zs : List V} {ws : List Value} (r : Vals vs us) (q : Vals zs ws) : Vals (kw321 vs zs) (kw321 us ws) := by
  cases r with
  | nil =>
    cases q with
    | nil => exact .nil
    | cons h t =>
      cases t with
      | nil => exact .nil
      | cons h2 t2 =>
        cases t2 with
        | nil => exact .nil
        | cons h3 t3 =>
          cases t3 with
          | nil => exact .cons h3 (.cons h2 (.cons h .nil))
          | cons _ _ => exact .nil
  | cons _ _ => exact .nil
/-! ## worths as data -/
theorem lays_of {l : List PyData} (h : ∀ d ∈ l, d.canLay0 = true) : PyData.canLayAll0 l = true := by
  induction l with
  | nil => rfl
  | cons a r ih =>
    rw [PyData.canLayAll0, h a List.mem_cons_self, ih fun d hd => h d (List.mem_cons_of_mem _ hd)]
    rfl
theorem deps_of {l : List PyData} {D : Nat} (h : ∀ d ∈ l, d.depth ≤ D) : PyData.depthAll l ≤ D := by
  induction l with
  | nil => simp [PyData.depthAll]
  | cons a r ih =>
    rw [PyData.depthAll]
    exact Nat.max_le.mpr ⟨h a List.mem_cons_self, ih fun d hd => h d (List.mem_cons_of_mem _ hd)⟩
theorem Kd.wl_lay {s : Nat → Nat} : ∀ (k : Kd), ∀ d ∈ k.wl s, d.canLay0 = true ∧ d.depth ≤ k.deep
  | .b i, d, h => by
    obtain ⟨n, hn, rfl⟩ := List.mem_map.mp h
    exact ⟨rfl, by simp [PyData.depth, Kd.deep]⟩
  | .u, d, h => by
    have e : d = .tuple [] := by simpa [Kd.wl] using h
    subst e
    exact ⟨rfl, by simp [PyData.depth, PyData.depthAll, Kd.deep]⟩
  | .p x y, d, h => by
    obtain ⟨c, hc, h⟩ := List.mem_flatMap.mp h
    obtain ⟨e, he, rfl⟩ := List.mem_map.mp h
    obtain ⟨l1, p1⟩ := wl_lay x c hc
    obtain ⟨l2, p2⟩ := wl_lay y e he
    have q : ∀ z ∈ [c, e], z.canLay0 = true ∧ z.depth ≤ max x.deep y.deep := fun z hz => by
      simp only [List.mem_cons, List.not_mem_nil, or_false] at hz
      rcases hz with rfl | rfl
      · exact ⟨l1, by omega⟩
      · exact ⟨l2, by omega⟩
    refine ⟨by rw [PyData.canLay0]; exact lays_of fun z hz => (q z hz).1, ?_⟩
    have := deps_of fun z hz => (q z hz).2
    simp only [PyData.depth, Kd.deep]
    omega
  | .f x y, d, h => by
    obtain ⟨r, hr, rfl⟩ := List.mem_map.mp h
    obtain ⟨_, he⟩ := rowsN_each hr
    refine ⟨by rw [PyData.canLay0]; exact lays_of fun z hz => (wl_lay y z (he z hz)).1, ?_⟩
    have := deps_of fun z hz => (wl_lay y z (he z hz)).2
    simp only [PyData.depth, Kd.deep]
    omega
/-- a list of worths is equal to itself, wherever it stands -/
theorem eq_worths {K : PySem.W.Frag} {H : Hp} {a b : Addr} {us vs : List V} {k : Kd} {s : Nat → Nat} {Q : VK} (e1 : H a = some (.lst us)) (d1 : DqAll K H us (k.wl s)) (e2 : H b = some (.lst vs)) (d2 : DqAll K H vs (k.wl s)) (hk : k.deep ≤ 180) (q : Q (.bl false) H) : rNeA K (.ref a) (.ref b) H Q := by
  have c1 : (PyData.list (k.wl s)).canLay0 = true := by rw [PyData.canLay0]; exact lays_of fun d hd => (Kd.wl_lay k d hd).1
  have c2 := deps_of fun d hd => (Kd.wl_lay (s := s) k d hd).2
  refine .inr ⟨_, _, (Dq.lst (.of e1) d1).dp c1, (Dq.lst (.of e2) d2).dp c1, c1, c1, by simp only [PyData.depth]; omega, ?_⟩
  rw [SeqAt.eqv_refl _ c1]
  exact q
/-! ## small kinds by small sizes -/
theorem small3 {s : Nat → Nat} (hs : ∀ i, 1 ≤ s i ∧ s i ≤ 2) : ∀ k : Kd, (k.leaves ≤ 1 → k.num s ≤ 2 ∧ k.took s = 0) ∧ (k.leaves ≤ 2 → k.num s ≤ 4 ∧ k.took s ≤ 2) ∧ (k.leaves ≤ 3 → k.num s ≤ 16 ∧ k.took s ≤ 4)
  | .b i => by
    have := hs i
    refine ⟨fun _ => ⟨(hs i).2, rfl⟩, fun _ => ⟨?_, Nat.zero_le _⟩, fun _ => ⟨?_, Nat.zero_le _⟩⟩ <;> (show s i ≤ _; omega)
  | .u => ⟨fun _ => ⟨(by show 1 ≤ 2; decide), rfl⟩, fun _ => ⟨(by show 1 ≤ 4; decide), Nat.zero_le _⟩, fun _ => ⟨(by show 1 ≤ 16; decide), Nat.zero_le _⟩⟩
  | .p x y => by
    have lx := x.leaves_pos
    have ly := y.leaves_pos
    have hx := small3 hs x
    have hy := small3 hs y
    have tg : 5000 < tooGreat := by decide +kernel
    have mul : ∀ a b A B : Nat, a ≤ A → b ≤ B → min (a * b) tooGreat ≤ A * B := fun a b A B h1 h2 => Nat.le_trans (Nat.min_le_left _ _) (Nat.mul_le_mul h1 h2)
    have key : ∀ n, (Kd.p x y).leaves ≤ n → x.leaves + y.leaves ≤ n := fun n h => h
    refine ⟨fun h => ?_, fun h => ?_, fun h => ?_⟩
    · have := key _ h; omega
    · have h := key _ h
      obtain ⟨a1, a2⟩ := hx.1 (by omega)
      obtain ⟨b1, b2⟩ := hy.1 (by omega)
      exact ⟨mul _ _ 2 2 a1 b1, by show max _ _ ≤ 2; omega⟩
    · have h := key _ h
      by_cases c : x.leaves ≤ 1
      · obtain ⟨a1, a2⟩ := hx.1 c
        obtain ⟨b1, b2⟩ := hy.2.1 (by omega)
        exact ⟨Nat.le_trans (mul _ _ 2 4 a1 b1) (by decide), by show max _ _ ≤ 4; omega⟩
      · obtain ⟨a1, a2⟩ := hx.2.1 (by omega)
        obtain ⟨b1, b2⟩ := hy.1 (by omega)
        exact ⟨Nat.le_trans (mul _ _ 4 2 a1 b1) (by decide), by show max _ _ ≤ 4; omega⟩
  | .f x y => by
    have lx := x.leaves_pos
    have ly := y.leaves_pos
    have hx := small3 hs x
    have hy := small3 hs y
    have py := Kd.num_pos (fun i => (hs i).1) y
    have pow : ∀ a b A B : Nat, 1 ≤ b → a ≤ A → b ≤ B → pw b a ≤ B ^ A := fun a b A B hb h1 h2 => Nat.le_trans (Nat.min_le_left _ _) (Nat.le_trans (Nat.pow_le_pow_left h2 a) (Nat.pow_le_pow_right (by omega) h1))
    have key : ∀ n, (Kd.f x y).leaves ≤ n → x.leaves + y.leaves ≤ n := fun n h => h
    refine ⟨fun h => ?_, fun h => ?_, fun h => ?_⟩
    · have := key _ h; omega
    · have h := key _ h
      obtain ⟨a1, a2⟩ := hx.1 (by omega)
      obtain ⟨b1, b2⟩ := hy.1 (by omega)
      exact ⟨Nat.le_trans (pow _ _ 2 2 py a1 b1) (by decide), by show max (max _ _) _ ≤ 2; omega⟩
    · have h := key _ h
      by_cases c : x.leaves ≤ 1
      · obtain ⟨a1, a2⟩ := hx.1 c
        obtain ⟨b1, b2⟩ := hy.2.1 (by omega)
        exact ⟨Nat.le_trans (pow _ _ 2 4 py a1 b1) (by decide), by show max (max _ _) _ ≤ 4; omega⟩
      · obtain ⟨a1, a2⟩ := hx.2.1 (by omega)
        obtain ⟨b1, b2⟩ := hy.1 (by omega)
        exact ⟨Nat.le_trans (pow _ _ 4 2 py a1 b1) (by decide), by show max (max _ _) _ ≤ 4; omega⟩
end KB

/-! B31: worths hang on no list; how large they are; sizes in a list of numbers. -/
namespace KB
open PySem PySem.Spec PyProof.Rows L2
theorem pures_of {l : List PyData} (h : ∀ d ∈ l, pureT d = true) : pureTs l = true := by
  induction l with
  | nil => simp [pureTs]
  | cons a r ih => simp [pureTs, h a List.mem_cons_self, ih fun d hd => h d (List.mem_cons_of_mem _ hd)]
theorem Kd.wl_pure {s : Nat → Nat} : ∀ (k : Kd), ∀ d ∈ k.wl s, pureT d = true
  | .b i, d, h => by
    obtain ⟨n, hn, rfl⟩ := List.mem_map.mp h
    simp [pureT]
  | .u, d, h => by
    have e : d = .tuple [] := by simpa [Kd.wl] using h
    subst e
    simp [pureT, pureTs]
  | .p x y, d, h => by
    obtain ⟨c, hc, h⟩ := List.mem_flatMap.mp h
    obtain ⟨e, he, rfl⟩ := List.mem_map.mp h
    simp [pureT, pureTs, wl_pure x c hc, wl_pure y e he]
  | .f x y, d, h => by
    obtain ⟨r, hr, rfl⟩ := List.mem_map.mp h
    obtain ⟨_, he⟩ := rowsN_each hr
    rw [pureT]
    exact pures_of fun z hz => wl_pure y z (he z hz)
/-- how large a worth is -/
def Kd.wsz (s : Nat → Nat) : Kd → Nat
  | .b _ => 1
  | .u => 1
  | .p x y => 1 + x.wsz s + y.wsz s
  | .f x y => 1 + x.num s * y.wsz s
theorem szs_le {l : List PyData} {B : Nat} (h : ∀ d ∈ l, sz d ≤ B) : szs l ≤ l.length * B := by
  induction l with
  | nil => simp [szs]
  | cons a r ih =>
    have h1 := h a List.mem_cons_self
    have h2 := ih fun d hd => h d (List.mem_cons_of_mem _ hd)
    rw [szs, List.length_cons, Nat.succ_mul]
    omega
theorem Kd.wl_sz {s : Nat → Nat} : ∀ (k : Kd), ∀ d ∈ k.wl s, sz d ≤ k.wsz s
  | .b i, d, h => by
    obtain ⟨n, hn, rfl⟩ := List.mem_map.mp h
    simp [sz, Kd.wsz]
  | .u, d, h => by
    have e : d = .tuple [] := by simpa [Kd.wl] using h
    subst e
    simp [sz, szs, Kd.wsz]
  | .p x y, d, h => by
    obtain ⟨c, hc, h⟩ := List.mem_flatMap.mp h
    obtain ⟨e, he, rfl⟩ := List.mem_map.mp h
    have h1 := wl_sz x c hc
    have h2 := wl_sz y e he
    simp only [sz, szs, Kd.wsz]
    omega
  | .f x y, d, h => by
    obtain ⟨r, hr, rfl⟩ := List.mem_map.mp h
    obtain ⟨hl, he⟩ := rowsN_each hr
    have h1 := szs_le fun z hz => wl_sz y z (he z hz)
    rw [hl] at h1
    simp only [sz, Kd.wsz]
    omega
theorem small3_sz {s : Nat → Nat} (hs : ∀ i, 1 ≤ s i ∧ s i ≤ 2) : ∀ k : Kd, (k.leaves ≤ 1 → k.wsz s ≤ 1) ∧ (k.leaves ≤ 2 → k.wsz s ≤ 3) ∧ (k.leaves ≤ 3 → k.wsz s ≤ 7)
  | .b i => ⟨fun _ => Nat.le_refl 1, fun _ => (by show 1 ≤ 3; decide), fun _ => (by show 1 ≤ 7; decide)⟩
  | .u => ⟨fun _ => Nat.le_refl 1, fun _ => (by show 1 ≤ 3; decide), fun _ => (by show 1 ≤ 7; decide)⟩
  | .p x y => by
    have lx := x.leaves_pos
    have ly := y.leaves_pos
    have hx := small3_sz hs x
    have hy := small3_sz hs y
    have key : ∀ n, (Kd.p x y).leaves ≤ n → x.leaves + y.leaves ≤ n := fun n h => h
    refine ⟨fun h => ?_, fun h => ?_, fun h => ?_⟩
    · have := key _ h; omega
    · have h := key _ h
      have a := hx.1 (by omega)
      have b := hy.1 (by omega)
      show 1 + x.wsz s + y.wsz s ≤ 3
      omega
    · have h := key _ h
      show 1 + x.wsz s + y.wsz s ≤ 7
      by_cases c : x.leaves ≤ 1
      · have a := hx.1 c
        have b := hy.2.1 (by omega)
        omega
      · have a := hx.2.1 (by omega)
        have b := hy.1 (by omega)
        omega
  | .f x y => by
    have lx := x.leaves_pos
    have ly := y.leaves_pos
    have hy := small3_sz hs y
    have nx := small3 hs x
    have key : ∀ n, (Kd.f x y).leaves ≤ n → x.leaves + y.leaves ≤ n := fun n h => h
    have mul : ∀ a b A B : Nat, a ≤ A → b ≤ B → a * b ≤ A * B := fun a b A B h1 h2 => Nat.mul_le_mul h1 h2
    refine ⟨fun h => ?_, fun h => ?_, fun h => ?_⟩
    · have := key _ h; omega
    · have h := key _ h
      have b := mul _ _ _ _ (nx.1 (by omega)).1 (hy.1 (by omega))
      show 1 + x.num s * y.wsz s ≤ 3
      omega
    · have h := key _ h
      show 1 + x.num s * y.wsz s ≤ 7
      by_cases c : x.leaves ≤ 1
      · have b := mul _ _ _ _ (nx.1 c).1 (hy.2.1 (by omega))
        omega
      · have b := mul _ _ _ _ (nx.2.1 (by omega)).1 (hy.1 (by omega))
        omega
/-! ## sizes in a list of numbers -/
theorem dq_ints {K : PySem.W.Frag} {H : Hp} : ∀ ns : List Int, DqAll K H (ns.map V.int) (ns.map PyData.int)
  | [] => .nil
  | n :: r => .cons (.int n) (dq_ints r)
theorem isSz_ints {ns : List Int} (h8 : ns.length = 8) (h : ∀ n ∈ ns, 1 ≤ n ∧ n ≤ 999) : isSz (.list (ns.map .int)) = true := by
  simp only [isSz, List.length_map, h8]
  rw [List.all_eq_true.mpr]
  · rfl
  · intro x hx
    obtain ⟨n, hn, rfl⟩ := List.mem_map.mp hx
    have := h n hn
    simp only [szD]
    rw [decide_eq_true this.1, decide_eq_true this.2]
    rfl
theorem sOf_ints {ns : List Int} {B : Nat} (hB : 1 ≤ B) (h8 : ns.length = 8) (h : ∀ n ∈ ns, 1 ≤ n ∧ n ≤ B) (i : Nat) : 1 ≤ sOf (ns.map .int) i ∧ sOf (ns.map .int) i ≤ B := by
  unfold sOf
  by_cases c : i < 8
  · rw [if_pos c, List.getD_eq_getElem?_getD, List.getElem?_map, List.getElem?_eq_getElem (by omega)]
    have := h (ns[i]'(by omega)) (List.getElem_mem _)
    show 1 ≤ (ns[i]'(by omega)).toNat ∧ (ns[i]'(by omega)).toNat ≤ B
    omega
  · rw [if_neg c]
    omega
/-- what a draw, or what tables make, leaves: all but the well and tables -/
structure AftT (w P : Addr) (H H' : Hp) : Prop where
  ext : LamX.ExtN (out w H) (out w H')
  tab : GxR.TabG H' P
theorem AftT.trans {w P : Addr} {H H1 H2 : Hp} (a : AftT w P H H1) (b : AftT w P H1 H2) : AftT w P H H2 := ⟨a.ext.trans b.ext, b.tab⟩
theorem AftT.of_stay {w P : Addr} {H H' : Hp} (a : Stay P H H') : AftT w P H H' := ⟨out_extN a.ext, a.tab⟩
theorem AftT.of_but {w P : Addr} {H H' : Hp} (n : P ≠ w) (t : GxR.TabG H P) (a : Same (out w H) (out w H')) : AftT w P H H' := by
  refine ⟨LamX.ExtN.of a, ?_⟩
  obtain ⟨ps, e, r⟩ := t
  exact ⟨ps, (out_some (a _ _ (out_at n e))).2, r⟩
theorem AftT.refl {w P : Addr} {H : Hp} (t : GxR.TabG H P) : AftT w P H H := ⟨LamX.ExtN.refl _, t⟩
theorem AftT.dq {w P : Addr} {K : PySem.W.Frag} {H H' : Hp} {d : PyData} {v : V} (a : AftT w P H H') (h : Dq K (out w H) v d) : Dq K (out w H') v d := Dq.extN a.ext h
theorem AftT.seq {w P b : Addr} {K : PySem.W.Frag} {H H' : Hp} {xs : List V} (a : AftT w P H H') (h : SqL K (out w H) b xs) : SqL K (out w H') b xs := seq_extN a.ext h
theorem AftT.at_ {w P b : Addr} {H H' : Hp} {xs : List V} (a : AftT w P H H') (n : b ≠ w) (h : H b = some (.lst xs)) : H' b = some (.lst xs) := (out_some (a.ext b _ (out_at n h) fun _ z => by cases z)).2
end KB

/-! B32: what the end knows of a def that holds a generator expression, and of a plain class. -/
namespace KB
open PySem PySem.Spec PyProof.Rows L2
/-- the def, its code and the table of that -/
def OwnF (K : PySem.W.Frag) (mg : Str → Option Value) (h : Heap) (x : Str) (st : Stmt) : Prop := ∃ (f : Addr) (fd : FuncData) (cc PT : Addr), Fun K x x st f fd ∧ mg x = some (.ref f) ∧ fd.code = .ref cc ∧ K.lookup PT = none ∧ PySem.W.CodeHd h cc PT ∧ (LamX.OwnTab K f h → h.get? PT = some { cls := .none, data := .fields #[] })
theorem own_mk {K : PySem.W.Frag} {h : Heap} {mg : Str → Option Value} {x : Str} {st : Stmt} {f cc PT : Addr} {od an dd : Option Addr} {sl sl2 : Array (Option Value)} {vs : Array Value} {oc kV dc pm ct e : Value} (X : K.In h) (G : h.Ns mainGlobals mg) (a : PySem.W.nsIn K mainGlobals x = some (some (.ref f)))
    (l : K.lookup f = some ⟨oc, od, .func (PySem.W.fnOf x x (defArgs st) (defBody st) (defScope st) .none kV dc pm an (.ref cc) ct), sl⟩) (c : PySem.W.codeIn K (.ref cc) x = true) (k : PySem.W.keepIn K (.ref f) = true) (lc : K.lookup cc = some ⟨e, dd, .fields vs, sl2⟩) (h11 : vs[11]? = some (.ref PT))
    (hd : PySem.W.codeHdIn K cc PT = true) (np : K.lookup PT = none) : OwnF K mg h x st :=
  ⟨f, _, cc, PT, fun_mk l c k, PySem.W.mg_of X G a, rfl, np, PySem.W.codeHd_of_K X hd, fun own => own cc PT _ _ e dd vs sl2 l rfl rfl lc h11⟩
theorem cls_of {K : PySem.W.Frag} {h : Heap} {mg : Str → Option Value} {x : Str} {C : Addr} (_ : K.In h) (_ : mg x = some (.ref C)) (pg : PySem.W.plainGet K C Str.empty = true) (hd : PySem.W.hasDictIn K C = true) (po : PySem.W.plainOver K C = true) (sa : PySem.W.findIn K (.ref C) "__setattr__" = some (some (.builtin "object.__setattr__"))) : Cls K C := ⟨pg, hd, po, sa⟩
theorem noattr_of {K : PySem.W.Frag} {h : Heap} {mg : Str → Option Value} {x f : Str} {C : Addr} (_ : K.In h) (_ : mg x = some (.ref C)) (n : PySem.W.findIn K (.ref C) f = some none) : NoAttr K C f := n
/-- how such a class is made: its __init__ -/
theorem makes_of {K : PySem.W.Frag} {h : Heap} {mg : Str → Option Value} {x q : Str} {st : Stmt} {C f1 : Addr} {od1 an1 : Option Addr} {sl1 : Array (Option Value)} {oc1 kV1 dc1 pm1 cd1 ct1 : Value} (_ : K.In h) (_ : mg x = some (.ref C))
    (a1 : PySem.W.findIn K (.ref C) "__init__" = some (some (.ref f1))) (i1 : PySem.W.isFn K (.ref f1) = true) (l1 : K.lookup f1 = some ⟨oc1, od1, .func (PySem.W.fnOf "__init__" q (defArgs st) (defBody st) (defScope st) .none kV1 dc1 pm1 an1 cd1 ct1), sl1⟩) (c1 : PySem.W.codeIn K cd1 q = true) (k1 : PySem.W.keepIn K (.ref f1) = true)
    (mk : PySem.W.makesIn K C = true) (kc : PySem.W.keepIn K (.ref C) = true) : ∃ fI fd, Fun K "__init__" q st fI fd ∧ Mk K C fI := ⟨f1, _, fun_mk (st := st) l1 c1 k1, ⟨mk, a1, i1, kc⟩⟩
end KB

/-! B33: a clause that catches errors of several classes; numbers that may be too great. -/
namespace KB
open PySem PySem.Spec PyProof.Rows L2
/-! ## what is raised, of any of these classes, is caught by the first clause -/
def wHits (K : PySem.W.Frag) (S : Addr → Prop) (c : Value) (i : Nat) (ts : Addr → Addr → TS) (D : Ends) : WX := fun cls d σ H =>
  ∃ C, S C ∧ cls = .ref C ∧ d = none ∧ PySem.W.exmOne K (.ref C) c = some true ∧ ∀ a, H a = none → ts C a { nx := fun z H' => D.nx (z.set i none) H', rt := D.rt, bk := fun z H' => D.bk (z.set i none) H', ct := fun z H' => D.ct (z.set i none) H' } (σ.set i (some (.ref a))) H
theorem ps_try_hits {X : Cx} {x n : Str} {c : Value} {i : Nat} {body suite : List Stmt} {b₀ : Stmt} {np pos pos' : Pos} {hds : List ExceptHandler} {tb : WX → TS} {ts : Addr → Addr → TS} {S : Addr → Prop}
    (hs : X.stack = X.env :: X.outer) (hf : X.env.frame = some X.env.locals) (hN : X.N.Nodup) (hi : X.N[i]? = some n) (hln : X.env.kindOf n = some .local) (hc : Names X x c)
    (hb : ∀ (W : WX) (pn : List (Addr × Obj)) (xe : Value → Shared → Prop), Takes (X.tr pn xe) W → PassesOwn (model X.prog X.w) X.A X.env xe → PSs (X.tr pn xe) body (tb W))
    (hsu : ∀ (C : Addr), S C → ∀ (a : Addr) (oe : Obj) (pn : List (Addr × Obj)), Zc (.ref C) none oe → (∃ vs, oe.data = .fields vs) → PSs (X.suite a ((a, oe) :: pn)) (b₀ :: suite) (ts C a)) :
    PS X (.Try body (.ExceptHandler (some (.Name x np)) (some n) (b₀ :: suite) pos' :: hds) [] [] pos) (fun D σ H => tb (wHits X.K S c i ts D) D σ H) := by
  refine ⟨fun pins s σ H D I h => ?_⟩
  have ok := I.ok
  have hfr : X.A.frames = some (X.env :: X.outer) := by rw [ok.frames, hs]
  refine wpAny_Try_except (wpAny_mono ((hb (wHits X.K S c i ts D) (X.pn ++ pins) _ (fun u s' xx => ?take) PassesOwn.looking).run [] s σ H D (Inv.toTry I _) h) (fun f s1 hsp => ?_) fun e s1 he => he)
  case take =>
    obtain ⟨a, B, sI, pins', σ', H', cls, d, rfl, J', nb, up, sky, na, os, ag, C, hC, rfl, rfl, hit, yes⟩ := xx
    have J := Inv.ofTry J' ok
    have sky2 : Sky B (X.env :: X.outer) a (Zc (.ref C) none) X.env.locals s'.heap := hs ▸ sky
    refine Sky.land Zc.steady hfr hf sky2 fun h3 fl3 up3 => ?_
    have J3 := Inv.landed (s' := { heap := h3, gens := s'.gens, drawn := s'.drawn, toks := s'.toks, os := s'.os }) J nb fl3.left (up.trans up3) os ag
    obtain ⟨oe3, vs3, he3, hz3, hd3⟩ := HandSPX.FlyingZ.there fl3
    have far : a ∉ List.filterMap (fun y : Env => y.frame) (X.env :: X.outer) := fun hm => by
      obtain ⟨_, o', e', hnf⟩ := Heap.FunFrames.mem fl3.2.2.1 hm
      rw [he3] at e'
      cases e'
      exact hnf vs3 hd3
    have nL : a ≠ X.env.locals := fun z => far (List.mem_filterMap.mpr ⟨X.env, List.mem_cons_self, by rw [hf, z]⟩)
    have nF : a ∉ X.fs := fun hm => by
      obtain ⟨y, hy, q⟩ := List.mem_filterMap.mp hm
      exact far (List.mem_filterMap.mpr ⟨y, List.mem_cons_of_mem _ hy, q⟩)
    have S3 := Inv.suite J3 he3 hd3 na nL nF
    refine wpAny_handleBy_cons (codeAny_handlers_test ?_) (fun z => nomatch z)
    have LT : PySem.W.Looks (model X.prog X.w) h3 (typeOf (.ref a)) (.ref C) := fun A Q E s k q => wpAny_typeOf_ref (k a oe3 he3) (by rw [hz3.1]; exact q)
    have LM := PySem.W.exm_one J3.kIn LT hit
    have test : ∀ {Q : Value → Shared → Prop} {E : Value → Shared → Prop}, Q c { heap := h3, gens := s'.gens, drawn := s'.drawn, toks := s'.toks, os := s'.os } →
        wpAny (model X.prog X.w) (X.A.mark (some (.ref a))) (eval (.Name x np) X.env) Q E { heap := h3, gens := s'.gens, drawn := s'.drawn, toks := s'.toks, os := s'.os } := fun q => by
      obtain ⟨hg, hdbg, hm | ⟨hm, hv, hnn⟩⟩ := hc
      · exact ld_glob S3 hg hm q hdbg
      · exact ld_blt S3 hg hm hv q hnn hdbg
    refine test (PySem.W.Looks.here LM ?_)
    refine codeAny_handlers_suite_as (HandSPX.lands_againZ fl3 fun h4 fl4 up4 => ?_)
    have J4 := Inv.landed (s' := { heap := h4, gens := s'.gens, drawn := s'.drawn, toks := s'.toks, os := s'.os }) J nb fl4.left ((up.trans up3).trans up4) os ag
    obtain ⟨oe4, vs4, he4, hz4, hd4⟩ := HandSPX.FlyingZ.there fl4
    have S4 := Inv.suite J4 he4 hd4 na nL nF
    refine store_ok (X := X.suite a ((a, oe4) :: (X.pn ++ pins))) S4 hN hi (.inl hln) (v := .ref a) rfl (fun s5 S5 => ?_) (.inr hln)
    refine wpAny_mono ((hsu C hC a oe4 (X.pn ++ pins) hz4 ⟨vs4, hd4⟩).run [] s5 _ H' _ S5 (yes a na)) (fun f s6 hsp => ?_) fun _ _ z => False.elim z
    cases f with
    | next => obtain ⟨σ6, H6, S6, q6⟩ := hsp; exact gone_ok (Inv.unsuite S6 ok) hN hi hln fun s7 J7 => ⟨_, H6, J7, q6⟩
    | brk => obtain ⟨σ6, H6, S6, q6⟩ := hsp; exact gone_ok (Inv.unsuite S6 ok) hN hi hln fun s7 J7 => ⟨_, H6, J7, q6⟩
    | cont => obtain ⟨σ6, H6, S6, q6⟩ := hsp; exact gone_ok (Inv.unsuite S6 ok) hN hi hln fun s7 J7 => ⟨_, H6, J7, q6⟩
    | ret u => obtain ⟨v6, σ6, H6, S6, r6, q6⟩ := hsp; exact gone_ok (Inv.unsuite S6 ok) hN hi hln fun s7 J7 => ⟨v6, _, H6, J7, r6, q6⟩
  · cases f with
    | next => obtain ⟨σ', H', J', q⟩ := hsp; exact wpAny_execs_nil ⟨σ', H', Inv.ofTry J' ok, q⟩
    | brk => obtain ⟨σ', H', J', q⟩ := hsp; exact ⟨σ', H', Inv.ofTry J' ok, q⟩
    | cont => obtain ⟨σ', H', J', q⟩ := hsp; exact ⟨σ', H', Inv.ofTry J' ok, q⟩
    | ret u => obtain ⟨v, σ', H', J', r, q⟩ := hsp; exact ⟨v, σ', H', Inv.ofTry J' ok, r, q⟩
/-- a method's call within a clause: the context's own K is told -/
theorem pe_bmK {X : Cx} {K : PySem.W.Frag} {o e : Expr} {es : List Expr} {to : TE} {t : TA} {name : Str} {apos cpos : Pos} {T id : String} {r : V → List V → Hp → VK → Prop} (hK : X.K = K) (pa : PlainAttrs T) (slot : Slot T name id) (hty : typeOf (.builtin id) = pure (.type "method_descriptor")) (hm : MtR X id r) (ho : PE X o to) (ha : PA X (e :: es) t)
    (hbase : attributeBase o name X.env (eval o X.env) = eval o X.env := by rfl)
    (hfew : ((backTo cpos (starEach (e :: es) X.env)).all (fun x => !x.1) && (backToKw cpos (keywordEach [] X.env)).all (fun x => x.1.isSome)
      && decide ((e :: es).length + ([] : List Keyword).length + (if ([] : List Keyword).isEmpty then 0 else 1) < 30)) = true := by rfl)
    (hline : (apos.endLine == cpos.line) = true := by rfl) (hs : starEach (e :: es) X.env = (false, eval e X.env) :: starEach es X.env := by rfl) (hplain : (backTo cpos (starEach es X.env)).any (·.1) = false := by rfl) :
    PE X (.Call (.Attribute o name apos) (e :: es) [] cpos) (tBM K T r to t) := by
  subst hK
  exact pe_bm pa slot hty hm ho ha hbase hfew hline hs hplain
/-! ## several classes of errors -/
def nth (cs : List Addr) (n : Nat) : Addr := cs.getD n 0
/-- the first n of them: each is of its own class alone, of those up to m -/
def kitsB (K : PySem.W.Frag) (cs : List Addr) (n m : Nat) : Bool := (List.range n).all fun i => (List.range m).all fun j => PySem.W.kitOne K (.ref (nth cs i)) (.ref (nth cs j)) == some (decide (i = j))
def kitB (K : PySem.W.Frag) (cs : List Addr) (n : Nat) (c : Value) : Bool := (List.range n).all fun i => PySem.W.kitOne K (.ref (nth cs i)) c == some true
def exmB (K : PySem.W.Frag) (cs : List Addr) (n : Nat) (c : Value) : Bool := (List.range n).all fun i => PySem.W.exmOne K (.ref (nth cs i)) c == some true
theorem kits_ok {K : PySem.W.Frag} {cs : List Addr} {n m : Nat} (h : kitsB K cs n m = true) (i j : Nat) (hi : i < n) (hj : j < m) : PySem.W.kitOne K (.ref (nth cs i)) (.ref (nth cs j)) = some (decide (i = j)) :=
  eq_of_beq (List.all_eq_true.mp (List.all_eq_true.mp h i (List.mem_range.mpr hi)) j (List.mem_range.mpr hj))
theorem kit_ok {K : PySem.W.Frag} {cs : List Addr} {n : Nat} {c : Value} (h : kitB K cs n c = true) (i : Nat) (hi : i < n) : PySem.W.kitOne K (.ref (nth cs i)) c = some true :=
  eq_of_beq (List.all_eq_true.mp h i (List.mem_range.mpr hi))
theorem exm_ok {K : PySem.W.Frag} {cs : List Addr} {n : Nat} {c : Value} (h : exmB K cs n c = true) (i : Nat) (hi : i < n) : PySem.W.exmOne K (.ref (nth cs i)) c = some true :=
  eq_of_beq (List.all_eq_true.mp h i (List.mem_range.mpr hi))
/-! ## numbers that may be too great: None then -/
def optV (n : Nat) : V := if n < tooGreat then .int (n : Nat) else .non
theorem optV_int {n : Nat} (h : n < tooGreat) : optV n = .int (n : Nat) := if_pos h
theorem optV_non {n : Nat} (h : ¬ n < tooGreat) : optV n = .non := if_neg h
theorem great_lt : 2 ≤ tooGreat := by decide +kernel
theorem great_pow : tooGreat ≤ 2 ^ 140 := Nat.le_of_lt tooGreat_bits
/-- the power of what is too great, or to what is too great -/
theorem pw_great {a b : Nat} (a1 : 1 ≤ a) (a2 : a ≠ 1) (b1 : 1 ≤ b) (h : ¬ a < tooGreat ∨ ¬ b < tooGreat) : ¬ pw a b < tooGreat := by
  unfold pw
  have e : tooGreat ≤ a ^ b := by
    rcases h with h | h
    · have h1 : a ^ 1 ≤ a ^ b := Nat.pow_le_pow_right (by omega) b1
      rw [Nat.pow_one] at h1
      omega
    · have h1 : 2 ^ b ≤ a ^ b := Nat.pow_le_pow_left (by omega) b
      have h2 : b < 2 ^ b := Nat.lt_two_pow_self
      omega
  omega
/-- as many turns as are made show whether the power is too great -/
theorem pw_turns {a b : Nat} (a1 : 1 ≤ a) (a2 : a ≠ 1) : optV (a ^ min b 140) = optV (pw a b) := by
  by_cases h : b ≤ 140
  · rw [Nat.min_eq_left h]
    by_cases c : a ^ b < tooGreat
    · have e : pw a b = a ^ b := by unfold pw; omega
      rw [e]
    · have e : pw a b = tooGreat := by unfold pw; omega
      rw [optV_non c, optV_non (by rw [e]; omega)]
  · rw [Nat.min_eq_right (by omega)]
    have h1 : 2 ^ 140 ≤ a ^ 140 := Nat.pow_le_pow_left (by omega) 140
    have h2 : a ^ 140 ≤ a ^ b := Nat.pow_le_pow_right (by omega) (by omega)
    have g := great_pow
    have e : pw a b = tooGreat := by unfold pw; omega
    rw [optV_non (by omega), optV_non (by rw [e]; omega)]
theorem pow_turn_ok {a j : Nat} (h : a < tooGreat) (hj : j ≤ 140) : CMulW ((a ^ j : Nat) : Int) (a : Int) := by
  have b := tooGreat_bits
  have h1 : a ^ j ≤ (2 ^ 140) ^ j := Nat.pow_le_pow_left (by omega) j
  have h2 : (2 ^ 140) ^ j ≤ (2 ^ 140) ^ 140 := Nat.pow_le_pow_right (by omega) hj
  have h3 : (2 ^ 140) ^ 140 < 2 ^ 19601 := by
    rw [← Nat.pow_mul]
    exact Nat.pow_lt_pow_right (by decide) (by decide)
  refine wide_mul (a := 19601) (b := 140) ?_ ?_ (by decide) (by decide) (by decide)
  · rw [Int.natAbs_natCast]
    exact Nat.lt_of_le_of_lt (Nat.le_trans h1 h2) h3
  · rw [Int.natAbs_natCast]; omega
theorem num_p {s : Nat → Nat} (hs : ∀ i, 1 ≤ s i ∧ s i ≤ 999) (x y : Kd) : optV ((Kd.p x y).num s) = if x.num s < tooGreat ∧ y.num s < tooGreat ∧ x.num s * y.num s < tooGreat then .int ((x.num s * y.num s : Nat) : Int) else .non := by
  have hx := Kd.num_pos (fun i => (hs i).1) x
  have hy := Kd.num_pos (fun i => (hs i).1) y
  have h1 : x.num s * 1 ≤ x.num s * y.num s := Nat.mul_le_mul (Nat.le_refl _) hy
  have h2 : 1 * y.num s ≤ x.num s * y.num s := Nat.mul_le_mul hx (Nat.le_refl _)
  by_cases c : x.num s * y.num s < tooGreat
  · rw [if_pos ⟨by omega, by omega, c⟩]
    have e : (Kd.p x y).num s = x.num s * y.num s := by show min _ _ = _; omega
    rw [e, optV_int c]
  · rw [if_neg fun h => c h.2.2]
    have e : (Kd.p x y).num s = tooGreat := by show min _ _ = _; omega
    rw [e, optV_non (by omega)]
end KB

/-! B34: what are no sizes. -/
namespace KB
open PySem PySem.Spec PyProof.Rows L2
theorem cut_map (ns : List Int) (lo hi : Option Int) : cutV (ns.map V.int) lo hi = ((ns.drop (HT.sIx ns.length 0 lo)).take (HT.sIx ns.length ns.length hi - HT.sIx ns.length 0 lo)).map V.int := by
  unfold cutV
  rw [List.length_map, ← List.map_drop, ← List.map_take]
theorem no_sz_in {a b : List PyData} {d : PyData} (h : szD d = false) : isSz (.list (a ++ [d] ++ b)) = false := by
  simp only [isSz, List.all_append, List.all_cons, List.all_nil, h, Bool.false_and, Bool.and_false]
theorem no_sz_len {a : List PyData} (h : a.length ≠ 8) : isSz (.list a) = false := by
  simp only [isSz]
  rw [beq_eq_false_iff_ne.mpr h, Bool.false_and]
theorem isSz_of {ds : List PyData} : isSz (.list ds) = (ds.length == 8 && ds.all szD) := rfl
/-- the thing with one more is no kind -/
theorem kd_more {k : Kd} {l : List PyData} (h : k.dat = .tuple l) : isKd (.tuple (l ++ [.int 0])) = false := by
  cases k with
  | b i =>
    cases h
    show ((decide (("base" : Str) = "both") || decide (("base" : Str) = "from")) && _) = false
    rw [show (decide (("base" : Str) = "both") || decide (("base" : Str) = "from")) = false from by decide]
    rfl
  | u => cases h; decide
  | p x y => cases h; rfl
  | f x y => cases h; rfl
end KB

/-! B35: a tuple turned about: t[::-1]; the end of a law with tables in which a repr is asked. -/
namespace KB
open PySem PySem.Spec PyProof.Rows L2 HT
/-- t[::-1], a tuple -/
def tRevU (K : PySem.W.Frag) (te : TE) : TE := fun σ H Q => te σ H fun x H1 => ∃ (a : Addr) (xs : List V), x = .ref a ∧ SqT K H1 a xs ∧ ∀ p, H1 p = none → Q (.ref p) (upd H1 p (.tup xs.reverse))
theorem pick_all (l : List Value) : ∀ m, m ≤ l.length → (List.range m).filterMap (fun k => l[k]?) = l.take m
  | 0, _ => by simp
  | m + 1, h => by
    have e : l[m]? = some (l[m]'(by omega)) := List.getElem?_eq_getElem (by omega)
    rw [List.range_succ, List.filterMap_append, pick_all l m (by omega), List.filterMap_cons, e]
    simp only [List.filterMap_nil]
    rw [List.take_add_one, e]
    rfl
theorem pick_back (l : List Value) : ∀ m, m ≤ l.length → (List.range m).filterMap (fun (k : Nat) => l[(((l.length : Nat) : Int) - 1 + (k : Int) * -1).toNat]?) = (List.range m).filterMap fun k => l.reverse[k]?
  | 0, _ => by simp
  | m + 1, h => by
    have e : (((l.length : Nat) : Int) - 1 + (m : Int) * -1).toNat = l.length - 1 - m := by omega
    rw [List.range_succ, List.filterMap_append, List.filterMap_append, pick_back l m (by omega), List.filterMap_cons, List.filterMap_cons]
    rw [e, List.getElem?_reverse (by omega)]
    cases l[l.length - 1 - m]? <;> rfl
theorem vals_app {xs ys : List V} {us ws : List Value} (a : Vals xs us) (b : Vals ys ws) : Vals (xs ++ ys) (us ++ ws) := Vals.append a b
theorem vals_rev : ∀ {xs : List V} {us : List Value}, Vals xs us → Vals xs.reverse us.reverse
  | _, _, .nil => .nil
  | _, _, .cons r v => by
    rw [List.reverse_cons, List.reverse_cons]
    exact vals_app (vals_rev v) (.cons r .nil)
theorem sliceApplied_back {M : Program} {w : World} {A : Around} {E : Value → Shared → Prop} {s : Shared} {sl : Addr} {tk : Tok} {n : Nat} {Q : Int × Int × Nat → Shared → Prop} (hs : s.heap.IsSliceOf sl .none .none (.int (-1) tk))
    (h : Q ((n : Int) - 1, -1, Builtin.Slice.slicePlaces ((n : Int) - 1) (-1) (-1)) s) : wpAny (model M w) A (Builtin.Slice.sliceApplied (.ref sl) (pure (n : Int))) Q E s := by
  obtain ⟨os, hos, hcs, hds⟩ := _root_.id hs
  unfold Builtin.Slice.sliceApplied Builtin.Slice.sliceFields
  refine wpAny_bind (wpAny_bind (wpAny_field hos hds (x := .none) rfl (wpAny_bind (wpAny_field hos hds (x := .none) rfl (wpAny_bind (wpAny_field hos hds (x := .int (-1) tk) rfl (wpAny_pure ?_)))))))
  refine wpAny_bind (slicePart_int ?_)
  show wpAny _ _ (if ((-1 : Int) == 0) = true then _ else _) _ _ s
  rw [if_neg (by decide)]
  refine wpAny_bind (slicePart_none (wpAny_bind (slicePart_none (wpAny_bind (wpAny_pure ?_)))))
  exact wpAny_pure h
theorem places_back (n : Nat) : Builtin.Slice.slicePlaces ((n : Int) - 1) (-1) (-1) = n := by
  unfold Builtin.Slice.slicePlaces
  rw [if_neg (by decide)]
  split
  · have e : (((n : Int) - 1 - -1 - 1) / - -1 + 1) = n := by
      have e2 : - (-1 : Int) = 1 := by decide
      rw [e2, Int.ediv_one]
      omega
    rw [e]
    omega
  · omega
theorem getItem_tuple_back {X : Cx} {t sl : Addr} {its : List Value} {tk : Tok} {s : Shared} {Q : Value → Shared → Prop} (ht : IsTup s.heap t its.toArray) (hs : s.heap.IsSliceOf sl .none .none (.int (-1) tk)) (hsz : its.length ≤ sizeLine)
    (h : Q (.ref s.heap.objs.size) { s with heap := s.heap.push { cls := .type "tuple", data := .seq its.reverse.toArray } }) :
    wpAny (model X.prog X.w) X.A (getItem (.ref t) (.ref sl)) Q X.xe s := by
  obtain ⟨os, hos, hcs, hds⟩ := _root_.id hs
  have hTs : s.TypeIs (.ref sl) "slice" := ⟨os, hos, hcs⟩
  unfold getItem
  try with_reducible refine wpAny_holding ?_
  first | refine wpAny_bind (wpAny_pure ?_) | skip
  refine wpAny_bind (wpAny_sequenceKey ht.typeIs (by decide) ?_)
  refine wpAny_bind (wpAny_callSpecial?_slot (name := Str.ofString "__getitem__") ht.typeIs PyProof.Rows.slot_tuple_getitem
    (wpAny_call_entry PyProof.Rows.slot_tuple_getitem ht.typeIs entry_tuple_getitem ?_ (args_tuple_getitem _ _)))
  show wpAny _ _ (Builtin.Tuple.tupleItemsOf (.ref t) >>= _) _ _ s
  refine wpAny_bind (tupleItemsOf_ ht ?_)
  refine wpAny_bind (wpAny_typeOf hTs ?_)
  rw [if_pos (by decide)]
  refine wpAny_bind (sliceApplied_back (n := its.toArray.size) hs ?_)
  rw [places_back]
  show wpAny _ _ (if (((its.toArray.size : Nat) : Int) - 1 == 0 && (-1 : Int) == 1 && its.toArray.size == its.toArray.size) = true then _ else _) _ _ s
  rw [if_neg (by rw [show ((-1 : Int) == 1) = false from rfl, Bool.and_false, Bool.false_and]; exact Bool.false_ne_true)]
  have hpk : ((List.range its.toArray.size).filterMap fun (k : Nat) => its.toArray[(((its.toArray.size : Nat) : Int) - 1 + (k : Int) * -1).toNat]?) = its.reverse := by
    have e : (fun (k : Nat) => its.toArray[(((its.toArray.size : Nat) : Int) - 1 + (k : Int) * -1).toNat]?) = fun (k : Nat) => its[(((its.length : Nat) : Int) - 1 + (k : Int) * -1).toNat]? := by
      funext k
      rw [List.getElem?_toArray, List.size_toArray]
    rw [e, List.size_toArray, pick_back its its.length (Nat.le_refl _)]
    have e2 := pick_all its.reverse its.length (by rw [List.length_reverse]; exact Nat.le_refl _)
    rw [e2, List.take_of_length_le (by rw [List.length_reverse]; exact Nat.le_refl _)]
  rw [hpk]
  have hq := h
  have hz : sizeOk (.seq its.reverse.toArray) := by
    show _ ≤ sizeLine
    rw [List.size_toArray, List.length_reverse]
    exact hsz
  first
    | exact wpAny_bind (m := Builtin.Tuple.tupleExact _) (wpAny_newObj_type (wpAny_pure ⟨_, rfl, wpAny_pure hq⟩) hz)
    | exact wpAny_bind (m := Builtin.Tuple.tupleExact _) (wpAny_newObj_type (wpAny_bind (wpAny_pure (wpAny_pure ⟨_, rfl, wpAny_pure hq⟩))) hz)
    | exact wpAny_bind (wpAny_bind (m := Builtin.Tuple.tupleExact _) (wpAny_newObj_type (wpAny_pure (wpAny_pure ⟨_, rfl, wpAny_pure hq⟩)) hz))
    | exact wpAny_bind (wpAny_bind (m := Builtin.Tuple.tupleExact _) (wpAny_newObj_type (wpAny_pure ⟨_, rfl, wpAny_pure hq⟩) hz))
theorem pe_revU {X : Cx} {e : Expr} {te : TE} {k : Nat} {p1 p2 p3 pos : Pos} (he : PE X e te) : PE X (.Subscript e (.Slice none none (some (.UnaryOp .USub (.Constant (.int 1) k p1) p2)) p3) pos) (tRevU X.K te) := by
  refine ⟨fun pins s σ H Q I h => Subscript_ (thn (he.run pins s σ H _ I h) ?_)⟩
  rintro v s1 ⟨x, H1, I1, r1, a, xs, rfl, hT, q⟩
  cases r1
  refine wpAny_Slice (thn (po_none.run pins s1 σ H1 (fun o H2 => o = none ∧ H2 = H1) I1 ⟨rfl, rfl⟩) ?_)
  rintro vl s2 ⟨o2, H2, I2, pl, rfl, rfl⟩
  refine thn (po_none.run pins s2 σ H2 (fun o H3 => o = none ∧ H3 = H2) I2 ⟨rfl, rfl⟩) ?_
  rintro vu s3 ⟨o3, H3, I3, pu, rfl, rfl⟩
  have hst : PO X (some (.UnaryOp .USub (.Constant (.int 1) k p1) p2)) _ := po_some (pe_un un_neg pe_int)
  refine thn (hst.run pins s3 σ H3 (fun o H4 => o = some (-1) ∧ H4 = H3) I3 ⟨1, rfl, -1, rfl, rfl, rfl⟩) ?_
  rintro vs s4 ⟨o4, H4, I4, ps, rfl, rfl⟩
  cases pl
  cases pu
  cases ps with
  | int i tk =>
  have I5 := Inv.kept (h' := s4.heap.push { cls := .type "slice", data := .fields #[.none, .none, .int (-1) tk] }) (t' := s4.toks) I4 fun b ob q => Heap.get?_push_of_some _ q
  obtain ⟨its, r, ht, hz⟩ := I5.tuple hT
  have hlen := r.length
  refine tail_any ht.typeIs PyProof.Rows.slot_tuple_getitem.lookup (getItem_tuple_back (tk := tk) ht (Heap.IsSliceOf.new ..) (by omega) ?_) (by with_unfolding_all rfl)
  refine ⟨.ref _, _, I5.laid (o := .tup xs.reverse) (fun b ob q => Heap.get?_push_of_some _ q) (Nat.le_refl _) ?_, rfl, q _ (I5.hok.fresh (Nat.le_refl _))⟩
  exact ⟨by rw [List.length_reverse]; exact hz, _, vals_rev r, IsTup.new _ _⟩
/-! ## t + u, two tuples, each perhaps empty -/
def rCatA (K : PySem.W.Frag) : R2 := fun x y H Q => ∃ a b xs ys, x = .ref a ∧ y = .ref b ∧ SqT K H a xs ∧ SqT K H b ys ∧ xs.length + ys.length ≤ 2000000 ∧ (xs = [] → Q (.ref b) H) ∧ (xs ≠ [] → ys = [] → Q (.ref a) H) ∧ (xs ≠ [] → ys ≠ [] → ∀ p, H p = none → Q (.ref p) (upd H p (.tup (xs ++ ys))))
theorem op_catD {X : Cx} : OpR X (binaryOp .Add) (rCatA X.K) := by
  intro pins s σ H x y v u Q I rx ry h
  obtain ⟨a, b, xs, ys, rfl, rfl, ha, hb, hz, q1, q2, q3⟩ := h
  by_cases c : xs = []
  · subst c
    exact op_catT0 pins s σ H _ _ v u Q I rx ry ⟨a, b, ys, rfl, rfl, ha, hb, q1 rfl⟩
  · exact op_addA pins s σ H _ _ v u Q I rx ry (.inr (.inr (.inr ⟨a, b, xs, ys, rfl, rfl, ha, hb, c, fits (by omega), q2 c, fun d => q3 c d⟩)))
end KB

/-! B36: t == () for any tuple t. -/
namespace KB
open PySem PySem.Spec PyProof.Rows L2
def rEqU (K : PySem.W.Frag) : R2 := fun x y H Q => ∃ a b xs, x = .ref a ∧ y = .ref b ∧ SqT K H a xs ∧ SqT K H b [] ∧ Q (.bl (decide (xs = []))) H
theorem op_eqU {X : Cx} (hu : X.A.units + 200 < cLine) : OpR X (compareOp .Eq) (rEqU X.K) := by
  intro pins s σ H x y v u Q I rx ry ⟨a, b, xs, ex, ey, ha, hb, q⟩
  subst ex ey
  cases rx
  cases ry
  obtain ⟨its, r1, p1, _⟩ := I.tuple ha
  obtain ⟨its2, r2, p2, _⟩ := I.tuple hb
  cases r2
  have hl := r1.length
  refine SeqAt.RcAt.tuples (e := fun _ => true) p1 p2 (by omega) (fun j _ j2 => absurd j2 (by simp)) X.prog X.w X.xe _ ?_
  have e : ((List.range (min its.toArray.size (#[] : Array Value).size)).all (fun _ => true) && its.toArray.size == (#[] : Array Value).size) = decide (xs = []) := by
    rw [List.size_toArray, ← hl]
    cases xs <;> simp
  rw [e]
  exact ⟨.bl _, H, I, rfl, q⟩
end KB

/-! B37: the end of a law that has tables of code and asks for a repr. -/
namespace KB
open PySem PySem.Spec PyProof.Rows L2
section
variable {P : Program} {w : World} {K : PySem.W.Frag} {mg mb : Str → Option Value} {k : Nat} {fa a : Addr} {cs : List (Addr × Addr)} {fd : FuncData} {x : Str} {sp : Sp} {s₁ : Shared} {vs : List Value} {ns : List Int}
/-- the heap before the law's call: of it only the script and the tables may be told -/
structure Pre (K : PySem.W.Frag) (h : Heap) (a : Addr) (cs : List (Addr × Addr)) (vs : List Value) (H : Hp) : Prop where
  tabs : ∀ p ∈ cs, H p.2 = some (.tbl #[])
  shape : ∀ b, H b = none ∨ (∃ p ∈ cs, b = p.2) ∨ ∃ o xs, H b = some (.frz o (.lst xs))
  only : ∀ b, H b ≠ none → b = a ∨ ∃ p ∈ cs, b = p.2
  own : H a ≠ none → K.lookup a = none
theorem Pre.hid {H : Hp} (p : Pre K s₁.heap a cs vs H) (ha : s₁.heap.get? a = some { cls := .type "list", data := .seq vs.toArray }) (hT : ∀ p ∈ cs, s₁.heap.get? p.2 = some { cls := .none, data := .fields #[] }) {b : Addr} {o : Obj} (e : s₁.heap.get? b = some o)
    (n1 : b ≠ a ∨ H a = none) (n2 : ∀ q ∈ cs, b ≠ q.2) : (hidT s₁.heap H).get? b = some o := by
  refine hidT_get e ?_
  cases q : H b with
  | none => rfl
  | some u =>
    rcases p.only b (by rw [q]; simp) with z | ⟨t, ht, z⟩
    · rcases n1 with n | n
      · exact absurd z n
      · rw [z, n] at q; cases q
    · exact absurd z (n2 t ht)
theorem law_callTG
    (KX : K.In s₁.heap) (hns : s₁.heap.Ns mainGlobals mg) (hb : s₁.heap.Ns builtinsNs mb) (hbb : ∀ x : Str, x ≠ "__name__" → mb x = bootBuiltins x) (hlim : s₁.heap.NoLimit) (hg : s₁.gens = #[])
    (hT : ∀ p ∈ cs, s₁.heap.get? p.2 = some { cls := .none, data := .fields #[] }) (nT : ∀ p ∈ cs, K.lookup p.2 = none) (C : ∀ p ∈ cs, PySem.W.CodeHd s₁.heap p.1 p.2)
    (hbm : ∃ (bm : Addr) (ob : Obj), mg "__builtins__" = some (.ref bm) ∧ bm ≠ builtinsNs ∧ s₁.heap.get? bm = some ob ∧ ob.cls = .type "module" ∧ ob.dict = some builtinsNs ∧ ob.data = .plain)
    (ha : s₁.heap.get? a = some { cls := .type "list", data := .seq vs.toArray }) (hi : IntsAre vs ns) (hl : ns.length ≤ sizeLine) (hr : Room k callerA)
    (F : ∀ base : Heap, K.In base → base.Ns mainGlobals mg → (∀ p ∈ cs, LamX.TabB base mg p.1 p.2) → (∀ (b : Addr) (m : Str → Option Value), s₁.heap.Ns b m → base.Ns b m) → FnG P w K mg base CX0 k fa fd [x] sp) (hbind : ∀ (s : Shared) (u : Value), BindsTo s fd ⟨[u], []⟩ [(x, u)])
    (hsp : ∀ H : Hp, (∀ p ∈ cs, H p.2 = some (.tbl #[])) → SqL K H a (ns.map V.int) → sp [.ref a] H (fun v _ => v = .bl true) fun _ _ _ => False) :
    codeAny (model P w) callerA (.call (.ref fa) ⟨[.ref a], []⟩) (fun r s' => r = .ok (.ret (.bool true)) ∧ OldK s₁.heap s'.heap ∧ s'.os = s₁.os ∧ AllBare s'.gens) s₁ := by
  have rv := vals_ints hi
  have lenV : vs.length = ns.length := by have := rv.length; rw [List.length_map] at this; exact this.symm
  have nota : ∀ p ∈ cs, p.2 ≠ a := fun p hp z => by
    have q := hT p hp
    rw [z, ha] at q
    cases q
  have core : ∀ H : Hp, Pre K s₁.heap a cs vs H → SqL K H a (ns.map V.int) → HOk P w H s₁.heap →
      codeAny (model P w) callerA (.call (.ref fa) ⟨[.ref a], []⟩) (fun r s' => r = .ok (.ret (.bool true)) ∧ OldK s₁.heap s'.heap ∧ s'.os = s₁.os ∧ AllBare s'.gens) s₁ := by
    intro H pre hS hok
    -- what is neither a list nor of bare fields
    have keep : ∀ {b : Addr} {o : Obj}, s₁.heap.get? b = some o → (∀ us n, o.data ≠ .seq us n) → o.data ≠ .fields #[] → (hidT s₁.heap H).get? b = some o := fun {b o} e h1 h2 =>
      pre.hid ha hT e (.inl fun z => by rw [z, ha] at e; cases e; exact h1 _ _ rfl) fun t ht z => by rw [z, hT t ht] at e; cases e; exact h2 rfl
    have keepD : ∀ {b : Addr} {o : Obj} {es : Array DictEntry} {ep : Nat}, s₁.heap.get? b = some o → o.data = .dict es ep → (hidT s₁.heap H).get? b = some o := fun e d => keep e (fun us n z => by rw [d] at z; cases z) fun z => by rw [d] at z; cases z
    have nsK : ∀ {b : Addr} {m : Str → Option Value}, s₁.heap.Ns b m → (hidT s₁.heap H).Ns b m := by
      rintro b m ⟨o, es, ep, e, d, r⟩
      exact ⟨o, es, ep, keepD e d, d, r⟩
    have hKb : K.In (hidT s₁.heap H) := by
      intro b o e
      refine pre.hid ha hT (KX b o e) ?_ fun t ht z => by rw [z, nT t ht] at e; cases e
      by_cases z : b = a
      · right
        cases q : H a with
        | none => rfl
        | some u => rw [z, pre.own (by rw [q]; simp)] at e; cases e
      · exact .inl z
    have hM : L2.Mod K mg (hidT s₁.heap H) := ⟨hKb, nsK hns, ⟨mb, nsK hb, hbb⟩, by obtain ⟨mc, h1, h2⟩ := hlim; exact ⟨mc, nsK h1, h2⟩⟩
    have dictNot : ∀ {b : Addr} {m : Str → Option Value}, s₁.heap.Ns b m → ∀ p ∈ cs, b ≠ p.2 := by
      rintro b m ⟨o, es, ep, e, d, _⟩ p hp z
      rw [z, hT p hp] at e
      cases e
      cases d
    have TB : ∀ p ∈ cs, LamX.TabB (hidT s₁.heap H) mg p.1 p.2 := fun p hp => by
      refine ⟨?_, ?_, dictNot hns p hp⟩
      · obtain ⟨o, us, file, tf, flags, tg, inF, text, tt, e1, r1, r2, r3, rest⟩ := C p hp
        refine ⟨o, us, file, tf, flags, tg, inF, text, tt, keep e1 (fun ws n z => by rw [r2] at z; cases z) fun z => ?_, r1, r2, r3, rest⟩
        rw [r2] at z
        cases z
        simp at r3
      · obtain ⟨bm, ob, b1, b2, b3, b4, b5, b6⟩ := hbm
        have nG : bm ≠ mainGlobals := fun z => by
          obtain ⟨o, es, ep, e, d, _⟩ := hns
          rw [z, e] at b3
          cases b3
          rw [d] at b6
          cases b6
        have nP : bm ≠ p.2 := fun z => by
          rw [z, hT p hp] at b3
          cases b3
          cases b6
        exact ⟨bm, ob, b1, b2, nG, nP, keep b3 (fun ws n z => by rw [b6] at z; cases z) (fun z => by rw [b6] at z; cases z), b4, b5, b6⟩
    have e0 : Env0 P w K mg (hidT s₁.heap H) callerA [] s₁ H := ⟨rfl, hM, fun b o e => of_hidT e, Nat.le_of_eq (hidT_size s₁.heap H), trivial, fun b h => absurd h List.not_mem_nil, hok, AllBare.of_eq hg⟩
    refine codeAny_mono ((F _ hKb (nsK hns) TB fun b m h => nsK h).run callerA [] s₁ H ⟨[.ref a], []⟩ [.ref a] [.ref a] (fun v _ => v = .bl true) (fun _ _ _ => False) hr rfl e0 (hbind s₁ (.ref a)) (.cons rfl .nil) (hsp H pre.tabs hS)) fun r s' h => ?_
    cases r with
    | error e => exact absurd h (by intro z; exact z.elim)
    | ok fl =>
      cases fl with
      | next => exact h.elim
      | brk => exact h.elim
      | cont => exact h.elim
      | ret u =>
        obtain ⟨v, H', os, bare, un, hok', r', q⟩ := h
        have q' : v = .bl true := q
        subst q'
        cases r'
        have stays : ∀ b o, (∀ p ∈ cs, b ≠ p.2) → s₁.heap.get? b = some o → s'.heap.get? b = some o := fun b o nb e => by
          cases q2 : H b with
          | none => exact un.keep b o e q2 (fun z => absurd z List.not_mem_nil) List.not_mem_nil
          | some u2 =>
            rcases pre.shape b with z | ⟨p, hp, z⟩ | ⟨ob, xs, z⟩
            · rw [q2] at z; cases z
            · exact absurd z (nb p hp)
            · have z2 := un.frzs b ob (.lst xs) z
              obtain ⟨e1, _⟩ := hok b _ z
              obtain ⟨e2, _⟩ := hok' b _ z2
              rw [e] at e1
              cases e1
              exact e2
        have grown : ∀ p ∈ cs, ∃ more : Array Value, s'.heap.get? p.2 = some { cls := .none, data := .fields more } := fun p hp => by
          obtain ⟨more, z⟩ := un.tbls p.2 #[] (pre.tabs p hp)
          exact ⟨_, hok' p.2 _ z⟩
        refine ⟨rfl, ⟨fun b o e => ?_, fun b o e => ?_⟩, os, bare⟩
        · by_cases hbc : ∃ p ∈ cs, b = p.2
          · obtain ⟨p, hp, rfl⟩ := hbc
            obtain ⟨more, hm⟩ := grown p hp
            rw [hT p hp] at e
            cases e
            exact .inr (.inl ⟨((C p hp).tab (hT p hp)).isCodeTable, rfl, #[], more, rfl, by rw [Array.empty_append]; exact hm⟩)
          · exact .inl (stays b o (fun p hp z => hbc ⟨p, hp, z⟩) e)
        · by_cases hbc : ∃ p ∈ cs, b = p.2
          · obtain ⟨p, hp, rfl⟩ := hbc
            obtain ⟨more, hm⟩ := grown p hp
            exact ⟨_, hm⟩
          · exact ⟨o, stays b o (fun p hp z => hbc ⟨p, hp, z⟩) e⟩
  have dec : ∀ b : Addr, (∃ p ∈ cs, b = p.2) ∨ ∀ p ∈ cs, b ≠ p.2 := fun b => by
    by_cases h : ∃ p ∈ cs, b = p.2
    · exact .inl h
    · exact .inr fun p hp z => h ⟨p, hp, z⟩
  cases hk : K.lookup a with
  | none =>
    have dis : ∀ b, Decidable (∃ p ∈ cs, b = p.2) := fun b => Classical.propDecidable _
    refine core (fun b => if b = a then some (.frz { cls := .type "list", data := .seq vs.toArray } (.lst (ns.map V.int))) else if ∃ p ∈ cs, b = p.2 then some (.tbl #[]) else none)
      ⟨fun p hp => (if_neg (nota p hp)).trans (if_pos ⟨p, hp, rfl⟩), fun b => ?_, fun b z => ?_, fun _ => hk⟩ (.inl (.inr ⟨_, if_pos rfl⟩)) (fun b u z => ?_)
    · by_cases h : b = a
      · exact .inr (.inr ⟨_, _, if_pos h⟩)
      · rcases dec b with h2 | h2
        · exact .inr (.inl h2)
        · exact .inl ((if_neg h).trans (if_neg fun ⟨p, hp, z⟩ => h2 p hp z))
    · by_cases h : b = a
      · exact .inl h
      · rcases dec b with h2 | h2
        · exact .inr h2
        · exact absurd ((if_neg h).trans (if_neg fun ⟨p, hp, z⟩ => h2 p hp z)) z
    · by_cases h : b = a
      · subst h
        have z' := (if_pos rfl).symm.trans z
        cases z'
        exact ⟨ha, by rw [List.length_map]; exact hl, vs, 0, rv, ha⟩
      · rcases dec b with h2 | h2
        · have z' := ((if_neg h).trans (if_pos h2)).symm.trans z
          cases z'
          obtain ⟨p, hp, rfl⟩ := h2
          exact hT p hp
        · have z' := ((if_neg h).trans (if_neg fun ⟨p, hp, z⟩ => h2 p hp z)).symm.trans z
          cases z'
  | some o =>
    have e := KX a o hk
    rw [ha] at e
    cases e
    have dis : ∀ b, Decidable (∃ p ∈ cs, b = p.2) := fun b => Classical.propDecidable _
    have na : ¬ ∃ p ∈ cs, a = p.2 := fun ⟨p, hp, z⟩ => nota p hp z.symm
    refine core (fun b => if ∃ p ∈ cs, b = p.2 then some (.tbl #[]) else none) ⟨fun p hp => if_pos ⟨p, hp, rfl⟩, fun b => ?_, fun b z => ?_, fun z => absurd (if_neg na) z⟩ (.inr ⟨_, vs.toArray, 0, hk, rfl, rfl, rfl, by rw [List.size_toArray, lenV]; exact hl, rv⟩) (fun b u z => ?_)
    · rcases dec b with h2 | h2
      · exact .inr (.inl h2)
      · exact .inl (if_neg fun ⟨p, hp, z⟩ => h2 p hp z)
    · rcases dec b with h2 | h2
      · exact .inr h2
      · exact absurd (if_neg fun ⟨p, hp, z⟩ => h2 p hp z) z
    · rcases dec b with h2 | h2
      · have z' := (if_pos h2).symm.trans z
        cases z'
        obtain ⟨p, hp, rfl⟩ := h2
        exact hT p hp
      · have z' := (if_neg fun ⟨p, hp, z⟩ => h2 p hp z).symm.trans z
        cases z'
end
/-- what is known of the law's promise at the head's heap, where no repr is under way -/
def LawAtG (l : PySem.W.OpenLaw) (w : World) (K : PySem.W.Frag) (k n : Nat) (x : Str) (mg : Str → Option Value) (fa : Addr) (h : Heap) : Prop :=
  ∃ (fd : FuncData) (cs : List (Addr × Addr)) (sp : Sp), (∀ p ∈ cs, h.get? p.2 = some { cls := .none, data := .fields #[] }) ∧ (∀ p ∈ cs, K.lookup p.2 = none) ∧ (∀ p ∈ cs, PySem.W.CodeHd h p.1 p.2) ∧ (∀ (s : Shared) (u : Value), BindsTo s fd ⟨[u], []⟩ [(x, u)]) ∧
    (∀ (H : Hp) (a : Addr) (ns : List Int), ns.length ≤ n → (∀ p ∈ cs, H p.2 = some (.tbl #[])) → SqL K H a (ns.map V.int) → sp [.ref a] H (fun v _ => v = .bl true) fun _ _ _ => False) ∧
    ∀ base : Heap, K.In base → base.Ns mainGlobals mg → (∀ p ∈ cs, LamX.TabB base mg p.1 p.2) → FnG l.prog w K mg base CX0 k fa fd [x] sp
theorem walk_ofTabsG {l : PySem.W.OpenLaw} {n k : Nat} {q : Program} {loose : List Str} {XP : (Str → Option Value) → Heap → Prop} {YP : World → Heap → Prop} {d : DefRec} {K : Params → PySem.W.Frag} {x : Str} (names : List Str)
    (hn : l.most = some n) (hn2 : n ≤ sizeLine) (hdf : d.params.defaults = []) (hr : Room k callerA) (hrec : (names.all fun z => (recsOf q).any fun e => e.name == z) = true) (hY : ∀ (w : World) (h : Heap), YP w h → (K w.params).In h)
    (F : ∀ (w : World) (mg : Str → Option Value) (fa : Addr) (h : Heap), YP w h → (K w.params).In h → h.Ns mainGlobals mg → mg d.name = some (.ref fa) → (∀ z ∈ names, ∀ f, mg z = some (.ref f) → LamX.OwnTab (K w.params) f h) → LawAtG l w (K w.params) k n x mg fa h) :
    PySem.W.WalkO q loose XP YP l.row.toRowW d [] (fun f vs => PySem.call f vs) := by
  refine Att.attach_callB hn hdf fun w s₀ s₁ mg mb fa o pm cd doc a vs ns G Y ho hd hcd hmg hobj hints hlen hbits hg => ?_
  have KX := hY w _ Y
  have own : ∀ z ∈ names, ∀ f, mg z = some (.ref f) → LamX.OwnTab (K w.params) f s₁.heap := fun z hz f hf c P o1 fd1 e dd vs1 sl k1 k2 k3 k4 k5 => by
    obtain ⟨dL, hm, hn1⟩ := List.any_eq_true.mp (List.all_eq_true.mp hrec z hz)
    have hn2 : dL.name = z := beq_iff_eq.mp hn1
    obtain ⟨a', o', fd', c', P', h1, h2, h3, h4, h5, h6⟩ := G.T.tab dL hm
    rw [hn2, hf] at h1
    cases h1
    have g1 := KX _ _ k1
    rw [g1] at h2
    cases h2
    rw [k2] at h3
    cases h3
    rw [k3] at h4
    cases h4
    obtain ⟨⟨oc, vc, e1, _, e3, e4⟩, hP⟩ := h6
    have g2 := KX _ _ k4
    rw [g2] at e1
    cases e1
    cases e3
    rw [k5] at e4
    cases e4
    exact hP
  obtain ⟨fd, cs, sp, hT, nT, C, hb, hsp, hF⟩ := F w mg fa _ Y KX G.T.g hmg own
  exact law_callTG KX G.T.g G.T.b G.T.builtins G.T.nolimit hg hT nT C G.T.bmain hobj hints (Nat.le_trans hlen hn2) hr (fun base a b c _ => hF base a b c) hb (fun H hH hS => hsp H a ns hlen hH hS)
/-- the same, and the dict of modules stands, too -/
def LawAtH (l : PySem.W.OpenLaw) (w : World) (K : PySem.W.Frag) (k n : Nat) (x : Str) (mg : Str → Option Value) (fa : Addr) (h : Heap) : Prop :=
  ∃ (fd : FuncData) (cs : List (Addr × Addr)) (sp : Sp), (∀ p ∈ cs, h.get? p.2 = some { cls := .none, data := .fields #[] }) ∧ (∀ p ∈ cs, K.lookup p.2 = none) ∧ (∀ p ∈ cs, PySem.W.CodeHd h p.1 p.2) ∧ (∀ (s : Shared) (u : Value), BindsTo s fd ⟨[u], []⟩ [(x, u)]) ∧
    (∀ (H : Hp) (a : Addr) (ns : List Int), ns.length ≤ n → (∀ p ∈ cs, H p.2 = some (.tbl #[])) → SqL K H a (ns.map V.int) → sp [.ref a] H (fun v _ => v = .bl true) fun _ _ _ => False) ∧
    ∀ base : Heap, K.In base → base.Ns mainGlobals mg → (∀ p ∈ cs, LamX.TabB base mg p.1 p.2) → (∃ m, base.Ns sysModules m) → FnG l.prog w K mg base CX0 k fa fd [x] sp
theorem walk_ofTabsH {l : PySem.W.OpenLaw} {n k : Nat} {q : Program} {loose : List Str} {XP : (Str → Option Value) → Heap → Prop} {YP : World → Heap → Prop} {d : DefRec} {K : Params → PySem.W.Frag} {x : Str} (names : List Str)
    (hn : l.most = some n) (hn2 : n ≤ sizeLine) (hdf : d.params.defaults = []) (hr : Room k callerA) (hrec : (names.all fun z => (recsOf q).any fun e => e.name == z) = true) (him : importsNone q = true) (hY : ∀ (w : World) (h : Heap), YP w h → (K w.params).In h)
    (F : ∀ (w : World) (mg : Str → Option Value) (fa : Addr) (h : Heap), YP w h → (K w.params).In h → h.Ns mainGlobals mg → mg d.name = some (.ref fa) → (∀ z ∈ names, ∀ f, mg z = some (.ref f) → LamX.OwnTab (K w.params) f h) → LawAtH l w (K w.params) k n x mg fa h) :
    PySem.W.WalkO q loose XP YP l.row.toRowW d [] (fun f vs => PySem.call f vs) := by
  refine Att.attach_callB hn hdf fun w s₀ s₁ mg mb fa o pm cd doc a vs ns G Y ho hd hcd hmg hobj hints hlen hbits hg => ?_
  have KX := hY w _ Y
  have own : ∀ z ∈ names, ∀ f, mg z = some (.ref f) → LamX.OwnTab (K w.params) f s₁.heap := fun z hz f hf c P o1 fd1 e dd vs1 sl k1 k2 k3 k4 k5 => by
    obtain ⟨dL, hm, hn1⟩ := List.any_eq_true.mp (List.all_eq_true.mp hrec z hz)
    have hn2 : dL.name = z := beq_iff_eq.mp hn1
    obtain ⟨a', o', fd', c', P', h1, h2, h3, h4, h5, h6⟩ := G.T.tab dL hm
    rw [hn2, hf] at h1
    cases h1
    have g1 := KX _ _ k1
    rw [g1] at h2
    cases h2
    rw [k2] at h3
    cases h3
    rw [k3] at h4
    cases h4
    obtain ⟨⟨oc, vc, e1, _, e3, e4⟩, hP⟩ := h6
    have g2 := KX _ _ k4
    rw [g2] at e1
    cases e1
    cases e3
    rw [k5] at e4
    cases e4
    exact hP
  obtain ⟨fd, cs, sp, hT, nT, C, hb, hsp, hF⟩ := F w mg fa _ Y KX G.T.g hmg own
  exact law_callTG KX G.T.g G.T.b G.T.builtins G.T.nolimit hg hT nT C G.T.bmain hobj hints (Nat.le_trans hlen hn2) hr (fun base a b c e => hF base a b c (by obtain ⟨m, hm, _⟩ := (G.T.seer him).mods; exact ⟨m, e _ _ hm⟩)) hb (fun H hH hS => hsp H a ns hlen hH hS)
end KB

/-! B38: a lambda handed to a def: all but the one table stays as it is. -/
namespace KB
open PySem PySem.Spec PyProof.Rows L2
/-- all but what stands at P -/
def ButP (P : Addr) (H H' : Hp) : Prop := ∀ b o, b ≠ P → H b = some o → H' b = some o
theorem ButP.refl {P : Addr} (H : Hp) : ButP P H H := fun _ _ _ e => e
section
variable {X : Cx} {pins : List (Addr × Obj)} {σ : L2.St} {H : Hp} {s : Shared}
/-- a lambda is made, its code laid down in the table at P or found there -/
theorem lam_makeP {c P : Addr} {q : Str} {pa : Arguments} {bd : Expr} {sco : Scope} {po : Pos} {F : Value → Shared → Prop} {R : Value → Shared → Prop} (J : Inv X pins σ H s) (B : LamX.TabB X.base X.mg c P) (cde : X.env.code = .ref c) (eq : X.env.qual ++ "<lambda>" = q)
    (tab : LamX.TabS H P q) (nodef : defaultsOf pa X.env = ([], [])) (clo : ∀ y ∈ sco.names, y.2 = .free → ∃ c, X.env.cells.lookup y.1 = some c)
    (go : ∀ (f d : Addr) (pm ct : Value) (G : Hp) (s' : Shared), Inv X pins σ G s' → ButP P H G → LamX.TabS G P q →
      s'.heap.get? f = some (PySem.W.kla_obj "<lambda>" (X.env.qual ++ "<lambda>") pa bd sco (cloFrom X.env.cells sco.names []) pm d ct) → G f = none → f ∉ frs X.stack → G d = some (LamX.CodeO d q) → R (.ref f) s') :
    wpAny (model X.prog X.w) X.A (eval (.Lambda pa bd sco po) X.env) R F s := by
  subst eq
  obtain ⟨ps, hP, tri, among⟩ := tab
  have keepsB : s.heap.BuiltinsAt X.mg P := B.bm.keeps J.bk
  have keepsC := B.code.keeps J.bk
  have keepsG := J.mod.glob.keeps J.bk
  have stands : s.heap.get? P = some { cls := .none, data := .fields ps } := J.hok P _ hP
  have below : P < s.heap.objs.size := Heap.lt_size stands
  have noframe : ∀ f, s.heap.objs.size ≤ f → f ∉ frs X.stack := fun f hf z => by
    rcases List.mem_cons.mp (J.stkSub _ z) with e | e
    · have h1 := J.lt
      rw [← e] at h1
      exact absurd (Nat.lt_of_lt_of_le h1 hf) (Nat.lt_irrefl _)
    · exact J.nofs hf e
  refine PySem.W.kla_eval nodef ?_
  cases at_ : codeAmong po ps.toList with
  | some cv =>
    obtain ⟨d, rfl, hd⟩ := among po cv at_
    refine PySem.W.kla_makeFunctionHit (mg := X.mg) (c := c) (P := P) (ps := ps) (closure_ok clo) J.ok.glob keepsG cde keepsC stands tri at_ keepsB fun ct h2 tk ext more => ?_
    have J2 := J.kept (h' := h2.push (PySem.W.kla_obj "<lambda>" (X.env.qual ++ "<lambda>") pa bd sco (cloFrom X.env.cells sco.names []) ((X.mg "__name__").getD .none) d ct)) (t' := tk) fun b o e => Heap.get?_push_of_some _ (ext b o e)
    exact go _ d _ ct H _ J2 (ButP.refl H) ⟨ps, hP, tri, among⟩ (Heap.get?_push_size _ rfl) (J.hok.fresh more) (noframe _ more) hd
  | none =>
    refine PySem.W.kla_makeFunction (mg := X.mg) (c := c) (P := P) (ps := ps) (closure_ok clo) J.ok.glob keepsG cde keepsC stands tri at_ B.gP keepsB fun d ct h2 tk ext above lower record table => ?_
    obtain ⟨d2, oc, us, t, e2, got, isF, nm⟩ := record
    cases e2
    have sizes : s.heap.objs.size ≤ h2.objs.size := Nat.le_trans above (Nat.le_of_lt lower)
    have fresh : H d = none := J.hok.fresh above
    have J2 := LamX.inv_table (t' := tk) (more := #[rawInt po.line, rawInt po.col, .ref d]) (h' := h2.push (PySem.W.kla_obj "<lambda>" (X.env.qual ++ "<lambda>") pa bd sco (cloFrom X.env.cells sco.names []) ((X.mg "__name__").getD .none) d ct)) J hP
      (fun b o hb e => Heap.get?_push_of_some _ (ext b o hb e)) (Heap.get?_push_of_some _ table) above ⟨oc, us, t, Heap.get?_push_of_some _ got, isF, nm⟩
    have all : ButP P H (upd (upd H P (.tbl (ps ++ #[rawInt po.line, rawInt po.col, .ref d]))) d (LamX.CodeO d (X.env.qual ++ "<lambda>"))) := fun b o n e => (upd_ne (ne_of_none e fresh)).trans ((upd_ne n).trans e)
    have lst : (ps ++ #[rawInt po.line, rawInt po.col, .ref d]).toList = ps.toList ++ [rawInt po.line, rawInt po.col, .ref d] := by simp
    refine go _ d _ ct _ _ J2 all ⟨_, (upd_ne (ne_of_none hP fresh)).trans upd_same, by rw [lst]; exact PySem.TriplesOk_snoc _ _ _ _ tri, fun p' cv hcv => ?_⟩ (Heap.get?_push_size _ rfl) ?_ (noframe _ sizes) upd_same
    · rw [lst] at hcv
      rcases LamX.among_app _ tri hcv with z | z
      · obtain ⟨c0, e1, hc0⟩ := among p' cv z
        have nP : c0 ≠ P := fun z => by rw [z, hP] at hc0; exact LamX.codeO_ne ps (Option.some.inj hc0).symm
        exact ⟨c0, e1, all c0 _ nP hc0⟩
      · exact ⟨d, z, upd_same⟩
    · exact (upd_ne (Nat.ne_of_gt lower)).trans ((upd_ne (Nat.ne_of_gt (Nat.lt_of_lt_of_le below sizes))).trans (J.hok.fresh sizes))
/-- x(lambda: body), where all but the lambda's own table stays -/
def tLamP (P : Addr) (q : Str) (TT : (XK → Hp → VK → Prop) → Hp → VK → Prop) (t : XK → TE) : TE := fun σ H Q => LamX.TabS H P q ∧ ∀ H1, ButP P H H1 → LamX.TabS H1 P q → TT (fun E H' Q' => t E σ H' Q') H1 Q
theorem pe_lamP {TT : (XK → Hp → VK → Prop) → Hp → VK → Prop} {x a : Str} {g c P : Addr} {k : Nat} {pg : Arguments} {bg : List Stmt} {sg : Scope} {dV kV doc pm cdv ct oc : Value} {an od : Option Addr} {osl : Array (Option Value)} {Ng : List Str}
    {pa : Arguments} {bd : Expr} {sco : Scope} {t : XK → TE} {p lpos po : Pos} {q : Str} (known : Gl X x) (there : X.mg x = some (.ref g)) (kept : PySem.W.keepIn X.K (.ref g) = true)
    (look : X.K.lookup g = some ⟨oc, od, .func (PySem.W.fnOf x x pg bg sg dV kV doc pm an cdv ct), osl⟩) (cdg : PySem.W.codeIn X.K cdv x = true) (bnd : L2.Binds X.K (PySem.W.fnOf x x pg bg sg dV kV doc pm an cdv ct) [a] []) (Sg : FnScope Ng [a] sg) (first : Ng[0]? = some a) (vis : Vis sg a)
    (gives : LamX.GivesTo X Ng x sg g cdv bg a (X.env.qual ++ "<lambda>") TT) (eq : X.env.qual ++ "<lambda>" = q)
    (B : LamX.TabB X.base X.mg c P) (cde : X.env.code = .ref c) (room : Room (k + 2) X.A) (L : LamX.LamS X.env.scope sco) (nodef : defaultsOf pa X.env = ([], []))
    (none : ∀ (q : Str) (cl : List (Str × Addr)) (pm cv ctv : Value), bindArgs (PySem.W.kla_fn "<lambda>" q pa bd sco cl pm cv ctv) ⟨[], []⟩ = pure [])
    (inner : ∀ (A : Around) (outer : List Env) (s : Shared) (H : Hp) (E : XK) (f c' : Addr), Room k (A.deeper (LamX.lamEnv X sco s.heap.objs.size f c')) → PE (LamX.lamCx X A outer s H E sco f c') bd (t E))
    (n1 : (x == ("__debug__" : Str)) = false := by decide) (n2 : (a == ("__debug__" : Str)) = false := by decide) (n3 : (a == ("__classdict__" : Str)) = false := by decide) :
    PE X (.Call (.Name x p) [.Lambda pa bd sco lpos] [] po) (tLamP P q TT t) := by
  subst eq
  refine ⟨fun pins s σ H Q J ⟨tab, h⟩ => ?_⟩
  refine wpAny_Call_Name_kw (ld_glob J known there (PySem.W.callWith_K (h₀ := X.base) J.ok.mod.kin kept ?_ (by rfl) (by rfl)) n1)
  show wpAny _ _ (spliced ((false, eval (.Lambda pa bd sco lpos) X.env) :: backTo po (starEach [] X.env))) _ _ s
  refine Calls.spliced_cons (lam_makeP J B cde rfl tab nodef (L.has J.ok) fun f d pm' ctv H1 s' J1 but T1 at_ none_ far code => Calls.spliced_nil ⟨J1.kIn, ?_⟩)
  refine wpAny_call (codeAny_mono (LamX.run_ofS (N := Ng) (ps := [a]) (us := [.ref f]) (vs := [.ref f]) (CX := C8.CX0) (E := C8.E0) (Q := Q) (H := H1) look cdg Sg room J1.env0 (bnd s' [.ref f] J1.kIn rfl) (.cons rfl .nil) rfl fun room' => ?_) fun r s2 hq => ?_)
  · obtain ⟨u, hu, hq⟩ := gives f d s' H1 Q (fun E H' Q' => t E σ H' Q') (fun W pn xe E p1 p2 tk hW => LamX.pe_act (i := 0) J1 L at_ none_ far (none _ _ _ _ _) tk hW room' (fun A outer s H hr2 => inner A outer s H E f d hr2) first vis n2 n3) code (h H1 but T1)
    exact ⟨u, hu.nox, hq⟩
  · cases r with
    | error e => exact (show False from hq).elim
    | ok fl =>
      cases fl with
      | ret u => exact J1.after hq
      | next => exact hq.elim
      | brk => exact hq.elim
      | cont => exact hq.elim
end
end KB

/-! B39: repr of things in which lists stand beside an empty dict: a list that is made here is not the dict of modules. -/
namespace KB
open PySem PySem.Spec PyProof.Rows L2
/-- a list display whose list is not the dict of modules -/
def tLstN (t : TA) : TE := fun σ H Q => t σ H fun xs H1 => xs.length ≤ sizeLine ∧ ∀ p, H1 p = none → p ≠ sysModules → Q (.ref p) (upd H1 p (.lst xs))
theorem pe_lstN {X : Cx} {es : List Expr} {t : TA} {pos : Pos} (h : PA X es t) : PE X (.List es pos) (tLstN t) := by
  refine ⟨fun pins s σ H Q J hq => ?_⟩
  refine wpAny_List_spliced (thn (h.run pos pins s σ H _ J hq) fun us s1 ⟨xs, H1, J1, rv, z, q⟩ => ⟨by rw [← rv.length]; exact z, ?_⟩)
  have far : s1.heap.objs.size ≠ sysModules := Nat.ne_of_gt J1.big
  refine ⟨.ref s1.heap.objs.size, _, J1.laid (o := .lst xs) (t' := s1.toks) (fun b u e => Heap.get?_push_of_some _ e) (Nat.le_refl _) ?_, rfl, q _ (J1.hok.fresh (Nat.le_refl _)) far⟩
  exact ⟨z, us, 0, rv, Heap.get?_push_size _ rfl⟩
mutual
inductive Far (K : PySem.W.Frag) (H : Hp) : PyData → V → Prop
  | plain {d v} : noL d = true → Dq K H v d → Far K H d v
  | lst {a xs ds} : a ≠ sysModules → SqL K H a xs → FarAll K H ds xs → Far K H (.list ds) (.ref a)
  | tup {a xs ds} : SqT K H a xs → FarAll K H ds xs → Far K H (.tuple ds) (.ref a)
inductive FarAll (K : PySem.W.Frag) (H : Hp) : List PyData → List V → Prop
  | nil : FarAll K H [] []
  | cons {d ds v vs} : Far K H d v → FarAll K H ds vs → FarAll K H (d :: ds) (v :: vs)
end
mutual
theorem Far.reads {X : Cx} {pins : List (Addr × Obj)} {σ : L2.St} {H : Hp} {s : Shared} (I : L2.Inv X pins σ H s) : ∀ {d : PyData} {v : V} {u : Value}, Far X.K H d v → L2.RelV v u → ∃ as, Reads s.heap u d as ∧ sysModules ∉ as
  | _, _, _, .plain n h, r => by
    obtain ⟨as, ra, z⟩ := Dq.reads I h r
    exact ⟨as, ra, z n⟩
  | _, _, _, .lst na h hs, r => by
    cases r
    obtain ⟨its, rv, pl, _⟩ := I.list h
    obtain ⟨o, e1, e2, n, e3⟩ := PlainL.isList pl
    obtain ⟨as, ra, z⟩ := FarAll.reads I hs rv
    exact ⟨_, .list e1 e2 e3 (by simpa using ra), by
      intro m
      rcases List.mem_cons.mp m with m | m
      · exact na m.symm
      · exact z m⟩
  | _, _, _, .tup h hs, r => by
    cases r
    obtain ⟨its, rv, it, _⟩ := I.tuple h
    obtain ⟨o, e1, e2, n, e3⟩ := it
    obtain ⟨as, ra, z⟩ := FarAll.reads I hs rv
    exact ⟨_, .tuple e1 e2 e3 (by simpa using ra), z⟩
theorem FarAll.reads {X : Cx} {pins : List (Addr × Obj)} {σ : L2.St} {H : Hp} {s : Shared} (I : L2.Inv X pins σ H s) : ∀ {ds : List PyData} {vs : List V} {us : List Value}, FarAll X.K H ds vs → Vals vs us → ∃ as, ReadsAll s.heap us ds as ∧ sysModules ∉ as
  | _, _, _, .nil, r => by cases r; exact ⟨[], .nil, List.not_mem_nil⟩
  | _, _, _, .cons h hs, r => by
    cases r with
    | cons r1 r2 =>
      obtain ⟨as, ra, za⟩ := Far.reads I h r1
      obtain ⟨bs, rb, zb⟩ := FarAll.reads I hs r2
      refine ⟨_, .cons ra rb, fun m => ?_⟩
      rcases List.mem_append.mp m with m | m
      · exact za m
      · exact zb m
end
/-- repr of a tuple in which no list is the dict of modules -/
def rReprN (K : PySem.W.Frag) : List V → Hp → VK → Prop := fun xs H Q => ∃ a d, xs = [.ref a] ∧ Far K H d (.ref a) ∧ d.showable = true ∧ d.depth ≤ 190 ∧ d.shown.length ≤ sizeLine ∧ Q (.str d.shown) H
theorem call_reprN {X : Cx} (hg : X.A.guards = some []) (hu : X.A.units + 200 < cLine) : CallR X (.builtin "repr") (rReprN X.K) := by
  rintro pins s σ H xs us Q I r ⟨a, d, rfl, hd, hsh, hdp, hlen, q⟩
  cases r with
  | cons rx rr =>
    cases rr
    obtain ⟨as, ra, hs⟩ := Far.reads I hd rx
    cases rx
    exact repr_of_reads' ra hsh (fun _ => hs) hg (by omega) (fun _ _ e => e) (fun h' u tk k => ⟨.str _, H, I.kept k, ⟨_, rfl⟩, q⟩) hlen
end KB

/-! B40: rests of powers: what numbers share no part with a divisor, reckoned as the program does; powers that come again; math.isqrt. -/
namespace KB
open PySem PySem.Spec PyProof.Rows L2
section
variable {X : Cx}
theorem ip_of {op : Operator} {t : TIp} (h : OpR X (inplaceOp op) t) : PIp X op t := fun pins s σ H x y v u Q I rx ry hh => h pins s σ H x y v u Q I rx ry hh
def tNo : TE := fun _ _ _ => False
theorem pe_never {e : Expr} : PE X e tNo := ⟨fun _ _ _ _ _ _ h => h.elim⟩
def rIsq : List V → Hp → VK → Prop := fun vs H Q => ∃ n : Nat, vs = [.int n] ∧ n < 2 ^ 64 ∧ Q (.int ((Float64.isqrt n : Nat) : Int)) H
theorem cr_isqrt : CallR X (.builtin "math.isqrt") rIsq := by
  rintro pins s σ H vs us Q I r ⟨n, rfl, hn, q⟩
  cases r with
  | cons r1 r2 =>
    cases r2
    obtain ⟨t, rfl⟩ := r1
    exact PySem.W.mg_isqrt (by omega) (by omega) ⟨.int _, H, I.tok _, ⟨_, rfl⟩, q⟩
end
/-! ## a divisor without its parts, as the program does it -/
def wo : Nat → Nat → Nat → Nat
  | 0, n, _ => n
  | k + 1, n, p => if n % p = 0 then wo k (n / p) p else n
def tr : Nat → Nat → Nat → Nat → Nat × Nat
  | 0, _, f, l => (f, l)
  | k + 1, p, f, l => if l % p = 0 then (if p * p > wo 64 l p then (f - f / p, wo 64 l p) else tr k (p + 2) (f - f / p) (wo 64 l p)) else tr k (p + 2) f l
def phi0 (n : Nat) : Nat × Nat := if n % 2 = 0 then (n - n / 2, wo 64 n 2) else (n, n)
def phi1 (n : Nat) : Nat × Nat := tr ((min (Float64.isqrt (phi0 n).2) 1000 - 1) / 2) 3 (phi0 n).1 (phi0 n).2
def phiE (x : Nat × Nat) : Nat := if x.2 = 1 then x.1 else x.1 - x.1 / x.2
/-- how many numbers share no part with a divisor, as the program reckons it -/
def phi (n : Nat) : Nat := phiE (phi1 n)
theorem wo_le : ∀ (k n p : Nat), wo k n p ≤ n
  | 0, n, _ => Nat.le_refl _
  | k + 1, n, p => by
    unfold wo
    split
    · exact Nat.le_trans (wo_le k _ p) (Nat.div_le_self _ _)
    · exact Nat.le_refl _
theorem wo_pos : ∀ (k n p : Nat), 1 ≤ n → 1 ≤ wo k n p
  | 0, n, _, h => h
  | k + 1, n, p, h => by
    unfold wo
    split
    · rename_i c
      refine wo_pos k _ p ?_
      have h1 := Nat.div_add_mod n p
      rw [c, Nat.add_zero] at h1
      rcases Nat.eq_zero_or_pos (n / p) with z | z
      · rw [z, Nat.mul_zero] at h1; omega
      · exact z
    · exact h
/-- all powers by a divisor come again with this step, at the latest from it on -/
def Eul (m f : Nat) : Prop := 1 ≤ f ∧ ∀ b : Nat, b ^ f * b ^ f % m = b ^ f % m
theorem mul_mod_l (a b m : Nat) : a % m * b % m = a * b % m := by rw [Nat.mul_mod, Nat.mod_mod, ← Nat.mul_mod]
theorem mul_mod_r (a b m : Nat) : a * (b % m) % m = a * b % m := by rw [Nat.mul_mod, Nat.mod_mod, ← Nat.mul_mod]
theorem Eul.many {m f : Nat} (h : Eul m f) (b : Nat) : ∀ q, 1 ≤ q → b ^ (f * q) % m = b ^ f % m
  | 0, z => by omega
  | 1, _ => by rw [Nat.mul_one]
  | q + 2, _ => by
    have ih := Eul.many h b (q + 1) (by omega)
    have e : f * (q + 2) = f * (q + 1) + f := by rw [Nat.mul_succ]
    rw [e, Nat.pow_add, ← mul_mod_l, ih, mul_mod_l, h.2 b]
theorem Eul.red {m f : Nat} (h : Eul m f) (b e : Nat) (he : f ≤ e) : b ^ e % m = b ^ (e % f + f) % m := by
  have d := Nat.div_add_mod e f
  have q1 : 1 ≤ e / f := Nat.div_pos he h.1
  have k := h.many b (e / f) q1
  calc b ^ e % m = b ^ (f * (e / f) + e % f) % m := by rw [d]
    _ = b ^ (f * (e / f)) * b ^ (e % f) % m := by rw [Nat.pow_add]
    _ = b ^ (f * (e / f)) % m * b ^ (e % f) % m := (mul_mod_l _ _ _).symm
    _ = b ^ f % m * b ^ (e % f) % m := by rw [k]
    _ = b ^ f * b ^ (e % f) % m := mul_mod_l _ _ _
    _ = b ^ (e % f + f) % m := by rw [Nat.pow_add, Nat.mul_comm]
/-- what is known of all divisors up to a bound -/
def DivOk (B : Nat) : Prop := ∀ m, 2 ≤ m → m ≤ B → phi m < m ∧ Eul m (phi m)
def small1 (m : Nat) : Bool := decide (m < 2) || (decide (phi m < m) && decide (1 ≤ phi m) && (List.range m).all fun b => decide (b ^ phi m * b ^ phi m % m = b ^ phi m % m))
theorem small_all : (List.range 61).all small1 = true := by decide +kernel
theorem divOk60 : DivOk 60 := fun m h2 h60 => by
  have h := List.all_eq_true.mp small_all m (List.mem_range.mpr (by omega))
  unfold small1 at h
  rw [decide_eq_false (by omega), Bool.false_or, Bool.and_eq_true, Bool.and_eq_true] at h
  refine ⟨of_decide_eq_true h.1.1, of_decide_eq_true h.1.2, fun b => ?_⟩
  have k := of_decide_eq_true (List.all_eq_true.mp h.2 (b % m) (List.mem_range.mpr (Nat.mod_lt _ (by omega))))
  have e : ∀ f, (b % m) ^ f % m = b ^ f % m := fun f => (Nat.pow_mod b f m).symm
  rw [Nat.mul_mod, e, ← Nat.mul_mod] at k
  exact k
/-! ## the number of worths, however great -/
namespace Kd
def tn (s : Nat → Nat) : Kd → Nat
  | b i => s i
  | u => 1
  | p x y => x.tn s * y.tn s
  | f x y => y.tn s ^ x.tn s
theorem tn_pos {s : Nat → Nat} (hs : ∀ i, 1 ≤ s i) : ∀ k : Kd, 1 ≤ k.tn s
  | b i => hs i
  | u => Nat.le_refl _
  | p x y => Nat.mul_pos (tn_pos hs x) (tn_pos hs y)
  | f x y => Nat.pow_pos (tn_pos hs y)
theorem min_mul {a b T : Nat} (ha : 1 ≤ a) (hb : 1 ≤ b) : min (min a T * min b T) T = min (a * b) T := by
  by_cases c : a ≤ T
  · by_cases d : b ≤ T
    · rw [Nat.min_eq_left c, Nat.min_eq_left d]
    · have h1 : 1 * b ≤ a * b := Nat.mul_le_mul ha (Nat.le_refl _)
      have h2 : 1 * T ≤ min a T * T := by rw [Nat.min_eq_left c]; exact Nat.mul_le_mul ha (Nat.le_refl _)
      rw [Nat.min_eq_right (by omega : T ≤ b), Nat.min_eq_right (by omega), Nat.min_eq_right (by omega)]
  · have h1 : a * 1 ≤ a * b := Nat.mul_le_mul (Nat.le_refl _) hb
    rw [Nat.min_eq_right (by omega : T ≤ a)]
    by_cases z : T = 0
    · rw [z, Nat.min_zero, Nat.min_zero]
    · have h2 : T * 1 ≤ T * min b T := Nat.mul_le_mul (Nat.le_refl _) (by omega)
      rw [Nat.min_eq_right (by omega), Nat.min_eq_right (by omega)]
theorem min_pow {a b T : Nat} (ha : 1 ≤ a) (hb : 1 ≤ b) (hT : 1 ≤ T) : min (min b T ^ min a T) T = min (b ^ a) T := by
  by_cases b1 : b = 1
  · have e : min 1 T = 1 := Nat.min_eq_left hT
    rw [b1, e, Nat.one_pow, Nat.one_pow]
  · have b2 : 2 ≤ b := by omega
    by_cases c : a ≤ T
    · rw [Nat.min_eq_left c]
      by_cases d : b ≤ T
      · rw [Nat.min_eq_left d]
      · have h1 : T ^ 1 ≤ T ^ a := Nat.pow_le_pow_right hT ha
        have h2 : b ^ 1 ≤ b ^ a := Nat.pow_le_pow_right (by omega) ha
        rw [Nat.pow_one] at h1 h2
        rw [Nat.min_eq_right (by omega : T ≤ b), Nat.min_eq_right h1, Nat.min_eq_right (by omega)]
    · have h0 : T < 2 ^ T := Nat.lt_two_pow_self
      have h2 : 2 ^ a ≤ b ^ a := Nat.pow_le_pow_left b2 a
      have h3 : 2 ^ T ≤ 2 ^ a := Nat.pow_le_pow_right (by decide) (by omega)
      rw [Nat.min_eq_right (by omega : T ≤ a), Nat.min_eq_right (by omega : T ≤ b ^ a)]
      by_cases t1 : T = 1
      · rw [t1, Nat.min_eq_right (by omega : 1 ≤ b)]; rfl
      · have h1 : 2 ^ T ≤ min b T ^ T := Nat.pow_le_pow_left (by omega) T
        rw [Nat.min_eq_right (by omega)]
theorem num_tn {s : Nat → Nat} (hs : ∀ i, 1 ≤ s i ∧ s i ≤ 999) : ∀ k : Kd, k.num s = min (k.tn s) tooGreat
  | b i => by
    have h : 999 ≤ tooGreat := by decide +kernel
    show s i = min (s i) tooGreat
    rw [Nat.min_eq_left (Nat.le_trans (hs i).2 h)]
  | u => (Nat.min_eq_left tooGreat_pos).symm
  | p x y => by
    show min (x.num s * y.num s) tooGreat = min (x.tn s * y.tn s) tooGreat
    rw [num_tn hs x, num_tn hs y]
    exact min_mul (tn_pos (fun i => (hs i).1) x) (tn_pos (fun i => (hs i).1) y)
  | f x y => by
    show pw (y.num s) (x.num s) = min (y.tn s ^ x.tn s) tooGreat
    unfold pw
    rw [num_tn hs x, num_tn hs y]
    exact min_pow (tn_pos (fun i => (hs i).1) x) (tn_pos (fun i => (hs i).1) y) tooGreat_pos
end Kd
theorem ixLi {K : PySem.W.Frag} {W : World} {a : Addr} {xs : List V} {j : Nat} {x : V} {H : Hp} {Q : VK} (hT : SqL K H a xs) (hj : xs[j]? = some x) (q : Q x H) : rIxB K W (.ref a) (.int (j : Nat)) H Q := .inl (.inl ⟨a, xs, (j : Int), x, rfl, rfl, hT, atI_nat hj, q⟩)
end KB

/-! B41: repr of any data, where the dict of modules is known to stand: a list is not that dict. -/
namespace KB
open PySem PySem.Spec PyProof.Rows L2
theorem not_mods {X : Cx} {pins : List (Addr × Obj)} {σ : L2.St} {H : Hp} {s : Shared} (I : L2.Inv X pins σ H s) (hM : ∃ m, X.base.Ns sysModules m) {a : Addr} {o : Obj} (e : s.heap.get? a = some o) (d : ∀ es ep, o.data ≠ .dict es ep) : a ≠ sysModules := fun z => by
  obtain ⟨m, o', es, ep, e1, r⟩ := hM
  have e2 := I.bk _ _ e1
  rw [z, e2] at e
  cases e
  exact d _ _ r.1
mutual
theorem Dq.readsM {X : Cx} {pins : List (Addr × Obj)} {σ : L2.St} {H : Hp} {s : Shared} (I : L2.Inv X pins σ H s) (hM : ∃ m, X.base.Ns sysModules m) : ∀ {d : PyData} {v : V} {u : Value}, Dq X.K H v d → L2.RelV v u → ∃ as, Reads s.heap u d as ∧ sysModules ∉ as
  | _, _, _, .non, r => by cases r; exact ⟨[], .none, List.not_mem_nil⟩
  | _, _, _, .bl b, r => by cases r; exact ⟨[], .bool b, List.not_mem_nil⟩
  | _, _, _, .int i, r => by obtain ⟨t, rfl⟩ := r; exact ⟨[], .int i t, List.not_mem_nil⟩
  | _, _, _, .str x, r => by obtain ⟨t, rfl⟩ := r; exact ⟨[], .str x t, List.not_mem_nil⟩
  | _, _, _, .lst h hs, r => by
    cases r
    obtain ⟨its, rv, pl, _⟩ := I.list h
    obtain ⟨o, e1, e2, n, e3⟩ := PlainL.isList pl
    obtain ⟨as, ra, z⟩ := DqAll.readsM I hM hs rv
    have far := not_mods I hM e1 fun es ep q => by rw [e3] at q; cases q
    refine ⟨_, .list e1 e2 e3 (by simpa using ra), fun m => ?_⟩
    rcases List.mem_cons.mp m with m | m
    · exact far m.symm
    · exact z m
  | _, _, _, .tup h hs, r => by
    cases r
    obtain ⟨its, rv, it, _⟩ := I.tuple h
    obtain ⟨o, e1, e2, n, e3⟩ := it
    obtain ⟨as, ra, z⟩ := DqAll.readsM I hM hs rv
    exact ⟨_, .tuple e1 e2 e3 (by simpa using ra), z⟩
  | _, _, _, .dct h, r => by
    cases r
    obtain ⟨ne, o, n, e1, e2, e3⟩ := emptyDict I h
    refine ⟨_, .dict e1 e2 e3 .nil .nil, ?_⟩
    simp only [List.append_nil, List.mem_singleton]
    intro z
    rw [← z] at ne
    simp at ne
theorem DqAll.readsM {X : Cx} {pins : List (Addr × Obj)} {σ : L2.St} {H : Hp} {s : Shared} (I : L2.Inv X pins σ H s) (hM : ∃ m, X.base.Ns sysModules m) : ∀ {ds : List PyData} {vs : List V} {us : List Value}, DqAll X.K H vs ds → Vals vs us → ∃ as, ReadsAll s.heap us ds as ∧ sysModules ∉ as
  | _, _, _, .nil, r => by cases r; exact ⟨[], .nil, List.not_mem_nil⟩
  | _, _, _, .cons h hs, r => by
    cases r with
    | cons r1 r2 =>
      obtain ⟨as, ra, za⟩ := Dq.readsM I hM h r1
      obtain ⟨bs, rb, zb⟩ := DqAll.readsM I hM hs r2
      refine ⟨_, .cons ra rb, fun m => ?_⟩
      rcases List.mem_append.mp m with m | m
      · exact za m
      · exact zb m
end
/-- repr of any data -/
def rReprM (K : PySem.W.Frag) : List V → Hp → VK → Prop := fun xs H Q => ∃ x d, xs = [x] ∧ Dq K H x d ∧ d.showable = true ∧ d.depth ≤ 190 ∧ d.shown.length ≤ sizeLine ∧ Q (.str d.shown) H
theorem call_reprM {X : Cx} (hg : X.A.guards = some []) (hu : X.A.units + 200 < cLine) (hM : ∃ m, X.base.Ns sysModules m) : CallR X (.builtin "repr") (rReprM X.K) := by
  rintro pins s σ H xs us Q I r ⟨x, d, rfl, hd, hsh, hdp, hlen, q⟩
  cases r with
  | cons rx rr =>
    cases rr
    rename_i u
    obtain ⟨as, ra, hs⟩ := Dq.readsM I hM hd rx
    by_cases c : d.hasDict = true
    · have isRef : ∃ a, u = Value.ref a := by
        cases hd <;> first | (cases rx; exact ⟨_, rfl⟩) | (simp [PyData.hasDict] at c)
      obtain ⟨a, rfl⟩ := isRef
      exact repr_of_reads' ra hsh (fun _ => hs) hg (by omega) (fun _ _ e => e) (fun h' u tk k => ⟨.str _, H, I.kept k, ⟨_, rfl⟩, q⟩) hlen
    · exact call_reprD hg hu pins s σ H _ _ Q I (.cons rx .nil) ⟨_, _, rfl, hd, hsh, fun z => absurd z c, hdp, hlen, q⟩
end KB

/-! B42: how many worths, by the form. -/
namespace KB
open PySem PySem.Spec PyProof.Rows L2
namespace Fc
mutual
def tn (s : Nat → Nat) : Fc → Nat
  | mk ws n => s n ^ tns s ws
def tns (s : Nat → Nat) : List Fc → Nat
  | [] => 1
  | f :: r => tn s f * tns s r
end
theorem tns_app (s : Nat → Nat) : ∀ a b : List Fc, tns s (a ++ b) = tns s a * tns s b
  | [], b => by rw [List.nil_append, tns, Nat.one_mul]
  | f :: r, b => by rw [List.cons_append, tns, tns, tns_app s r b, Nat.mul_assoc]
theorem tns_perm (s : Nat → Nat) {a b : List Fc} (p : a.Perm b) : tns s a = tns s b := by
  induction p with
  | nil => rfl
  | cons x _ ih => rw [tns, tns, ih]
  | swap x y l => rw [tns, tns, tns, tns, Nat.mul_left_comm]
  | trans _ _ h1 h2 => exact h1.trans h2
theorem tns_srt (s : Nat → Nat) (l : List Fc) : tns s (srt l) = tns s l := tns_perm s (srt_perm l)
theorem tn_add (s : Nat → Nat) (V : List Fc) : ∀ f : Fc, tn s (add V f) = tn s f ^ tns s V
  | mk ws n => by
    rw [add, tn, tn, tns_srt, tns_app, ← Nat.pow_mul, Nat.mul_comm]
theorem tns_addL (s : Nat → Nat) (V : List Fc) : ∀ l : List Fc, tns s (l.map (add V)) = tns s l ^ tns s V
  | [] => by rw [List.map_nil, tns, Nat.one_pow]
  | f :: r => by rw [List.map_cons, tns, tns, tn_add, tns_addL s V r, Nat.mul_pow]
end Fc
theorem Kd.tn_form_eq (s : Nat → Nat) : ∀ k : Kd, k.tn s = Fc.tns s k.form
  | .b i => by rw [Kd.form_b, Fc.tns, Fc.tns, Fc.tn, Fc.tns, Nat.pow_one, Nat.mul_one]; rfl
  | .u => by rw [Kd.form_u, Fc.tns]; rfl
  | .p x y => by
    rw [Kd.form_p, Fc.tns_srt, Fc.tns_app, ← Kd.tn_form_eq s x, ← Kd.tn_form_eq s y]; rfl
  | .f x y => by
    rw [Kd.form_f, Fc.tns_srt, Fc.tns_addL, ← Kd.tn_form_eq s x, ← Kd.tn_form_eq s y]; rfl
/-- alike kinds have as many worths -/
theorem Kd.tn_form {a b : Kd} (h : a.form = b.form) (s : Nat → Nat) : a.tn s = b.tn s := by rw [Kd.tn_form_eq, Kd.tn_form_eq, h]
end KB

/-! B43: powers come again by the number of what shares no part: for all divisors up to a million, as the program reckons it. -/
namespace KB
open PySem
namespace Nt
/-! ## products -/
def lp : List Nat → Nat
  | [] => 1
  | a :: r => a * lp r
theorem lp_app : ∀ a b : List Nat, lp (a ++ b) = lp a * lp b
  | [], b => by rw [List.nil_append, lp, Nat.one_mul]
  | x :: r, b => by rw [List.cons_append, lp, lp, lp_app r b, Nat.mul_assoc]
theorem lp_perm {a b : List Nat} (p : a.Perm b) : lp a = lp b := by
  induction p with
  | nil => rfl
  | cons x _ ih => rw [lp, lp, ih]
  | swap x y l => rw [lp, lp, lp, lp, Nat.mul_left_comm]
  | trans _ _ h1 h2 => exact h1.trans h2
def pr (f : Nat → Nat) : Nat → Nat
  | 0 => 1
  | n + 1 => pr f n * f n
theorem lp_range (f : Nat → Nat) : ∀ n, lp ((List.range n).map f) = pr f n
  | 0 => rfl
  | n + 1 => by
    rw [List.range_succ, List.map_append, lp_app, lp_range f n]
    show pr f n * (f n * 1) = pr f n * f n
    rw [Nat.mul_one]
/-! ## pigeons -/
theorem len_le : ∀ (l D : List Nat), l.Nodup → (∀ x ∈ l, x ∈ D) → l.length ≤ D.length
  | [], _, _, _ => Nat.zero_le _
  | x :: l, D, hn, hs => by
    have h := List.nodup_cons.mp hn
    have ih := len_le l (D.erase x) h.2 fun y hy => (List.mem_erase_of_ne (fun (e : y = x) => h.1 (e ▸ hy))).mpr (hs y (List.mem_cons_of_mem _ hy))
    have hx : x ∈ D := hs x List.mem_cons_self
    have e := List.length_erase_of_mem hx
    have := List.length_pos_of_mem hx
    rw [List.length_cons]; omega
theorem nodup_map {f : Nat → Nat} : ∀ {l : List Nat}, l.Nodup → (∀ i ∈ l, ∀ j ∈ l, f i = f j → i = j) → (l.map f).Nodup
  | [], _, _ => List.nodup_nil
  | x :: r, hn, hi => by
    have h := List.nodup_cons.mp hn
    refine List.nodup_cons.mpr ⟨fun hm => ?_, nodup_map h.2 fun i a j b e => hi i (List.mem_cons_of_mem _ a) j (List.mem_cons_of_mem _ b) e⟩
    obtain ⟨y, hy, e⟩ := List.mem_map.mp hm
    have := hi y (List.mem_cons_of_mem _ hy) x List.mem_cons_self e
    exact h.1 (this ▸ hy)
theorem perm_of : ∀ {l D : List Nat}, l.Nodup → D.Nodup → (∀ x ∈ l, x ∈ D) → D.length ≤ l.length → l.Perm D
  | [], D, _, _, _, h => by
    have e : D = [] := List.length_eq_zero_iff.mp (Nat.le_zero.mp h)
    rw [e]
  | x :: l, D, hn, hD, hs, hl => by
    have h := List.nodup_cons.mp hn
    have hx : x ∈ D := hs x List.mem_cons_self
    have e := List.length_erase_of_mem hx
    have ih := perm_of (l := l) (D := D.erase x) h.2 (hD.erase x) (fun y hy => (List.mem_erase_of_ne (fun (e : y = x) => h.1 (e ▸ hy))).mpr (hs y (List.mem_cons_of_mem _ hy))) (by rw [List.length_cons] at hl; omega)
    exact (ih.cons x).trans (List.perm_cons_erase hx).symm
/-! ## primes -/
def Pm (p : Nat) : Prop := 2 ≤ p ∧ ∀ d, d ∣ p → d = 1 ∨ d = p
theorem Pm.cop {p b : Nat} (hp : Pm p) (h : ¬ p ∣ b) : Nat.Coprime p b := by
  rcases hp.2 (Nat.gcd p b) (Nat.gcd_dvd_left p b) with e | e
  · exact e
  · exact absurd (e ▸ Nat.gcd_dvd_right p b) h
theorem Pm.dvd_mul {p a b : Nat} (hp : Pm p) (h : p ∣ a * b) : p ∣ a ∨ p ∣ b := by
  by_cases c : p ∣ a
  · exact .inl c
  · exact .inr ((hp.cop c).dvd_of_dvd_mul_left h)
/-- rests are the same -/
theorem dvd_of_mod {a b m : Nat} (h : a % m = b % m) (hl : b ≤ a) : m ∣ a - b := Nat.dvd_of_mod_eq_zero (Nat.sub_mod_eq_zero_of_mod_eq h)
theorem mod_of_dvd {a b m : Nat} (h : m ∣ a - b) (hl : b ≤ a) : a % m = b % m := by
  obtain ⟨t, e⟩ := h
  have e2 : a = b + m * t := by omega
  rw [e2, Nat.add_mul_mod_self_left]
theorem dvd_rel {a b m : Nat} (h : a % m = b % m) (hm : m ∣ b) : m ∣ a := Nat.dvd_of_mod_eq_zero (by rw [h]; exact Nat.mod_eq_zero_of_dvd hm)
theorem pr_mod {f g : Nat → Nat} {m : Nat} (h : ∀ i, f i % m = g i % m) : ∀ n, pr f n % m = pr g n % m
  | 0 => rfl
  | n + 1 => by
    show pr f n * f n % m = pr g n * g n % m
    rw [Nat.mul_mod, pr_mod h n, h n, ← Nat.mul_mod]
theorem pr_const (b : Nat) (f : Nat → Nat) : ∀ n, pr (fun i => b * f i) n = b ^ n * pr f n
  | 0 => by rw [pr, pr, Nat.pow_zero]
  | n + 1 => by
    rw [pr, pr, pr_const b f n, Nat.pow_succ]
    rw [Nat.mul_assoc, Nat.mul_assoc, Nat.mul_left_comm (pr f n)]
theorem Pm.fact {p : Nat} (hp : Pm p) : ∀ n, n < p → ¬ p ∣ pr (fun i => i + 1) n
  | 0, _, h => by
    have h1 : p ∣ 1 := h
    have := Nat.le_of_dvd (by decide) h1
    have := hp.1
    omega
  | n + 1, hn, h => by
    rcases hp.dvd_mul h with h | h
    · exact fact hp n (by omega) h
    · have h1 : p ∣ n + 1 := h
      have := Nat.le_of_dvd (by omega) h1
      omega
/-- Fermat -/
theorem Pm.fermat {p b : Nat} (hp : Pm p) (hb : ¬ p ∣ b) : b ^ (p - 1) % p = 1 % p := by
  have p2 := hp.1
  have nz : ∀ i, i < p - 1 → b * (i + 1) % p ≠ 0 := fun i hi z => by
    rcases hp.dvd_mul (Nat.dvd_of_mod_eq_zero z) with h | h
    · exact hb h
    · have := Nat.le_of_dvd (by omega) h
      omega
  have pm : ((List.range (p - 1)).map fun i => b * (i + 1) % p - 1).Perm (List.range (p - 1)) := by
    refine perm_of (nodup_map List.nodup_range fun i hi j hj e => ?_) List.nodup_range (fun x hx => ?_) (by rw [List.length_map]; exact Nat.le_refl _)
    · have hi := List.mem_range.mp hi
      have hj := List.mem_range.mp hj
      have ni := nz i hi
      have nj := nz j hj
      have e2 : b * (i + 1) % p = b * (j + 1) % p := by omega
      have key : ∀ i j, i ≤ j → j < p - 1 → b * (i + 1) % p = b * (j + 1) % p → i = j := fun i j hij hj e => by
        have hle : b * (i + 1) ≤ b * (j + 1) := Nat.mul_le_mul (Nat.le_refl _) (by omega)
        have d := dvd_of_mod e.symm hle
        rw [← Nat.mul_sub] at d
        rcases hp.dvd_mul d with h | h
        · exact absurd h hb
        · by_cases z : j + 1 - (i + 1) = 0
          · omega
          · have := Nat.le_of_dvd (by omega) h
            omega
      rcases Nat.le_total i j with h | h
      · exact key i j h hj e2
      · exact (key j i h hi e2.symm).symm
    · obtain ⟨i, hi, rfl⟩ := List.mem_map.mp hx
      have := Nat.mod_lt (b * (i + 1)) (by omega : 0 < p)
      have := nz i (List.mem_range.mp hi)
      exact List.mem_range.mpr (by omega)
  have pm2 := pm.map (fun x => x + 1)
  have e1 := lp_perm pm2
  rw [List.map_map, lp_range, lp_range] at e1
  have e2 : pr ((fun x => x + 1) ∘ fun i => b * (i + 1) % p - 1) (p - 1) % p = pr (fun i => b * (i + 1)) (p - 1) % p := by
    have : ∀ n, n ≤ p - 1 → pr ((fun x => x + 1) ∘ fun i => b * (i + 1) % p - 1) n % p = pr (fun i => b * (i + 1)) n % p := fun n => by
      induction n with
      | zero => intro _; rfl
      | succ n ih =>
        intro hn
        have ih := ih (by omega)
        have z := nz n (by omega)
        have e : (b * (n + 1) % p - 1) + 1 = b * (n + 1) % p := by omega
        show pr _ n * ((b * (n + 1) % p - 1) + 1) % p = pr _ n * (b * (n + 1)) % p
        rw [e, Nat.mul_mod, ih, Nat.mod_mod, ← Nat.mul_mod]
    exact this _ (Nat.le_refl _)
  rw [e1, pr_const] at e2
  have hF := hp.fact (p - 1) (by omega)
  generalize pr (fun i => i + 1) (p - 1) = F at e2 hF
  have b1 : 1 ≤ b := by
    rcases Nat.eq_zero_or_pos b with z | z
    · exact absurd (z ▸ Nat.dvd_zero p) hb
    · exact z
  have x1 : 1 ≤ b ^ (p - 1) := Nat.pow_pos b1
  have hle : F ≤ b ^ (p - 1) * F := by
    have := Nat.mul_le_mul x1 (Nat.le_refl F)
    omega
  have d := dvd_of_mod e2.symm hle
  have e3 : b ^ (p - 1) * F - F = (b ^ (p - 1) - 1) * F := by rw [Nat.sub_mul, Nat.one_mul]
  rw [e3] at d
  rcases hp.dvd_mul d with h | h
  · exact mod_of_dvd h x1
  · exact absurd h hF
/-! ## powers of a prime -/
def gs (x : Nat) : Nat → Nat
  | 0 => 0
  | n + 1 => gs x n + x ^ n
theorem gs_eq {x : Nat} (h : 1 ≤ x) : ∀ n, (x - 1) * gs x n + 1 = x ^ n
  | 0 => by rw [gs, Nat.mul_zero, Nat.pow_zero]
  | n + 1 => by
    have ih := gs_eq h n
    obtain ⟨y, rfl⟩ : ∃ y, x = y + 1 := ⟨x - 1, by omega⟩
    have e : y + 1 - 1 = y := by omega
    rw [e] at ih ⊢
    rw [gs, Nat.mul_add, Nat.pow_succ, Nat.mul_add, Nat.mul_one, Nat.mul_comm ((y + 1) ^ n) y]
    omega
theorem gs_mod {x p : Nat} (h : x % p = 1 % p) : ∀ n, gs x n % p = n % p
  | 0 => rfl
  | n + 1 => by
    rw [gs, Nat.add_mod, gs_mod h n, Nat.pow_mod, h, ← Nat.pow_mod, Nat.one_pow, ← Nat.add_mod]
theorem lift {p x j : Nat} (hx : 1 ≤ x) (hj : 1 ≤ j) (h : p ^ j ∣ x - 1) : p ^ (j + 1) ∣ x ^ p - 1 := by
  have hp : p ∣ x - 1 := Nat.dvd_trans (by obtain ⟨i, rfl⟩ : ∃ i, j = i + 1 := ⟨j - 1, by omega⟩; exact ⟨p ^ i, by rw [Nat.pow_succ, Nat.mul_comm]⟩) h
  have e := gs_eq hx p
  have g : p ∣ gs x p := dvd_rel (gs_mod (mod_of_dvd hp hx) p) (Nat.dvd_refl p)
  have e2 : x ^ p - 1 = (x - 1) * gs x p := by omega
  rw [e2, Nat.pow_succ]
  exact Nat.mul_dvd_mul h g
theorem Pm.unit {p b : Nat} (hp : Pm p) (hb : ¬ p ∣ b) : ∀ k, p ^ (k + 1) ∣ b ^ (p ^ k * (p - 1)) - 1 := by
  have b1 : 1 ≤ b := by
    rcases Nat.eq_zero_or_pos b with z | z
    · exact absurd (z ▸ Nat.dvd_zero p) hb
    · exact z
  intro k
  induction k with
  | zero =>
    rw [Nat.pow_zero, Nat.one_mul, Nat.zero_add, Nat.pow_one]
    exact dvd_of_mod (hp.fermat hb) (Nat.pow_pos b1)
  | succ k ih =>
    have e : p ^ (k + 1) * (p - 1) = p ^ k * (p - 1) * p := by rw [Nat.pow_succ, Nat.mul_assoc, Nat.mul_assoc, Nat.mul_comm p]
    rw [e, Nat.pow_mul]
    exact lift (Nat.pow_pos b1) (by omega) ih
theorem le_pow (p : Nat) (hp : 2 ≤ p) : ∀ k, k + 1 ≤ p ^ k
  | 0 => Nat.le_refl _
  | k + 1 => by
    have ih := le_pow p hp k
    have h : p ^ k * 2 ≤ p ^ k * p := Nat.mul_le_mul (Nat.le_refl _) hp
    rw [Nat.pow_succ]; omega
theorem Pm.eul {p : Nat} (hp : Pm p) (k : Nat) : Eul (p ^ (k + 1)) (p ^ k * (p - 1)) := by
  have p2 := hp.1
  have pk : 1 ≤ p ^ k := Nat.pow_pos (by omega)
  have f1 : p ^ k * 1 ≤ p ^ k * (p - 1) := Nat.mul_le_mul (Nat.le_refl _) (by omega)
  refine ⟨by omega, fun b => ?_⟩
  by_cases hb : p ∣ b
  · have hk := le_pow p p2 k
    have d : p ^ (k + 1) ∣ b ^ (p ^ k * (p - 1)) := by
      obtain ⟨c, rfl⟩ := hb
      rw [Nat.mul_pow]
      exact Nat.dvd_trans (Nat.pow_dvd_pow p (by omega)) (Nat.dvd_mul_right _ _)
    rw [Nat.mod_eq_zero_of_dvd d, Nat.mod_eq_zero_of_dvd (Nat.dvd_trans d (Nat.dvd_mul_right _ _))]
  · have h := hp.unit hb k
    have x1 : 1 ≤ b ^ (p ^ k * (p - 1)) := by
      refine Nat.pow_pos ?_
      rcases Nat.eq_zero_or_pos b with z | z
      · exact absurd (z ▸ Nat.dvd_zero p) hb
      · exact z
    have e := mod_of_dvd h x1
    rw [Nat.mul_mod, e, ← Nat.mul_mod, Nat.one_mul]
/-! ## products of divisors -/
theorem eul_times {m f t : Nat} (h : Eul m f) (ht : 1 ≤ t) : Eul m (f * t) := by
  refine ⟨Nat.mul_pos h.1 ht, fun b => ?_⟩
  rw [← Nat.pow_add, ← Nat.mul_add, h.many b (t + t) (by omega), h.many b t ht]
theorem eul_one : Eul 1 1 := ⟨Nat.le_refl _, fun b => by rw [Nat.mod_one, Nat.mod_one]⟩
theorem le_sq (x : Nat) : x ≤ x * x := by
  rcases Nat.eq_zero_or_pos x with z | z
  · rw [z]; exact Nat.zero_le _
  · have := Nat.mul_le_mul z (Nat.le_refl x)
    omega
theorem eul_mul {m n f g : Nat} (c : Nat.Coprime m n) (h1 : Eul m f) (h2 : Eul n g) : Eul (m * n) (f * g) := by
  have a := eul_times h1 h2.1
  have b := eul_times h2 h1.1
  rw [Nat.mul_comm g f] at b
  refine ⟨a.1, fun x => ?_⟩
  have d1 := dvd_of_mod (a.2 x) (le_sq _)
  have d2 := dvd_of_mod (b.2 x) (le_sq _)
  exact mod_of_dvd (Nat.Coprime.mul_dvd_of_dvd_of_dvd c d1 d2) (le_sq _)
/-! ## a prime taken out -/
theorem wo_is {p : Nat} (hp : 2 ≤ p) : ∀ (k n : Nat), 1 ≤ n → n < 2 ^ k → ∃ j, n = p ^ j * wo k n p ∧ ¬ p ∣ wo k n p
  | 0, n, h1, h2 => by rw [Nat.pow_zero] at h2; omega
  | k + 1, n, h1, h2 => by
    by_cases c : n % p = 0
    · have e : wo (k + 1) n p = wo k (n / p) p := if_pos c
      have dm := Nat.div_add_mod n p
      rw [c, Nat.add_zero] at dm
      have n1 : 1 ≤ n / p := by
        rcases Nat.eq_zero_or_pos (n / p) with z | z
        · rw [z, Nat.mul_zero] at dm; omega
        · exact z
      have h3 : 2 * (n / p) ≤ p * (n / p) := Nat.mul_le_mul hp (Nat.le_refl _)
      rw [Nat.pow_succ] at h2
      obtain ⟨j, ej, nj⟩ := wo_is hp k (n / p) n1 (by omega)
      rw [e]
      refine ⟨j + 1, ?_, nj⟩
      rw [Nat.pow_succ, Nat.mul_comm (p ^ j) p, Nat.mul_assoc, ← ej, dm]
    · have e : wo (k + 1) n p = n := if_neg c
      rw [e]
      exact ⟨0, by rw [Nat.pow_zero, Nat.one_mul], fun d => c (Nat.mod_eq_zero_of_dvd d)⟩
/-- what is done, and what is left -/
structure St (n f l : Nat) : Prop where
  ex : ∃ m g, n = m * l ∧ Nat.Coprime m l ∧ f = g * l ∧ Eul m g ∧ g ≤ m ∧ (m ≠ 1 → g < m)
  l1 : 1 ≤ l
theorem St.step {n f l p : Nat} (h : St n f l) (hp : Pm p) (d : p ∣ l) (hl : l < 2 ^ 64) : St n (f - f / p) (wo 64 l p) ∧ ¬ p ∣ wo 64 l p ∧ wo 64 l p ∣ l := by
  obtain ⟨m, g, en, cp, ef, eu, gm, gs⟩ := h.ex
  have l1 := h.l1
  have p2 := hp.1
  obtain ⟨j, ej, nj⟩ := wo_is p2 64 l l1 hl
  have w1 := wo_pos 64 l p l1
  generalize wo 64 l p = l' at ej nj w1 ⊢
  obtain ⟨i, rfl⟩ : ∃ i, j = i + 1 := by
    cases j with
    | zero => rw [Nat.pow_zero, Nat.one_mul] at ej; exact absurd (ej ▸ d) nj
    | succ i => exact ⟨i, rfl⟩
  have c2 : Nat.Coprime (p ^ (i + 1)) l' := Nat.Coprime.pow_left _ (hp.cop nj)
  have cm : Nat.Coprime m (p ^ (i + 1) * l') := ej ▸ cp
  have c3 : Nat.Coprime m (p ^ (i + 1)) := Nat.Coprime.coprime_mul_right_right cm
  have c4 : Nat.Coprime m l' := Nat.Coprime.coprime_mul_left_right cm
  refine ⟨⟨⟨m * p ^ (i + 1), g * (p ^ i * (p - 1)), ?_, Nat.Coprime.mul_left c4 c2, ?_, eul_mul c3 eu (hp.eul i), ?_, ?_⟩, w1⟩, nj, ⟨p ^ (i + 1), by rw [Nat.mul_comm]; exact ej⟩⟩
  · rw [en, ej, Nat.mul_assoc]
  · have e1 : f = p * (g * p ^ i * l') := by
      rw [ef, ej, Nat.pow_succ]
      rw [Nat.mul_comm (p ^ i) p, Nat.mul_assoc p, Nat.mul_left_comm g p, Nat.mul_assoc g]
    have e2 : f / p = g * p ^ i * l' := by rw [e1]; exact Nat.mul_div_cancel_left _ (by omega)
    rw [e2]
    have e3 : f - g * p ^ i * l' = (p - 1) * (g * p ^ i * l') := by rw [e1, Nat.sub_mul, Nat.one_mul]
    rw [e3, ← Nat.mul_assoc g, Nat.mul_comm (g * p ^ i) (p - 1), Nat.mul_assoc (p - 1)]
  · have h1 : p ^ i * (p - 1) ≤ p ^ (i + 1) := by rw [Nat.pow_succ]; exact Nat.mul_le_mul (Nat.le_refl _) (by omega)
    exact Nat.mul_le_mul gm h1
  · intro _
    have pi : 1 ≤ p ^ i := Nat.pow_pos (by omega)
    have h1 : p ^ i * (p - 1) < p ^ (i + 1) := by
      rw [Nat.pow_succ]
      exact Nat.mul_lt_mul_of_pos_left (by omega) pi
    have m1 : 1 ≤ m := Nat.le_trans eu.1 gm
    exact Nat.lt_of_le_of_lt (Nat.mul_le_mul gm (Nat.le_refl _)) (Nat.mul_lt_mul_of_pos_left h1 m1)
/-- nothing below divides -/
def NoDiv (b l : Nat) : Prop := ∀ d, 2 ≤ d → d < b → ¬ d ∣ l
theorem NoDiv.prime {b l : Nat} (h : NoDiv b l) (l1 : 1 ≤ l) (hb : l < b * b) : l = 1 ∨ Pm l := by
  by_cases c : l = 1
  · exact .inl c
  · refine .inr ⟨by omega, fun d hd => ?_⟩
    obtain ⟨e, he⟩ := hd
    by_cases d1 : d = 1
    · exact .inl d1
    · right
      have d0 : d ≠ 0 := fun z => by rw [z, Nat.zero_mul] at he; omega
      have e0 : e ≠ 0 := fun z => by rw [z, Nat.mul_zero] at he; omega
      by_cases e1 : e = 1
      · rw [he, e1, Nat.mul_one]
      · exfalso
        by_cases x : d < b
        · exact h d (by omega) x ⟨e, he⟩
        · by_cases y : e < b
          · exact h e (by omega) y ⟨d, by rw [he, Nat.mul_comm]⟩
          · have := Nat.mul_le_mul (Nat.le_of_not_lt x) (Nat.le_of_not_lt y)
            omega
theorem tr_ok {n : Nat} : ∀ (k p f l : Nat), St n f l → l < 2 ^ 64 → 3 ≤ p → p % 2 = 1 → NoDiv p l → l < (p + 2 * k) * (p + 2 * k) → St n (tr k p f l).1 (tr k p f l).2 ∧ ((tr k p f l).2 = 1 ∨ Pm (tr k p f l).2)
  | 0, p, f, l, h, _, _, _, nd, hb => ⟨h, nd.prime h.l1 hb⟩
  | k + 1, p, f, l, h, hl, p3, po, nd, hb => by
    have eb : p + 2 * (k + 1) = p + 2 + 2 * k := by omega
    rw [eb] at hb
    have odd : ¬ 2 ∣ l := nd 2 (Nat.le_refl _) (by omega)
    have up : ∀ l', l' ∣ l → ¬ p ∣ l' → NoDiv (p + 2) l' := fun l' hd np d d2 dp hdd => by
      by_cases a : d < p
      · exact nd d d2 a (Nat.dvd_trans hdd hd)
      · by_cases b : d = p
        · exact np (b ▸ hdd)
        · have ed : d = p + 1 := by omega
          exact odd (Nat.dvd_trans (Nat.dvd_of_mod_eq_zero (by omega : (p + 1) % 2 = 0)) (Nat.dvd_trans (ed ▸ hdd) hd))
    by_cases c : l % p = 0
    · have pd : p ∣ l := Nat.dvd_of_mod_eq_zero c
      have pp : Pm p := ⟨by omega, fun d hd => by
        by_cases d1 : d = 1
        · exact .inl d1
        · right
          have dle := Nat.le_of_dvd (by omega) hd
          have d0 : d ≠ 0 := fun z => by rw [z] at hd; have := Nat.eq_zero_of_zero_dvd hd; omega
          by_cases x : d < p
          · exact absurd (Nat.dvd_trans hd pd) (nd d (by omega) x)
          · omega⟩
      obtain ⟨s, np, dv⟩ := h.step pp pd hl
      have wl := wo_le 64 l p
      by_cases x : p * p > wo 64 l p
      · have e : tr (k + 1) p f l = (f - f / p, wo 64 l p) := (if_pos c).trans (if_pos x)
        rw [e]
        exact ⟨s, NoDiv.prime (b := p) (fun d d2 dp hdd => nd d d2 dp (Nat.dvd_trans hdd dv)) s.l1 x⟩
      · have e : tr (k + 1) p f l = tr k (p + 2) (f - f / p) (wo 64 l p) := (if_pos c).trans (if_neg x)
        rw [e]
        exact tr_ok k (p + 2) _ _ s (by omega) (by omega) (by omega) (up _ dv np) (by omega)
    · have e : tr (k + 1) p f l = tr k (p + 2) f l := if_neg c
      rw [e]
      exact tr_ok k (p + 2) _ _ h hl (by omega) (by omega) (up l (Nat.dvd_refl _) fun d => c (Nat.mod_eq_zero_of_dvd d)) hb
/-! ## roots -/
theorem mean {n x s : Nat} (hx : 0 < x) (hs : s * s ≤ n) : s ≤ (x + n / x) / 2 := by
  refine (Nat.le_div_iff_mul_le (by decide)).mpr ?_
  have z := Nat.zero_le (n / x)
  by_cases c : 2 * s ≤ x
  · omega
  · have h : 2 * s - x ≤ n / x := by
      refine (Nat.le_div_iff_mul_le hx).mpr (Nat.le_trans ?_ hs)
      rcases Nat.le_total s x with h | h
      · obtain ⟨d, rfl⟩ : ∃ d, x = s + d := ⟨x - s, by omega⟩
        have e : 2 * s - (s + d) = s - d := by omega
        rw [e]
        have hd : d ≤ s := by omega
        obtain ⟨t, rfl⟩ : ∃ t, s = t + d := ⟨s - d, by omega⟩
        have e2 : t + d - d = t := by omega
        rw [e2]
        have h1 : t * (t + d + d) = t * t + t * d + t * d := by rw [Nat.mul_add, Nat.mul_add]
        have h2 : (t + d) * (t + d) = t * t + t * d + (t * d + d * d) := by rw [Nat.mul_add, Nat.add_mul, Nat.add_mul, Nat.mul_comm d t]
        rw [h1, h2]; omega
      · obtain ⟨d, rfl⟩ : ∃ d, s = x + d := ⟨s - x, by omega⟩
        have e : 2 * (x + d) - x = x + d + d := by omega
        rw [e]
        have h1 : (x + d + d) * x = x * x + x * d + x * d := by rw [Nat.add_mul, Nat.add_mul, Nat.mul_comm d x]
        have h2 : (x + d) * (x + d) = x * x + x * d + (x * d + d * d) := by rw [Nat.mul_add, Nat.add_mul, Nat.add_mul, Nat.mul_comm d x]
        rw [h1, h2]; omega
    omega
theorem below8 {n s : Nat} (h : n < 8) (hs : s * s ≤ n) : s ≤ Float64.rootBelow8 n := by
  have s3 : s < 3 := by
    by_cases c : s < 3
    · exact c
    · have := Nat.mul_le_mul (Nat.le_of_not_lt c) (Nat.le_of_not_lt c); omega
  unfold Float64.rootBelow8
  have hs0 : s = 0 ∨ s = 1 ∨ s = 2 := by omega
  rcases hs0 with rfl | rfl | rfl
  · exact Nat.zero_le _
  · by_cases a : n = 0
    · omega
    · rw [if_neg (by simpa using a)]
      split <;> omega
  · rw [if_neg (by simp; omega), if_neg (by omega)]
    exact Nat.le_refl _
theorem step_ge {n s y : Nat} (m : s ≤ y) (hs : s * s ≤ n) : s ≤ if y * y > n then y - 1 else y := by
  split
  · rename_i c
    by_cases e : s = y
    · rw [← e] at c; omega
    · omega
  · exact m
theorem root_ge {s : Nat} : ∀ (k n : Nat), n < 2 ^ (k + 1) → s * s ≤ n → s ≤ Float64.rootByHalves k n
  | 0, n, h, hs => below8 (by rw [Nat.zero_add, Nat.pow_one] at h; omega) hs
  | k + 1, n, _, hs => by
    unfold Float64.rootByHalves
    split
    · rename_i c; exact below8 c hs
    · have hx : 0 < (Float64.rootByHalves k (n / 4 ^ ((n.log2 + 1) / 4)) + 1) * 2 ^ ((n.log2 + 1) / 4) := Nat.mul_pos (by omega) (Nat.pow_pos (by decide))
      have m := mean hx hs
      exact step_ge m hs
theorem isqrt_ge {n s : Nat} (hs : s * s ≤ n) : s ≤ Float64.isqrt n := root_ge _ n Nat.lt_log2_self hs
/-- all divisors up to a million -/
theorem divOkM : DivOk 1000000 := fun n h2 hM => by
  have s0 : St n (phi0 n).1 (phi0 n).2 ∧ ¬ 2 ∣ (phi0 n).2 ∧ (phi0 n).2 ≤ n := by
    have base : St n n n := ⟨⟨1, 1, by rw [Nat.one_mul], Nat.coprime_one_left n, by rw [Nat.one_mul], eul_one, Nat.le_refl _, fun z => absurd rfl z⟩, by omega⟩
    unfold phi0
    split
    · rename_i c
      have two : Pm 2 := by
        refine ⟨Nat.le_refl _, fun d hd => ?_⟩
        have := Nat.le_of_dvd (by decide) hd
        have d0 : d ≠ 0 := fun z => by
          rw [z] at hd
          have := Nat.eq_zero_of_zero_dvd hd
          omega
        omega
      obtain ⟨a, b, _⟩ := base.step two (Nat.dvd_of_mod_eq_zero c) (by omega)
      exact ⟨a, b, wo_le _ _ _⟩
    · rename_i c
      exact ⟨base, fun d => c (Nat.mod_eq_zero_of_dvd d), Nat.le_refl _⟩
  obtain ⟨s0, odd, le⟩ := s0
  have lim : (phi0 n).2 < (3 + 2 * ((min (Float64.isqrt (phi0 n).2) 1000 - 1) / 2)) * (3 + 2 * ((min (Float64.isqrt (phi0 n).2) 1000 - 1) / 2)) := by
    generalize hq : 3 + 2 * ((min (Float64.isqrt (phi0 n).2) 1000 - 1) / 2) = q
    have q1 : min (Float64.isqrt (phi0 n).2) 1000 + 1 ≤ q := by omega
    refine Nat.lt_of_not_le fun h => ?_
    have h1 := isqrt_ge h
    by_cases c : Float64.isqrt (phi0 n).2 ≤ 1000
    · omega
    · have h3 := Nat.mul_le_mul (by omega : 1001 ≤ q) (by omega : 1001 ≤ q)
      omega
  have nd3 : NoDiv 3 (phi0 n).2 := fun d d2 d3 => by
    have e : d = 2 := by omega
    rw [e]; exact odd
  have t := tr_ok (n := n) ((min (Float64.isqrt (phi0 n).2) 1000 - 1) / 2) 3 (phi0 n).1 (phi0 n).2 s0 (by omega) (Nat.le_refl _) rfl nd3 lim
  have ep : tr ((min (Float64.isqrt (phi0 n).2) 1000 - 1) / 2) 3 (phi0 n).1 (phi0 n).2 = phi1 n := rfl
  rw [ep] at t
  obtain ⟨s1, pm⟩ := t
  obtain ⟨m, g, en, cp, ef, eu, gm, gs⟩ := s1.ex
  unfold phi phiE
  by_cases c : (phi1 n).2 = 1
  · rw [if_pos c]
    rw [c, Nat.mul_one] at en ef
    rw [ef]
    have nm : m ≠ 1 := by omega
    exact ⟨by have := gs nm; omega, by rw [en]; exact eu⟩
  · rw [if_neg c]
    have pm := pm.resolve_left c
    have l2 := pm.1
    generalize (phi1 n).2 = l at *
    have e1 : (phi1 n).1 / l = g := by rw [ef]; exact Nat.mul_div_cancel _ (by omega)
    have e2 : (phi1 n).1 - (phi1 n).1 / l = g * (l - 1) := by rw [e1, ef, Nat.mul_sub, Nat.mul_one]
    rw [e2]
    have eu2 := eul_mul cp eu (by have := pm.eul 0; rw [Nat.zero_add, Nat.pow_one, Nat.pow_zero, Nat.one_mul] at this; exact this)
    refine ⟨?_, by rw [en]; exact eu2⟩
    have m1 : 1 ≤ m := Nat.le_trans eu.1 gm
    rw [en]
    exact Nat.lt_of_le_of_lt (Nat.mul_le_mul gm (Nat.le_refl _)) (Nat.mul_lt_mul_of_pos_left (by omega) m1)
end Nt
end KB

/-! B44: primes and parts of divisors up to 10 ** 9, as the program looks for them. -/
namespace KB
open PySem
namespace Nt
theorem isqrt_le (n : Nat) : Float64.isqrt n * Float64.isqrt n ≤ n := (Float64.isqrt_spec n).1
theorem isqrt_lt (n : Nat) : n < (Float64.isqrt n + 1) * (Float64.isqrt n + 1) := (Float64.isqrt_spec n).2
theorem lt_of_sq {a b : Nat} (h : a * a < b * b) : a < b := by
  by_cases c : a < b
  · exact c
  · have := Nat.mul_le_mul (Nat.le_of_not_lt c) (Nat.le_of_not_lt c)
    omega
theorem isqrt_sq (f : Nat) : Float64.isqrt (f * f) = f := by
  have h1 := isqrt_ge (n := f * f) (s := f) (Nat.le_refl _)
  have h2 : Float64.isqrt (f * f) ≤ f := by
    by_cases c : Float64.isqrt (f * f) ≤ f
    · exact c
    · have h := isqrt_le (f * f)
      have := Nat.mul_le_mul (show f + 1 ≤ Float64.isqrt (f * f) by omega) (show f + 1 ≤ Float64.isqrt (f * f) by omega)
      have e : (f + 1) * (f + 1) = f * f + 2 * f + 1 := by rw [Nat.add_mul, Nat.mul_add]; omega
      omega
  omega
/-- by a prime, only one and one less than it are roots of one -/
theorem Pm.root1 {p x : Nat} (hp : Pm p) (hx : x < p) (h : x * x % p = 1) : x = 1 ∨ x = p - 1 := by
  have p2 := hp.1
  have x0 : x ≠ 0 := fun z => by rw [z] at h; simp at h
  obtain ⟨y, rfl⟩ : ∃ y, x = y + 1 := ⟨x - 1, by omega⟩
  have h1 : p ∣ (y + 1) * (y + 1) - 1 := dvd_of_mod (by rw [h, Nat.mod_eq_of_lt (by omega)]) (Nat.mul_pos (by omega) (by omega))
  have e : (y + 1) * (y + 1) - 1 = y * (y + 2) := by
    have a1 : (y + 1) * (y + 1) = y * y + 2 * y + 1 := by rw [Nat.add_mul, Nat.mul_add]; omega
    have a2 : y * (y + 2) = y * y + y * 2 := Nat.mul_add _ _ _
    omega
  rw [e] at h1
  rcases hp.dvd_mul h1 with d | d
  · left
    by_cases c : y = 0
    · omega
    · have := Nat.le_of_dvd (by omega) d; omega
  · right
    have := Nat.le_of_dvd (by omega) d; omega
theorem comp_split {n : Nat} (h2 : 2 ≤ n) (h : ¬ Pm n) : ∃ p q, n = p * q ∧ 2 ≤ p ∧ p ≤ q := by
  have : ∃ d, d ∣ n ∧ d ≠ 1 ∧ d ≠ n := Classical.byContradiction fun c => h ⟨h2, fun d hd => by
    by_cases a : d = 1
    · exact .inl a
    · by_cases b : d = n
      · exact .inr b
      · exact absurd ⟨d, hd, a, b⟩ c⟩
  obtain ⟨d, ⟨e, rfl⟩, d1, dn⟩ := this
  have d0 : d ≠ 0 := fun z => by rw [z, Nat.zero_mul] at h2; omega
  have e0 : e ≠ 0 := fun z => by rw [z, Nat.mul_zero] at h2; omega
  have e1 : e ≠ 1 := fun z => dn (by rw [z, Nat.mul_one])
  rcases Nat.le_total d e with c | c
  · exact ⟨d, e, rfl, by omega, c⟩
  · exact ⟨e, d, Nat.mul_comm _ _, by omega, c⟩
/-- more pigeons than boxes -/
theorem box {f : Nat → Nat} {B : Nat} (h : ∀ i, i ≤ B → f i < B) : ∃ i j, i < j ∧ j ≤ B ∧ f i = f j := by
  refine Classical.byContradiction fun c => ?_
  have inj : ∀ i ∈ List.range (B + 1), ∀ j ∈ List.range (B + 1), f i = f j → i = j := fun i hi j hj e => by
    have hi := List.mem_range.mp hi
    have hj := List.mem_range.mp hj
    rcases Nat.lt_trichotomy i j with l | l | l
    · exact absurd ⟨i, j, l, by omega, e⟩ c
    · exact l
    · exact absurd ⟨j, i, l, by omega, e.symm⟩ c
  have := len_le ((List.range (B + 1)).map f) (List.range B) (nodup_map List.nodup_range inj) fun x hx => by
    obtain ⟨i, hi, rfl⟩ := List.mem_map.mp hx
    exact List.mem_range.mpr (h i (by have := List.mem_range.mp hi; omega))
  rw [List.length_map, List.length_range, List.length_range] at this
  omega
theorem near {p q w : Nat} (hp : 1 ≤ p) (pq : p ≤ q) (hw : 1 ≤ w) : ∃ v u, 1 ≤ v ∧ 1 ≤ u ∧ v ≤ (p - 1) / w + 1 ∧ v * q < u * p + w ∧ u * p < v * q + w := by
  obtain ⟨i, j, hij, hj, e⟩ := box (f := fun i => i * q % p / w) (B := (p - 1) / w + 1) fun i _ => by
    have h1 : i * q % p ≤ p - 1 := by have := Nat.mod_lt (i * q) (show 0 < p by omega); omega
    have := Nat.div_le_div_right (c := w) h1
    show i * q % p / w < _
    omega
  have e : i * q % p / w = j * q % p / w := e
  obtain ⟨v, rfl⟩ : ∃ v, j = i + v := ⟨j - i, by omega⟩
  have d1 := Nat.div_add_mod (i * q) p
  have d2 := Nat.div_add_mod ((i + v) * q) p
  have m2 := Nat.mod_lt ((i + v) * q) (show 0 < p by omega)
  have mono := Nat.div_le_div_right (c := p) (Nat.mul_le_mul_right q (show i ≤ i + v by omega))
  have b1 := Nat.div_add_mod (i * q % p) w
  have b2 := Nat.div_add_mod ((i + v) * q % p) w
  have c1 := Nat.mod_lt (i * q % p) (show 0 < w by omega)
  have c2 := Nat.mod_lt ((i + v) * q % p) (show 0 < w by omega)
  rw [e] at b1
  have ev : (i + v) * q = i * q + v * q := Nat.add_mul _ _ _
  have v1 : 1 * q ≤ v * q := Nat.mul_le_mul_right q (by omega)
  generalize i * q % p = r1 at *
  generalize (i + v) * q % p = r2 at *
  generalize hA1 : i * q / p = A1 at *
  generalize hA2 : (i + v) * q / p = A2 at *
  generalize w * (r2 / w) = z at *
  obtain ⟨u, rfl⟩ : ∃ u, A2 = A1 + u := ⟨A2 - A1, by omega⟩
  have eu : p * (A1 + u) = p * A1 + p * u := Nat.mul_add _ _ _
  have u1 : 1 ≤ u := by
    by_cases c : u = 0
    · have e0 : p * u = 0 := by rw [c, Nat.mul_zero]
      omega
    · omega
  refine ⟨v, u, by omega, u1, by omega, ?_, ?_⟩
  · rw [Nat.mul_comm u p]; omega
  · rw [Nat.mul_comm u p]; omega
theorem two_sq {x y d : Nat} (h : y = x + d ∨ x = y + d) (hd : (d + 1) * (d + 1) < 4 * y) : (x + y) * (x + y) = 4 * (x * y) + d * d ∧ (x + y - 1) * (x + y - 1) < 4 * (x * y) := by
  have ed : (d + 1) * (d + 1) = d * d + 2 * d + 1 := by rw [Nat.add_mul, Nat.mul_add]; omega
  have key : (x + y) * (x + y) = 4 * (x * y) + d * d := by
    rcases h with rfl | rfl
    · have a1 : x * (x + d) = x * x + x * d := Nat.mul_add _ _ _
      have a2 : (x + (x + d)) * (x + (x + d)) = (x * x + (x * x + x * d)) + (x * x + (x * x + x * d)) + (x * d + (x * d + d * d)) := by
        rw [Nat.add_mul, Nat.mul_add, a1, Nat.add_mul x d, Nat.mul_add, a1, Nat.mul_add d, Nat.mul_add d, Nat.mul_comm d x]; omega
      rw [a1]; omega
    · have a1 : (y + d) * y = y * y + y * d := by rw [Nat.add_mul, Nat.mul_comm d y]
      have a2 : (y + d + y) * (y + d + y) = 4 * (y * y) + 4 * (y * d) + d * d := by
        rw [Nat.add_mul, Nat.add_mul, Nat.mul_add, Nat.mul_add, Nat.mul_add d, Nat.mul_add d, Nat.mul_comm d y]; omega
      rw [a1]; omega
  refine ⟨key, ?_⟩
  obtain ⟨m, hm⟩ : ∃ m, x + y = m + 1 := ⟨x + y - 1, by omega⟩
  rw [hm] at key ⊢
  have em : (m + 1) * (m + 1) = m * m + 2 * m + 1 := by rw [Nat.add_mul, Nat.mul_add]; omega
  have es : m + 1 - 1 = m := by omega
  rw [es]
  omega
theorem k_le {p q u v w : Nat} (hp : 1001 ≤ p) (pq : p ≤ q) (hn : p * q ≤ 1000000000) (w1 : w * w < 4 * q) (w2 : 4 * q ≤ (w + 1) * (w + 1)) (hv : v ≤ (p - 1) / w + 1) (hu : u * p < v * q + w) : u * v ≤ 15000 := by
  have qM : q ≤ 1000000 := by
    by_cases c : q ≤ 1000000
    · exact c
    · have := Nat.mul_le_mul hp (show 1000001 ≤ q by omega); omega
  have wM : w < 2000 := lt_of_sq (by omega)
  have w63 : 63 ≤ w := by
    by_cases c : 63 ≤ w
    · exact c
    · have := Nat.mul_le_mul (show w + 1 ≤ 63 by omega) (show w + 1 ≤ 63 by omega); omega
  have pM : p < 31623 := lt_of_sq (by have := Nat.mul_le_mul_left p pq; omega)
  have q1000 : q ≤ 1000 * p := by
    by_cases c : q ≤ 1000 * p
    · exact c
    · have h1 := Nat.mul_le_mul_left p (show 1000 * p + 1 ≤ q by omega)
      have h2 := Nat.mul_le_mul hp hp
      have e : p * (1000 * p + 1) = 1000 * (p * p) + p := by rw [Nat.mul_add, Nat.mul_one, Nat.mul_left_comm]
      omega
  have ew : (w + 1) * (w + 1) = w * w + 2 * w + 1 := by rw [Nat.add_mul, Nat.mul_add]; omega
  have w63' := Nat.mul_le_mul_right w w63
  have q13 : 50 * q ≤ 13 * (w * w) := by omega
  by_cases v0 : v = 0
  · rw [v0, Nat.mul_zero]; omega
  obtain ⟨b, rfl⟩ : ∃ b, v = b + 1 := ⟨v - 1, by omega⟩
  have bw : b * w ≤ p := by
    have h1 := Nat.mul_le_mul_right w (show b ≤ (p - 1) / w by omega)
    have h2 := Nat.div_mul_le_self (p - 1) w
    omega
  -- the three parts
  have t1 : 50 * (b * b * q) ≤ 411099 * p := by
    have h1 := Nat.mul_le_mul_left (b * b) q13
    have e1 : b * b * (50 * q) = 50 * (b * b * q) := Nat.mul_left_comm _ _ _
    have e2 : b * b * (13 * (w * w)) = 13 * (b * w * (b * w)) := by
      rw [Nat.mul_left_comm]; congr 1; ac_rfl
    have h2 := Nat.mul_le_mul bw bw
    have h3 := Nat.mul_le_mul_right p (show p ≤ 31623 by omega)
    omega
  have t2 : 50 * (b * q) ≤ 26000 * p := by
    have h1 := Nat.mul_le_mul_left b q13
    have e1 : b * (50 * q) = 50 * (b * q) := Nat.mul_left_comm _ _ _
    have e2 : b * (13 * (w * w)) = 13 * (b * w * w) := by rw [Nat.mul_left_comm, Nat.mul_assoc]
    have h2 := Nat.mul_le_mul bw (show w ≤ 2000 by omega)
    omega
  have ev : (b + 1) * ((b + 1) * q) = b * b * q + 2 * (b * q) + q := by
    have : (b + 1) * q = b * q + q := by rw [Nat.add_mul, Nat.one_mul]
    rw [this, Nat.add_mul, Nat.one_mul, Nat.mul_add, ← Nat.mul_assoc]; omega
  have evw : (b + 1) * w = b * w + w := by rw [Nat.add_mul, Nat.one_mul]
  have h := Nat.mul_le_mul_left (b + 1) (Nat.le_of_lt hu)
  have e3 : (b + 1) * (u * p) = u * (b + 1) * p := by ac_rfl
  have e4 : (b + 1) * ((b + 1) * q + w) = (b + 1) * ((b + 1) * q) + (b + 1) * w := Nat.mul_add _ _ _
  rw [e3, e4, ev, evw] at h
  have hh : u * (b + 1) * p ≤ 15000 * p := by omega
  exact Nat.le_of_mul_le_mul_right hh (by omega)
theorem exists_hit {n : Nat} (h6 : 1000000 ≤ n) (h9 : n ≤ 1000000000) (np : ¬ Pm n) (nd : NoDiv 1001 n) : ∃ k m f, 1 ≤ k ∧ k ≤ 15000 ∧ m * m = 4 * k * n + f * f ∧ 1 ≤ m ∧ (m - 1) * (m - 1) < 4 * k * n := by
  obtain ⟨p, q, rfl, p2, pq⟩ := comp_split (by omega) np
  have hp : 1001 ≤ p := by
    by_cases c : 1001 ≤ p
    · exact c
    · exact absurd (Nat.dvd_mul_right p q) (nd p p2 (by omega))
  have w1 := isqrt_le (4 * q - 1)
  have w2 := isqrt_lt (4 * q - 1)
  generalize Float64.isqrt (4 * q - 1) = w at w1 w2
  have w0 : 1 ≤ w := by
    by_cases c : 1 ≤ w
    · exact c
    · have : w = 0 := by omega
      rw [this] at w2; omega
  obtain ⟨v, u, v1, u1, vb, h1, h2⟩ := near (p := p) (q := q) (w := w) (by omega) pq w0
  have kb := k_le hp pq h9 (by omega) (by omega) vb h2
  have vq := Nat.mul_le_mul_right q v1
  obtain ⟨d, hd, dw⟩ : ∃ d, (v * q = u * p + d ∨ u * p = v * q + d) ∧ d < w := by
    rcases Nat.le_total (u * p) (v * q) with c | c
    · exact ⟨v * q - u * p, .inl (by omega), by omega⟩
    · exact ⟨u * p - v * q, .inr (by omega), by omega⟩
  have ww := Nat.mul_le_mul (show d + 1 ≤ w by omega) (show d + 1 ≤ w by omega)
  have s := two_sq hd (by omega)
  have e : 4 * (u * v) * (p * q) = 4 * (u * p * (v * q)) := by
    rw [Nat.mul_assoc]; congr 1; ac_rfl
  refine ⟨u * v, u * p + v * q, d, Nat.mul_pos u1 v1, kb, by rw [e]; exact s.1, by omega, by rw [e]; exact s.2⟩
/-- what is told as a part is one -/
theorem hit_ok {n k m f : Nat} (h6 : 1000000 ≤ n) (k1 : 1 ≤ k) (hk : k ≤ 15000) (e : m * m = 4 * k * n + f * f) (hm : m ≤ Float64.isqrt (4 * k * n - 1) + 9) : 2 ≤ Nat.gcd (m + f) n ∧ Nat.gcd (m + f) n < n := by
  have kn : 1 * n ≤ k * n := Nat.mul_le_mul_right n k1
  have kn2 : k * n ≤ 15000 * n := Nat.mul_le_mul_right n hk
  have ek : 4 * k * n = 4 * (k * n) := Nat.mul_assoc _ _ _
  rw [ek] at e hm
  have s := isqrt_le (4 * (k * n) - 1)
  generalize Float64.isqrt (4 * (k * n) - 1) = r at s hm
  have fm : f < m := lt_of_sq (by omega)
  have m2 : 2 * m < n := by
    by_cases c : 2 * m < n
    · exact c
    · have a1 : n - 18 ≤ 2 * r := by omega
      have a2 := Nat.mul_le_mul a1 a1
      have a3 : 2 * r * (2 * r) = 4 * (r * r) := by rw [Nat.mul_assoc, Nat.mul_left_comm r 2 r]; omega
      obtain ⟨t, rfl⟩ : ∃ t, n = t + 18 := ⟨n - 18, by omega⟩
      have a4 : t + 18 - 18 = t := by omega
      rw [a4] at a2
      have a5 := Nat.mul_le_mul_right t (show 999982 ≤ t by omega)
      omega
  obtain ⟨x, rfl⟩ : ∃ x, m = x + f := ⟨m - f, by omega⟩
  have pr : (x + f + f) * x = 4 * (k * n) := by
    have a1 : (x + f) * (x + f) = x * x + 2 * (f * x) + f * f := by rw [Nat.add_mul, Nat.mul_add, Nat.mul_add, Nat.mul_comm x f]; omega
    have a2 : (x + f + f) * x = x * x + 2 * (f * x) := by rw [Nat.add_mul, Nat.add_mul]; omega
    omega
  have gd := Nat.gcd_dvd_left (x + f + f) n
  have gn := Nat.gcd_dvd_right (x + f + f) n
  have gl := Nat.le_of_dvd (by omega) gd
  have gp : 0 < Nat.gcd (x + f + f) n := Nat.gcd_pos_of_pos_right _ (by omega)
  refine ⟨?_, by omega⟩
  by_cases g1 : Nat.gcd (x + f + f) n = 1
  · have dv : n ∣ (x + f + f) * x := by rw [pr]; exact ⟨4 * k, by rw [Nat.mul_comm n, Nat.mul_assoc]⟩
    have := (Nat.Coprime.symm g1).dvd_of_dvd_mul_left dv
    have := Nat.le_of_dvd (by omega) this
    omega
  · omega
end Nt
end KB

/-! a set of whole numbers made by two walks, one within the other, without tests: {e for t in a for u in b} -/
namespace KB
open PySem PySem.Spec PyProof.Rows L2
abbrev sc2 (e t a u b : Expr) (sc : Scope) (ps : Pos) : Expr := .SetComp e [⟨t, a, [], 0⟩, ⟨u, b, [], 0⟩] sc ps
abbrev ErN (prog : Program) (w : World) (A : Around) (en : Env) (R : Result → Shared → Prop) : Value → Shared → Prop := notedBy (model prog w) A en fun x z => R (.error x) z
section
variable {prog : Program} {w : World} {A : Around} {R : Result → Shared → Prop} {s : Shared} {e t u a b : Expr} {sc : Scope} {ps : Pos} {itv acc : Value} {en : Env}
theorem sc2_turn0 (e t u a b : Expr) (sc : Scope) (ps : Pos) (itv acc : Value) (en : Env) : compTurn (sc2 e t a u b sc ps) 0 itv acc en = (do
      standAt a.pos
      match ← pyNext itv with
      | none => pure (.done .next)
      | some got =>
        letOwnedTupleGo t itv got
        assign t en got
        let mut ok := true
        for c in ([] : List Expr) do
          if ok then ok ← isTrue c en (eval c en)
        if ok then
          let inner ← eval b en
          standAt b.pos
          let inner ← foldedSetIterable b en inner
          let _ ← runOwn (.compStart (sc2 e t a u b sc ps) 1 (← holding [inner] (pyIter inner)) acc en) en
        again (.compLoop (sc2 e t a u b sc ps) 0 itv acc en)) := by rfl
theorem sc2_turn1 (e t u a b : Expr) (sc : Scope) (ps : Pos) (itv acc : Value) (en : Env) : compTurn (sc2 e t a u b sc ps) 1 itv acc en = (do
      standAt b.pos
      match ← pyNext itv with
      | none => pure (.done .next)
      | some got =>
        letOwnedTupleGo u itv got
        assign u en got
        let mut ok := true
        for c in ([] : List Expr) do
          if ok then ok ← isTrue c en (eval c en)
        if ok then
          (do let one ← eval e en; standAt e.pos; let _ ← call (.builtin "set.add") [acc, one])
        again (.compLoop (sc2 e t a u b sc ps) 1 itv acc en)) := by rfl
theorem sc2_loop0 (hb : ∀ x, foldedSetIterable b en x = pure x) (I : Nat → Shared → Prop)
    (turn : ∀ n z, I n z → wpAny (model prog w) A (pyNext itv) (fun r z1 => match r with
      | none => R (.ok .next) z1
      | some got => wpAny (model prog w) A (letOwnedTupleGo t itv got) (fun _ z2 => wpAny (model prog w) A (assign t en got) (fun _ z3 => wpAny (model prog w) A (eval b en) (fun x z4 =>
          wpAny (model prog w) A (pyIter x) (fun it1 z5 => codeAny (model prog w) A (.compStart (sc2 e t a u b sc ps) 1 it1 acc en) (fun r z6 => match r with
            | .ok _ => ∃ m, m < n ∧ I m z6
            | .error _ => False) z5) (ErN prog w A en R) z4) (ErN prog w A en R) z3) (ErN prog w A en R) z2) (ErN prog w A en R) z1) (ErN prog w A en R) z)
    (n : Nat) (h : I n s) : codeAny (model prog w) A (.compLoop (sc2 e t a u b sc ps) 0 itv acc en) R s := by
  refine codeAny_loop rfl I (fun n z hI => ?_) n h
  show wpAny _ A ((compTurn (sc2 e t a u b sc ps) 0 itv acc en).onRaise (fun x => do noteFrame x en; theTreesLotGoes x)) _ _ z
  refine wpAny_noted ?_
  rw [sc2_turn0]
  refine wpAny_bind (wpAny_standAt (wpAny_bind (wpAny_mono (turn n z hI) (fun r z1 h1 => ?_) fun _ _ y => y)))
  match r, h1 with
  | none, h1 => exact wpAny_pure h1
  | some got, h1 =>
    refine wpAny_bind (wpAny_mono h1 (fun _ z2 h2 => wpAny_bind (wpAny_mono h2 (fun _ z3 h3 => wpAny_bind (wpAny_pure ?_)) fun _ _ y => y)) fun _ _ y => y)
    refine wpAny_bind (wpAny_mono h3 (fun x z4 h4 => ?_) fun _ _ y => y)
    refine wpAny_bind (wpAny_standAt (wpAny_bind (wpAny_of_eq (hb x) (wpAny_bind (wpAny_holding (wpAny_mono h4 (fun it1 z5 h5 => ?_) fun _ _ y => y))))))
    refine wpAny_bind (wpAny_runOwn ?_)
    rw [Around.mark_none]
    refine codeAny_mono h5 fun r z6 hr => ?_
    match r, hr with
    | .ok f, hr => first | exact wpAny_pure ⟨rfl, hr⟩ | exact wpAny_bind (wpAny_pure (wpAny_pure ⟨rfl, hr⟩))
    | .error x, hr => exact hr.elim
theorem sc2_loop1 (I : Nat → Shared → Prop)
    (turn : ∀ n z, I n z → wpAny (model prog w) A (pyNext itv) (fun r z1 => match r with
      | none => R (.ok .next) z1
      | some got => wpAny (model prog w) A (letOwnedTupleGo u itv got) (fun _ z2 => wpAny (model prog w) A (assign u en got) (fun _ z3 => wpAny (model prog w) A (eval e en) (fun x z4 =>
          wpAny (model prog w) A (call (.builtin "set.add") [acc, x]) (fun _ z5 => ∃ m, m < n ∧ I m z5) (ErN prog w A en R) z4) (ErN prog w A en R) z3) (ErN prog w A en R) z2) (ErN prog w A en R) z1) (ErN prog w A en R) z)
    (n : Nat) (h : I n s) : codeAny (model prog w) A (.compLoop (sc2 e t a u b sc ps) 1 itv acc en) R s := by
  refine codeAny_loop rfl I (fun n z hI => ?_) n h
  show wpAny _ A ((compTurn (sc2 e t a u b sc ps) 1 itv acc en).onRaise (fun x => do noteFrame x en; theTreesLotGoes x)) _ _ z
  refine wpAny_noted ?_
  rw [sc2_turn1]
  refine wpAny_bind (wpAny_standAt (wpAny_bind (wpAny_mono (turn n z hI) (fun r z1 h1 => ?_) fun _ _ y => y)))
  match r, h1 with
  | none, h1 => exact wpAny_pure h1
  | some got, h1 =>
    refine wpAny_bind (wpAny_mono h1 (fun _ z2 h2 => wpAny_bind (wpAny_mono h2 (fun _ z3 h3 => wpAny_bind (wpAny_pure ?_)) fun _ _ y => y)) fun _ _ y => y)
    exact wpAny_bind (wpAny_bind (wpAny_mono h3 (fun x z4 h4 => wpAny_bind (wpAny_standAt (wpAny_bind (wpAny_mono h4 (fun _ z5 h5 => wpAny_pure (wpAny_pure ⟨rfl, h5⟩)) fun _ _ y => y)))) fun _ _ y => y))
/-- the inner walk's start -/
theorem sc2_start1 (h0 : codeAny (model prog w) A (.compLoop (sc2 e t a u b sc ps) 1 itv acc en) R s)
    (h : wpAny (model prog w) A (pyIter itv) (fun j z => codeAny (model prog w) A (.compLoop (sc2 e t a u b sc ps) 1 j acc en) R z) (ErN prog w A en R) s) :
    codeAny (model prog w) A (.compStart (sc2 e t a u b sc ps) 1 itv acc en) R s := by
  refine codeAny_of_tree ?_
  show wpAny _ _ ((compStart (sc2 e t a u b sc ps) 1 itv acc en).onRaise (fun x => do noteFrame x en; standAt theWindowsPlace)) _ _ s
  refine wpAny_notedAt ?_
  unfold compStart
  show wpAny _ _ (ask >>= _) _ _ s
  refine wpAny_bind (wpAny_askSetting (wpAny_ite ?_))
  split
  · first | exact wpAny_bind (wpAny_pure (wpAny_pure (And.intro rfl h0))) | exact wpAny_pure (And.intro rfl h0)
  · first
      | exact wpAny_bind (wpAny_rule (wpAny_bind (wpAny_standAt (wpAny_bind (wpAny_mono h (fun j z k => wpAny_pure (And.intro rfl k)) fun _ _ y => y)))))
      | (refine wpAny_bind (wpAny_rule ?_); show wpAny _ _ (standAt b.pos >>= _) _ _ s; exact wpAny_bind (wpAny_standAt (wpAny_bind (wpAny_mono h (fun j z k => wpAny_pure (And.intro rfl k)) fun _ _ y => y))))
end
section
variable {X : Cx}
/-- {te for g in wi for g1 in wi1}: D the new set -/
def tSc2 (w : World) (wi : TI) (g : TG) (wi1 : TI) (g1 : TG) (te : TE) (vs vs1 : List Nat) : TE := fun σ H Q => wi σ H fun J H1 => ∀ D, H1 D = none →
  ∃ W : Nat → Nat → Hp → Prop, (∃ m, W 0 m (upd H1 D (SetO w D (fun _ => false) 0))) ∧ ∀ i m G, W i m G →
    (J.stop i G ∧ Q (.ref D) G) ∨ (J.go i G ∧ ∃ Nx : Hp → Prop, (∀ G', Nx G' → ∃ m', m' < m ∧ W (i + 1) m' G') ∧ ∀ x G1, J.yld i G x G1 →
      g x (wipe σ vs) G1 fun σ2 G2 => wipe σ2 vs = wipe σ vs ∧ wi1 σ2 G2 fun J1 G3 => ∃ W1 : Nat → Nat → Hp → Prop, (∃ m, W1 0 m G3) ∧ ∀ j k G4, W1 j k G4 →
        (J1.stop j G4 ∧ Nx G4) ∨ (J1.go j G4 ∧ ∃ Nx1 : Hp → Prop, (∀ G', Nx1 G' → ∃ k', k' < k ∧ W1 (j + 1) k' G') ∧ ∀ x1 G5, J1.yld j G4 x1 G5 →
          g1 x1 (wipe σ2 vs1) G5 fun σ3 G6 => wipe σ3 vs1 = wipe σ2 vs1 ∧ te σ3 G6 fun y G7 => ∃ (c : Int) (S : Int → Bool) (n : Nat), y = .int c ∧ G7 D = some (SetO w D S n) ∧ n + 1 < scanBound ∧
            Nx1 (upd G7 D (SetO w D (fun q => S q || decide (q = c)) (if S c = true then n else n + 1)))))
variable {e tg ie tg1 ie1 : Expr} {sc : Scope} {own : List (PySem.Str × Nat)} {vs1 : List Nat} {ps : Pos} {wi wi1 : TI} {g g1 : TG} {te : TE}
theorem pe_sc2 (hc : X.calm = true) (hN : X.N.Nodup) (p0 : PI X tg ie wi) (ok : BlkOk X.N X.env.scope sc own) (hv : ∀ i ∈ vs1, i ∈ own.map (·.2))
    (pg0 : ∀ (z : Shared) (G : Hp) (C : Addr) (cl : List (PySem.Str × Addr)) (fp : List Addr), PG (X.blk z G sc (compEnvC sc cl C X.env) fp) tg g)
    (p1 : ∀ (z : Shared) (G : Hp) (C : Addr) (cl : List (PySem.Str × Addr)) (fp : List Addr), PI (X.blk z G sc (compEnvC sc cl C X.env) fp) tg1 ie1 wi1)
    (pg1 : ∀ (z : Shared) (G : Hp) (C : Addr) (cl : List (PySem.Str × Addr)) (fp : List Addr), PG (X.blk z G sc (compEnvC sc cl C X.env) fp) tg1 g1)
    (pe0 : ∀ (z : Shared) (G : Hp) (C : Addr) (cl : List (PySem.Str × Addr)) (fp : List Addr), PE (X.blk z G sc (compEnvC sc cl C X.env) fp) e te)
    (hs : ∀ x, foldedSetIterable ie X.env x = pure x := by intro _; rfl) (hs1 : ∀ en x, foldedSetIterable ie1 en x = pure x := by intro _ _; rfl) :
    PE X (.SetComp e [⟨tg, ie, [], 0⟩, ⟨tg1, ie1, [], 0⟩] sc ps) (tSc2 X.w wi g wi1 g1 te (own.map (·.2)) vs1) := by
  refine ⟨fun pins s σ H Q I h => ?_⟩
  rw [PpSet.eval_SetComp]
  have frees : ∀ y ∈ sc.names, y.2 = .free → ∃ c, X.env.cells.lookup y.1 = some c := fun y hy z => by
    rcases ok.free y hy z with q | q
    · exact I.ok.has _ (.inl q)
    · exact I.ok.has _ (.inr q)
  refine wpAny_comprehension_free (use := none) rfl hs (closure_ok frees) ok.kind (fun y hy z => by rw [ok.uniq y hy, z]) (thn (p0.run pins s σ H _ I h) fun xv s1 hx => thn hx fun itv s2 hit => ?_)
  obtain ⟨it, fp, tn, J, H2, rfl, I2, T, at2, fp2, q⟩ := hit
  refine PpSet.newSet_ok (newEnv_comp ?_)
  generalize eD : s2.heap.objs.size = D
  obtain ⟨W, ⟨m0, w0⟩, turn⟩ := q D (I2.hok.fresh (Nat.le_of_eq eD))
  -- the set lies there
  generalize e3 : ({ s2 with heap := s2.heap.push { cls := .type "set", dict := none, data := .set #[] 0 (.fresh 0 0 (!X.w.params.followText "set-order")) } } : Shared) = s3
  generalize eK : upd H2 D (SetO X.w D (fun _ => false) 0) = K3 at w0 ⊢
  have I3 : Inv X pins σ K3 s3 := by
    rw [← e3, ← eK]
    refine I2.laid (t' := s2.toks) (fun b o z => Heap.get?_push_of_some _ z) (Nat.le_of_eq eD) ?_
    rw [← eD]
    exact setO_new (setR_fresh X.w)
  have keep3 : ∀ b o, s2.heap.get? b = some o → s3.heap.get? b = some o := fun b o z => by rw [← e3]; exact Heap.get?_push_of_some _ z
  have grow3 : s3.heap.objs.size = s2.heap.objs.size + 1 := by rw [← e3]; exact Heap.size_push ..
  have low : ∀ b ∈ fp, b < s2.heap.objs.size := fun b hb => by
    obtain ⟨o, z, _⟩ := T.obj _ _ at2 b hb
    exact Heap.lt_size z
  have fp3 : ∀ b ∈ fp, FpOk X pins K3 b ∧ b < s3.heap.objs.size := fun b hb => by
    have lt := low b hb
    refine ⟨⟨?_, (fp2 b hb).2⟩, by rw [grow3]; exact Nat.lt_succ_of_lt lt⟩
    rw [← eK, upd_ne (by rw [← eD]; exact Nat.ne_of_lt lt)]
    exact (fp2 b hb).1
  have at3 : tn 0 s3.heap := T.keep _ _ _ at2 fun b _ o z => keep3 b o z
  have I4 := block_start I3 ok hN fp3
  have rg := pg0 s3 K3 s3.heap.objs.size (cellsFrom (s3.heap.objs.size + 1) sc.names (cloFrom X.env.cells sc.names [])) fp
  have r1 := p1 s3 K3 s3.heap.objs.size (cellsFrom (s3.heap.objs.size + 1) sc.names (cloFrom X.env.cells sc.names [])) fp
  have rg1 := pg1 s3 K3 s3.heap.objs.size (cellsFrom (s3.heap.objs.size + 1) sc.names (cloFrom X.env.cells sc.names [])) fp
  have re := pe0 s3 K3 s3.heap.objs.size (cellsFrom (s3.heap.objs.size + 1) sc.names (cloFrom X.env.cells sc.names [])) fp
  show codeAny _ _ (.compStart (sc2 e tg ie tg1 ie1 sc ps) 0 (.ref it) (.ref D) (compEnvC sc (cellsFrom (s3.heap.objs.size + 1) sc.names (cloFrom X.env.cells sc.names [])) s3.heap.objs.size X.env)) _ { s3 with heap := pushCells (s3.heap.push { cls := .type "dict", data := .dict #[] }) sc.names }
  generalize ec : compEnvC sc (cellsFrom (s3.heap.objs.size + 1) sc.names (cloFrom X.env.cells sc.names [])) s3.heap.objs.size X.env = ce at I4 rg r1 rg1 re ⊢
  have cL : ce.locals = s3.heap.objs.size := by subst ec; rfl
  generalize e4 : ({ s3 with heap := pushCells (s3.heap.push { cls := .type "dict", data := .dict #[] }) sc.names } : Shared) = s4 at I4 ⊢
  have at4 : tn 0 s4.heap := T.keep _ _ _ at3 fun b _ o z => by rw [← e4]; exact pushCells_keeps _ _ _ _ (Heap.get?_push_of_some _ z)
  have still : ∀ {σ' : L2.St} {G : Hp} {z : Shared}, Inv (X.blk s3 K3 sc ce fp) [] σ' G z → (∀ b ∈ fp, G b = none) → ∀ b ∈ fp, FpOk (X.blk s3 K3 sc ce fp) [] G b := fun {σ' G z} I' n b hb =>
    ⟨n b hb, (I'.ok.exf b hb).1, I'.ok.exfs b hb, .inl hb, fun x c y => (I'.ok.exf b hb).2 x c y, fun p hp => absurd (show p ∈ ([] : List (Addr × Obj)) ++ [] from hp) (by simp)⟩
  have nfp : ∀ b ∈ fp, K3 b = none := fun b hb => (fp3 b hb).1.1
  have loop : codeAny (model X.prog X.w) X.A (.compLoop (sc2 e tg ie tg1 ie1 sc ps) 0 (.ref it) (.ref D) ce) (compPost (model X.prog X.w) X.A X.xe none (EP X pins σ Q) (.ref D) s3.heap.objs.size) s4 := by
    refine sc2_loop0 (hs1 ce) (fun n z => ∃ i G, Inv (X.blk s3 K3 sc ce fp) [] (wipe σ (own.map (·.2))) G z ∧ tn i z.heap ∧ (∀ b ∈ fp, G b = none) ∧ W i n G) ?_ m0 ⟨0, K3, I4, at4, nfp, w0⟩
    rintro n s5 ⟨i, G5, I5, at5, n5, w5⟩
    rcases turn i n G5 w5 with ⟨stop, qq⟩ | ⟨go, Nx, onNx, step⟩
    · have td := T.done (X.blk s3 K3 sc ce fp) rfl rfl rfl hc i [] s5 _ G5 (fun _ _ => False) I5 (still I5 n5) at5 stop
      refine thnF td fun r s6 ⟨hr, I6⟩ => ?_
      subst hr
      have I7 : Inv X pins σ G5 s6 := I3.call' (ch := fp) I6.os I6.base I6.hok I6.bare fun b hb => ⟨(fp3 b hb).1.2.2.2.1, (fp3 b hb).1.2.1, (fp3 b hb).1.2.2.2.2.1, (fp3 b hb).1.2.2.2.2.2⟩
      have nC : G5 s3.heap.objs.size = none := by
        have z : G5 ce.locals = none := I6.free
        rwa [cL] at z
      obtain ⟨m, hm, _⟩ := I6.loc
      have hm : s6.heap.Ns ce.locals m := hm
      rw [cL] at hm
      refine ⟨m, hm, fun h2 sb => ?_⟩
      obtain ⟨a0, a1, a2, a3, a4, a5⟩ := I3.fpOk (Nat.le_refl _) nC
      exact ⟨.ref D, G5, I7.turned (t' := s6.toks) (fun b o hb z => (sb.2 b hb).trans z) a0 a1 a3 a4 a5, rfl, qq⟩
    · refine thnF (T.item (X.blk s3 K3 sc ce fp) rfl rfl rfl hc i [] s5 _ G5 (fun _ _ => False) I5 (still I5 n5) at5 go) fun r s6 ⟨v, hr, h6⟩ => ?_
      subst hr
      refine thnF h6 fun _ s7 ⟨x, G7, I7, rx, y7, at7, n7⟩ => ?_
      refine thnF (rg.run _ s7 _ G7 x v _ (I7.pinned (still I7 n7) (T.obj _ _ at7)) rx (step x G7 y7)) fun _ s8 ⟨σ8, G8, I8, w8, q8⟩ => ?_
      -- a turn of the outer walk ends
      have fin : ∀ {σ9 : L2.St} {z : Shared} {G : Hp}, Inv (X.blk s3 K3 sc ce fp) ([] ++ pinsAt fp s7.heap) σ9 G z → (wipe σ (own.map (·.2))).length = σ9.length → (∀ (j : Nat) v, (wipe σ (own.map (·.2)))[j]? = some (some v) → σ9[j]? = some (some v)) → Nx G →
          ∃ m, m < n ∧ ∃ i G, Inv (X.blk s3 K3 sc ce fp) [] (wipe σ (own.map (·.2))) G z ∧ tn i z.heap ∧ (∀ b ∈ fp, G b = none) ∧ W i m G := fun {σ9 z G} I' len same nx => by
        obtain ⟨m', lt, w'⟩ := onNx G nx
        have pin' : ∀ b ∈ fp, ∀ o, s7.heap.get? b = some o → z.heap.get? b = some o ∧ G b = none := fun b hb o y =>
          let k := I'.pin (b, o) (List.mem_append_right _ (List.mem_append_right _ (mem_pinsAt hb y)))
          ⟨k.1, k.2.1⟩
        refine ⟨m', lt, i + 1, G, (I'.unpinned (pins := [])).weak len same, T.keep _ _ _ at7 fun b hb o y => (pin' b hb o y).1, fun b hb => ?_, w'⟩
        obtain ⟨o, y, _⟩ := T.obj _ _ at7 b hb
        exact (pin' b hb o y).2
      have len9 : (wipe σ (own.map (·.2))).length = (wipe σ8 vs1).length := by rw [wipe_length σ8 vs1, ← w8, wipe_length]
      have same9 : ∀ (j : Nat) v, (wipe σ (own.map (·.2)))[j]? = some (some v) → (wipe σ8 vs1)[j]? = some (some v) := fun j v y => by
        rw [← w8] at y
        obtain ⟨y1, y2⟩ := wipe_some y
        rw [wipe_out fun k => y2 (hv j k)]
        exact y1
      refine thnF (r1.run _ s8 σ8 G8 _ I8 q8) fun xv s10 hx => thnF hx fun itv s11 h11 => ?_
      obtain ⟨it1, fp1, tn1, J1, G11, rfl, I11, T1, at11, fp11, W1, ⟨m1, w1⟩, turn1⟩ := h11
      have still1 : ∀ {G : Hp}, (∀ b ∈ fp1, G b = none) → ∀ b ∈ fp1, FpOk (X.blk s3 K3 sc ce fp) ([] ++ pinsAt fp s7.heap) G b := fun nn b hb => ⟨nn b hb, (fp11 b hb).2⟩
      have loop1 : codeAny (model X.prog X.w) X.A (.compLoop (sc2 e tg ie tg1 ie1 sc ps) 1 (.ref it1) (.ref D) ce) (fun r z => match r with
          | .ok _ => ∃ m, m < n ∧ ∃ i G, Inv (X.blk s3 K3 sc ce fp) [] (wipe σ (own.map (·.2))) G z ∧ tn i z.heap ∧ (∀ b ∈ fp, G b = none) ∧ W i m G
          | .error _ => False) s11 := by
        refine sc2_loop1 (fun k z => ∃ j G, Inv (X.blk s3 K3 sc ce fp) ([] ++ pinsAt fp s7.heap) (wipe σ8 vs1) G z ∧ tn1 j z.heap ∧ (∀ b ∈ fp1, G b = none) ∧ W1 j k G) ?_ m1 ⟨0, G11, I11.weak (wipe_length _ _) (fun j v y => (wipe_some y).1), at11, fun b hb => (fp11 b hb).1, w1⟩
        rintro k s12 ⟨j, G12, I12, at12, n12, w12⟩
        rcases turn1 j k G12 w12 with ⟨stop1, nx1⟩ | ⟨go1, Nx1, onNx1, step1⟩
        · refine thnF (T1.done (X.blk s3 K3 sc ce fp) rfl rfl rfl hc j _ s12 (wipe σ8 vs1) G12 (fun _ _ => False) I12 (still1 n12) at12 stop1) fun r s13 ⟨hr, I13⟩ => ?_
          subst hr
          exact fin I13 len9 same9 nx1
        · refine thnF (T1.item (X.blk s3 K3 sc ce fp) rfl rfl rfl hc j _ s12 (wipe σ8 vs1) G12 (fun _ _ => False) I12 (still1 n12) at12 go1) fun r s13 ⟨v1, hr, h13⟩ => ?_
          subst hr
          refine thnF h13 fun _ s14 ⟨x1, G14, I14, rx1, y14, at14, n14⟩ => ?_
          refine thnF (rg1.run _ s14 (wipe σ8 vs1) G14 x1 v1 _ (I14.pinned (still1 n14) (T1.obj _ _ at14)) rx1 (step1 x1 G14 y14)) fun _ s15 ⟨σ15, G15, I15, w15, q15⟩ => ?_
          refine thnF (re.run _ s15 σ15 G15 _ I15 q15) fun z s17 ⟨yv, G17, I17, ry, cc, S, k0, ey, eD17, room, nx⟩ => ?_
          subst ey
          refine thnF (mt_sadd (X := X.blk s3 K3 sc ce fp) _ s17 σ15 G17 (.ref D) [.int cc] (.ref D) [z] (fun _ G => Nx1 G) I17 rfl (.cons ry .nil) ⟨D, cc, S, k0, rfl, rfl, eD17, room, nx⟩) fun _ s18 ⟨_, G18, I18, _, nx18⟩ => ?_
          obtain ⟨m', lt, w'⟩ := onNx1 G18 nx18
          have pin' : ∀ b ∈ fp1, ∀ o, s14.heap.get? b = some o → s18.heap.get? b = some o ∧ G18 b = none := fun b hb o y =>
            let k := I18.pin (b, o) (List.mem_append_right _ (List.mem_append_right _ (mem_pinsAt hb y)))
            ⟨k.1, k.2.1⟩
          refine ⟨m', lt, j + 1, G18, I18.unpinned.weak (by rw [← w15, wipe_length]) (fun j v y => by rw [← w15] at y; exact (wipe_some y).1), T1.keep _ _ _ at14 fun b hb o y => (pin' b hb o y).1, fun b hb => ?_, w'⟩
          obtain ⟨o, y, _⟩ := T1.obj _ _ at14 b hb
          exact (pin' b hb o y).2
      exact sc2_start1 loop1 (T1.self X.A 0 _ _ _ at11 loop1)
  exact PpSet.codeAny_compStart_set loop (T.self X.A 0 _ _ _ at4 loop)
end
end KB

/-! things as terms: their kinds by what is given, what they want, the rows in which they are read -/
namespace KB
open PySem PySem.Spec PyProof.Rows L2
/-- how many things stand in a term of a word -/
def lenOf (w : Str) : Option Nat :=
  if w = "given" then some 2 else if w = "make" then some 3 else if w = "do" then some 3 else if w = "both" then some 3 else if w = "first" then some 2 else if w = "second" then some 2 else if w = "unit" then some 1 else none
/-- whether data have the look of a term, but for their parts -/
def hdK : List PyData → Bool
  | x :: _ => isKd x
  | [] => false
def pcB : PyData → Bool
  | .tuple (.str w :: r) => decide (lenOf w = some (r.length + 1)) && (!decide (w = "make") || hdK r)
  | _ => false
inductive Trm where
  | giv (x : PyData) | fst (t : Trm) | snd (t : Trm) | mk (k : Kd) (t : Trm) | doo (a b : Trm) | both (a b : Trm) | unit | bad (d : PyData)
namespace Trm
def dat : Trm → PyData
  | giv x => .tuple [.str "given", x]
  | fst t => .tuple [.str "first", t.dat]
  | snd t => .tuple [.str "second", t.dat]
  | mk k t => .tuple [.str "make", k.dat, t.dat]
  | doo a b => .tuple [.str "do", a.dat, b.dat]
  | both a b => .tuple [.str "both", a.dat, b.dat]
  | unit => .tuple [.str "unit"]
  | bad d => d
def wf : Trm → Prop
  | giv _ | unit => True
  | fst t | snd t => t.wf
  | mk k t => k.ok ∧ t.wf
  | doo a b | both a b => a.wf ∧ b.wf
  | bad d => pcB d = false
/-- no thing in it has another look -/
def okT : Trm → Bool
  | giv _ | unit => true
  | fst t | snd t | mk _ t => t.okT
  | doo a b | both a b => a.okT && b.okT
  | bad _ => false
def isBad : Trm → Bool
  | bad _ => true
  | _ => false
end Trm
def giv (x : PyData) (ks : List Kd) : Option Kd := match x with
  | .int n => if 0 ≤ n ∧ n < (ks.length : Nat) then ks[n.toNat]? else none
  | _ => none
def half (s : Bool) : Kd → Option Kd
  | .p a b => some (if s = true then b else a)
  | _ => none
def hand : Kd → Kd → Option Kd
  | .f t g, a => if t = a then some g else none
  | _, _ => none
namespace Trm
def jd : Trm → List Kd → Option Kd
  | giv x, ks => KB.giv x ks
  | fst t, ks => (t.jd ks).bind (half false)
  | snd t, ks => (t.jd ks).bind (half true)
  | mk k t, ks => (t.jd (ks ++ [k])).map (Kd.f k)
  | doo a b, ks => (a.jd ks).bind fun f => (b.jd ks).bind fun x => hand f x
  | both a b, ks => (a.jd ks).bind fun x => (b.jd ks).map (Kd.p x)
  | unit, _ => some .u
  | bad _, _ => none
/-- what it is made of, each with what is given to it -/
def subs : Trm → List Kd → List (Trm × List Kd)
  | fst t, ks | snd t, ks => [(t, ks)]
  | mk k t, ks => [(t, ks ++ [k])]
  | doo a b, ks | both a b, ks => [(a, ks), (b, ks)]
  | _, _ => []
/-- the rows in which it is read: itself, then what it is made of, the last ahead -/
def pre : Trm → List Kd → List (Trm × List Kd)
  | fst t, ks => (fst t, ks) :: t.pre ks
  | snd t, ks => (snd t, ks) :: t.pre ks
  | mk k t, ks => (mk k t, ks) :: t.pre (ks ++ [k])
  | doo a b, ks => (doo a b, ks) :: (b.pre ks ++ a.pre ks)
  | both a b, ks => (both a b, ks) :: (b.pre ks ++ a.pre ks)
  | t, ks => [(t, ks)]
theorem pre_eq (t : Trm) (ks : List Kd) : t.pre ks = (t, ks) :: (t.subs ks).reverse.flatMap fun n => n.1.pre n.2 := by cases t <;> simp [pre, subs]
theorem pre_self (t : Trm) (ks : List Kd) : (t, ks) ∈ t.pre ks := by cases t <;> simp [pre]
theorem jd_ok : ∀ (t : Trm) (ks : List Kd) (k : Kd), t.jd ks = some k → t.okT = true
  | giv x, ks, k, _ => rfl
  | fst t, ks, k, h => by
    cases e : t.jd ks with
    | none => simp [jd, e] at h
    | some k' => exact jd_ok t ks k' e
  | snd t, ks, k, h => by
    cases e : t.jd ks with
    | none => simp [jd, e] at h
    | some k' => exact jd_ok t ks k' e
  | mk c t, ks, k, h => by
    cases e : t.jd (ks ++ [c]) with
    | none => simp [jd, e] at h
    | some k' => exact jd_ok t _ k' e
  | doo a b, ks, k, h => by
    cases e : a.jd ks with
    | none => simp [jd, e] at h
    | some x => cases e2 : b.jd ks with
      | none => simp [jd, e, e2] at h
      | some y => simp [okT, jd_ok a ks x e, jd_ok b ks y e2]
  | both a b, ks, k, h => by
    cases e : a.jd ks with
    | none => simp [jd, e] at h
    | some x => cases e2 : b.jd ks with
      | none => simp [jd, e, e2] at h
      | some y => simp [okT, jd_ok a ks x e, jd_ok b ks y e2]
  | unit, ks, k, _ => rfl
  | bad d, ks, k, h => by cases h
/-- what has no kind spoils that in which it stands -/
theorem sub_none : ∀ (t : Trm) (ks : List Kd) (n : Trm × List Kd), n ∈ t.pre ks → n.1.jd n.2 = none → t.jd ks = none
  | giv x, ks, n, h, e => by rw [List.mem_singleton.mp h] at e; exact e
  | fst t, ks, n, h, e => by
    rcases List.mem_cons.mp h with rfl | h
    · exact e
    · simp [jd, sub_none t ks n h e]
  | snd t, ks, n, h, e => by
    rcases List.mem_cons.mp h with rfl | h
    · exact e
    · simp [jd, sub_none t ks n h e]
  | mk c t, ks, n, h, e => by
    rcases List.mem_cons.mp h with rfl | h
    · exact e
    · simp [jd, sub_none t _ n h e]
  | doo a b, ks, n, h, e => by
    rcases List.mem_cons.mp h with rfl | h
    · exact e
    · rcases List.mem_append.mp h with h | h
      · simp [jd, sub_none b ks n h e]
      · simp [jd, sub_none a ks n h e]
  | both a b, ks, n, h, e => by
    rcases List.mem_cons.mp h with rfl | h
    · exact e
    · rcases List.mem_append.mp h with h | h
      · simp [jd, sub_none b ks n h e]
      · simp [jd, sub_none a ks n h e]
  | unit, ks, n, h, e => by rw [List.mem_singleton.mp h] at e; cases e
  | bad d, ks, n, h, e => rfl
/-- rows that lead from things made to things made -/
def Good (fin : List (Trm × List Kd)) : List (Trm × List Kd) → List (Trm × List Kd) → Prop
  | [], S => S = fin
  | n :: R, S => ∃ S0, S = S0 ++ n.1.subs n.2 ∧ Good fin R (S0 ++ [n])
theorem good_pre (fin : List (Trm × List Kd)) : ∀ (t : Trm) (ks : List Kd) (R S : List (Trm × List Kd)), Good fin R (S ++ [(t, ks)]) → Good fin ((t.pre ks).reverse ++ R) S
  | giv x, ks, R, S, h => ⟨S, by simp [subs], h⟩
  | unit, ks, R, S, h => ⟨S, by simp [subs], h⟩
  | bad x, ks, R, S, h => ⟨S, by simp [subs], h⟩
  | fst t, ks, R, S, h => by
    simp only [pre, List.reverse_cons, List.append_assoc]
    exact good_pre fin t ks _ S ⟨S, rfl, h⟩
  | snd t, ks, R, S, h => by
    simp only [pre, List.reverse_cons, List.append_assoc]
    exact good_pre fin t ks _ S ⟨S, rfl, h⟩
  | mk c t, ks, R, S, h => by
    simp only [pre, List.reverse_cons, List.append_assoc]
    exact good_pre fin t _ _ S ⟨S, rfl, h⟩
  | doo a b, ks, R, S, h => by
    simp only [pre, List.reverse_cons, List.reverse_append, List.append_assoc]
    exact good_pre fin a ks _ S (good_pre fin b ks _ _ ⟨S, by simp [subs], h⟩)
  | both a b, ks, R, S, h => by
    simp only [pre, List.reverse_cons, List.reverse_append, List.append_assoc]
    exact good_pre fin a ks _ S (good_pre fin b ks _ _ ⟨S, by simp [subs], h⟩)
theorem good_all (t : Trm) (ks : List Kd) : Good [(t, ks)] (t.pre ks).reverse [] := by
  have h := good_pre [(t, ks)] t ks [] [] rfl
  rwa [List.append_nil] at h
/-- which given ones it wants, where so many are given -/
def fv : Trm → Nat → Int → Bool
  | giv (.int n), _, q => decide (q = n)
  | giv _, _, _ => false
  | fst t, L, q | snd t, L, q => t.fv L q
  | mk _ t, L, q => t.fv (L + 1) q && !decide (q = (L : Nat))
  | doo a b, L, q | both a b, L, q => a.fv L q || b.fv L q
  | _, _, _ => false
/-- few of what is given are wanted at once, and the kinds within are not too deep -/
def Few : Trm → List Kd → Prop
  | fst t, ks | snd t, ks => t.Few ks ∧ ∀ k, t.jd ks = some k → k.deep ≤ 150
  | mk c t, ks => t.Few (ks ++ [c]) ∧ ∀ k, t.jd (ks ++ [c]) = some k → k.deep ≤ 150
  | doo a b, ks | both a b, ks => (a.Few ks ∧ b.Few ks) ∧ (∀ k, a.jd ks = some k → k.deep ≤ 150) ∧ (∀ k, b.jd ks = some k → k.deep ≤ 150) ∧
      ∀ l : List Int, l.Nodup → (∀ q ∈ l, (a.fv ks.length q || b.fv ks.length q) = true ∧ 0 ≤ q ∧ q < (ks.length : Nat)) → l.length < 64
  | _, _ => True
theorem giv_some {x : PyData} {ks : List Kd} {k : Kd} (h : KB.giv x ks = some k) : ∃ n : Nat, x = .int (n : Nat) ∧ ks[n]? = some k ∧ n < ks.length := by
  unfold KB.giv at h
  split at h
  · rename_i n
    split at h
    · rename_i c
      exact ⟨n.toNat, by rw [Int.toNat_of_nonneg c.1], h, by omega⟩
    · cases h
  · cases h
theorem fv_lt : ∀ (t : Trm) (ks : List Kd) (k : Kd), t.jd ks = some k → ∀ q, t.fv ks.length q = true → 0 ≤ q ∧ q < (ks.length : Nat)
  | giv x, ks, k, h, q, hq => by
    obtain ⟨n, rfl, _, lt⟩ := giv_some h
    have := of_decide_eq_true hq
    omega
  | fst t, ks, k, h, q, hq => by
    cases e : t.jd ks with
    | none => simp [jd, e] at h
    | some k' => exact fv_lt t ks k' e q hq
  | snd t, ks, k, h, q, hq => by
    cases e : t.jd ks with
    | none => simp [jd, e] at h
    | some k' => exact fv_lt t ks k' e q hq
  | mk c t, ks, k, h, q, hq => by
    cases e : t.jd (ks ++ [c]) with
    | none => simp [jd, e] at h
    | some k' =>
      simp only [fv, Bool.and_eq_true, Bool.not_eq_true', decide_eq_false_iff_not] at hq
      have := fv_lt t _ k' e q (by rw [List.length_append]; exact hq.1)
      rw [List.length_append] at this
      simp only [List.length_cons, List.length_nil] at this
      have h2 := hq.2
      omega
  | doo a b, ks, k, h, q, hq => by
    cases e : a.jd ks with
    | none => simp [jd, e] at h
    | some x => cases e2 : b.jd ks with
      | none => simp [jd, e, e2] at h
      | some y =>
        simp only [fv, Bool.or_eq_true] at hq
        rcases hq with hq | hq
        · exact fv_lt a ks x e q hq
        · exact fv_lt b ks y e2 q hq
  | both a b, ks, k, h, q, hq => by
    cases e : a.jd ks with
    | none => simp [jd, e] at h
    | some x => cases e2 : b.jd ks with
      | none => simp [jd, e, e2] at h
      | some y =>
        simp only [fv, Bool.or_eq_true] at hq
        rcases hq with hq | hq
        · exact fv_lt a ks x e q hq
        · exact fv_lt b ks y e2 q hq
  | unit, ks, k, h, q, hq => by cases hq
  | bad d, ks, k, h, q, hq => by cases h
/-- how many functions are made within one another -/
def md : Trm → Nat
  | fst t | snd t => t.md
  | mk _ t => t.md + 1
  | doo a b | both a b => max a.md b.md
  | _ => 0
def ht : Trm → Nat
  | fst t | snd t | mk _ t => t.ht + 1
  | doo a b | both a b => max a.ht b.ht + 1
  | _ => 0
/-- the kinds of what functions in it take are no deeper than that -/
def kdp : Trm → Nat
  | fst t | snd t => t.kdp
  | mk k t => max k.deep t.kdp
  | doo a b | both a b => max a.kdp b.kdp
  | _ => 0
theorem jd_deep {M : Nat} : ∀ (t : Trm) (ks : List Kd) (k : Kd), (∀ x ∈ ks, x.deep ≤ M) → t.kdp ≤ M → t.jd ks = some k → k.deep ≤ M + t.ht + 1
  | giv x, ks, k, h, _, e => by
    obtain ⟨n, rfl, e, lt⟩ := giv_some e
    have := h k (List.mem_of_getElem? e)
    omega
  | fst t, ks, k, h, c, e => by
    cases e1 : t.jd ks with
    | none => simp [jd, e1] at e
    | some y =>
      have := jd_deep t ks y h c e1
      simp only [jd, e1, Option.bind_some] at e
      cases y <;> simp only [half] at e <;> cases e
      simp only [Kd.deep] at this
      simp only [ht]
      simp only [Bool.false_eq_true, if_false]
      omega
  | snd t, ks, k, h, c, e => by
    cases e1 : t.jd ks with
    | none => simp [jd, e1] at e
    | some y =>
      have := jd_deep t ks y h c e1
      simp only [jd, e1, Option.bind_some] at e
      cases y <;> simp only [half] at e <;> cases e
      simp only [Kd.deep] at this
      simp only [ht]
      simp only [if_true]
      omega
  | mk d t, ks, k, h, c, e => by
    simp only [kdp] at c
    cases e1 : t.jd (ks ++ [d]) with
    | none => simp [jd, e1] at e
    | some y =>
      have := jd_deep t (ks ++ [d]) y (fun x hx => by
        rcases List.mem_append.mp hx with hx | hx
        · exact h x hx
        · rw [List.mem_singleton.mp hx]; omega) (by omega) e1
      simp only [jd, e1, Option.map_some] at e
      cases e
      simp only [Kd.deep, ht]
      omega
  | doo a b, ks, k, h, c, e => by
    simp only [kdp] at c
    cases e1 : a.jd ks with
    | none => simp [jd, e1] at e
    | some y => cases e2 : b.jd ks with
      | none => simp [jd, e1, e2] at e
      | some z =>
        have := jd_deep a ks y h (by omega) e1
        simp only [jd, e1, e2, Option.bind_some] at e
        cases y <;> simp only [hand] at e <;> try cases e
        split at e
        · cases e
          simp only [Kd.deep] at this
          simp only [ht]
          omega
        · cases e
  | both a b, ks, k, h, c, e => by
    simp only [kdp] at c
    cases e1 : a.jd ks with
    | none => simp [jd, e1] at e
    | some y => cases e2 : b.jd ks with
      | none => simp [jd, e1, e2] at e
      | some z =>
        have := jd_deep a ks y h (by omega) e1
        have := jd_deep b ks z h (by omega) e2
        simp only [jd, e1, e2, Option.bind_some, Option.map_some] at e
        cases e
        simp only [Kd.deep, ht]
        omega
  | unit, ks, k, h, c, e => by cases e; simp [Kd.deep]
  | bad d, ks, k, h, c, e => by cases e
end Trm
end KB

namespace KW
open PySem PySem.Spec PyProof.Rows L2 KB
def top (i : Nat) : Stmt := PySem.Challenge.pw_kindswap_k51_kinds_of_terms.main.body.getD i (.Pass ⟨0, 0, 0, 0⟩)
structure Txt (K : PySem.W.Frag) (mg : Str → Option Value) (w : World) (CN CT : Addr) : Prop where
  z_len : mg "len" = none
  z_int : mg "int" = none
  z_tuple : mg "tuple" = none
  z_list : mg "list" = none
  z_type : mg "type" = none
  z_range : mg "range" = none
  z_str : mg "str" = none
  z_isinstance : mg "isinstance" = none
  z_bool : mg "bool" = none
  z_sum : mg "sum" = none
  z_max : mg "max" = none
  z_reversed : mg "reversed" = none
  z_sorted : mg "sorted" = none
  g_BASE_LETTERS : ∃ t, mg "BASE_LETTERS" = some (.str "abcdefgh" t)
  g_SIGN_OF_WORD : ∃ d, mg "SIGN_OF_WORD" = some (.ref d) ∧ DictS K w d [("both", .str "*"), ("from", .str ">")]
  e_NoKind : ExcF K mg "NoKind" CN

/-! ## kinds: is_base_number, is_kind -/
theorem letters8 : ("abcdefgh" : Str).length = 8 := by decide +kernel
theorem letters_fit : ("abcdefgh" : Str).length ≤ sizeLine := by rw [letters8]; decide
def spBn (K : PySem.W.Frag) : Sp := fun vs H Q _ => ∃ v d, vs = [v] ∧ Dq K H v d ∧ Q (.bl (isBn d)) H
def spShp (K : PySem.W.Frag) : Sp := fun vs H Q _ => ∃ v d, vs = [v] ∧ Dq K H v d ∧ Q (.bl (shp d)) H
def spIsKd (K : PySem.W.Frag) : Sp := fun vs H Q _ => ∃ v d, vs = [v] ∧ Dq K H v d ∧ sz d ≤ 1000000 ∧ ∀ H', Same H H' → Q (.bl (isKd d)) H'
abbrev s_is_base_number : Stmt := top 8
theorem sc_is_base_number : FnScope ["thing"] ["thing"] (defScope s_is_base_number) := ⟨rfl, rfl, rfl, by decide +kernel, rfl, by decide +kernel, by decide +kernel⟩
abbrev s_is_kind_but_for_parts : Stmt := top 10
theorem sc_is_kind_but_for_parts : FnScope ["thing", "word"] ["thing"] (defScope s_is_kind_but_for_parts) := ⟨rfl, rfl, rfl, by decide +kernel, rfl, by decide +kernel, by decide +kernel⟩
abbrev s_is_kind : Stmt := top 9
theorem sc_is_kind : FnScope ["thing", "left", "part"] ["thing"] (defScope s_is_kind) := ⟨rfl, rfl, rfl, by decide +kernel, rfl, by decide +kernel, by decide +kernel⟩
section
variable {P : Program} {w : World} {K : PySem.W.Frag} {mg : Str → Option Value} {base : Heap} {CN CT : Addr}
theorem ok_is_base_number (A : At K mg "is_base_number" s_is_base_number) (T : Txt K mg w CN CT) : Cal P w K mg base CX0 1 "is_base_number" ["thing"] (spBn K) := by
  obtain ⟨f, fd, F, m⟩ := A
  refine ⟨f, fd, F.ok sc_is_base_number (fun vs H Q E h => ?_) (fun cdv A outer s H vs Q E hr h => ?_), F.binds (ps := ["thing"]) (fun _ _ _ _ _ _ us hl => match us, hl with | [_], _ => rfl), F.kp, m⟩
  · obtain ⟨v, d, rfl, _⟩ := h; rfl
  obtain ⟨v, d, rfl, hd, q⟩ := h
  refine ⟨_, (pss_one (ps_ret (pe_and (pe_cmpR op_isTyB (pe_callTy call_type1 (by rfl) T.z_type (by decide +kernel) (pa_cons (pv 0) pa_nil)) (pe_bltn (v := .ty "int") (by rfl) T.z_int (by decide +kernel) rfl) (nomark _)) (pe_one (pe_chain op_le op_lt pe_int (pv 0) (pe_callB call_len (by rfl) T.z_len (by decide +kernel) (pa_cons (pe_globS (by rfl) T.g_BASE_LETTERS) pa_nil))))))), ?_⟩
  refine ⟨_, rfl, _, _, rfl, hd.ty, _, _, rfl, rfl, _, rfl, ?_⟩
  refine ite2 (fun c => ?_) (fun c => ?_)
  · have c' := of_decide_eq_true c
    cases hd <;> simp [tyN] at c'
    rename_i n
    refine ⟨_, rfl, _, _, rfl, rfl, _, rfl, ?_⟩
    have q' : Q (.bl (decide (0 ≤ n) && decide (n < 8))) H := q
    refine ite2 (fun c2 => ?_) (fun c2 => ?_)
    · refine ⟨_, _, rfl, ⟨letters_fit, rfl⟩, _, _, rfl, rfl, ?_⟩
      rw [letters8]
      rw [c2, Bool.true_and] at q'
      exact q'
    · rw [Bool.eq_false_iff.mpr c2, Bool.false_and] at q'
      exact q'
  · have c' := of_decide_eq_false (Bool.eq_false_iff.mpr c)
    have e : isBn d = false := by cases d <;> first | rfl | (simp [tyN] at c')
    rw [e] at q
    exact q
/-- the words of SIGN_OF_WORD -/
theorem sow (w : Str) : ([(("both" : Str), V.str "*"), ("from", .str ">")].lookup w).isSome = (decide (w = "both") || decide (w = "from")) := by
  by_cases h : w = "both"
  · subst h; rfl
  · by_cases h2 : w = "from"
    · subst h2; rfl
    · have e1 : (w == ("both" : Str)) = false := beq_eq_false_iff_ne.mpr h
      have e2 : (w == ("from" : Str)) = false := beq_eq_false_iff_ne.mpr h2
      simp [List.lookup, e1, e2, h, h2]
theorem ok_is_kind_but_for_parts (A : At K mg "_is_kind_but_for_parts" s_is_kind_but_for_parts) (T : Txt K mg w CN CT) (C_is_base_number : Cal P w K mg base CX0 1 "is_base_number" ["thing"] (spBn K)) : Cal P w K mg base CX0 2 "_is_kind_but_for_parts" ["thing"] (spShp K) := by
  obtain ⟨f, fd, F, m⟩ := A
  refine ⟨f, fd, F.ok sc_is_kind_but_for_parts (fun vs H Q E h => ?_) (fun cdv A outer s H vs Q E hr h => ?_), F.binds (ps := ["thing"]) (fun _ _ _ _ _ _ us hl => match us, hl with | [_], _ => rfl), F.kp, m⟩
  · obtain ⟨v, d, rfl, _⟩ := h; rfl
  obtain ⟨v, d, rfl, hd, q⟩ := h
  refine ⟨_, (pss_cons (ps_if (PW.pt (pw_or (pt_cmpR op_notTyB (pe_callTy call_type1 (by rfl) T.z_type (by decide +kernel) (pa_cons (pv 0) pa_nil)) (pe_bltn (v := .ty "tuple") (by rfl) T.z_tuple (by decide +kernel) rfl) (nomark _)) (pw_or1 (pt_cmpR (op_eqA (room200 hr)) (pe_callB call_len (by rfl) T.z_len (by decide +kernel) (pa_cons (pv 0) pa_nil)) pe_int (nomark _)))))
   (pss_one (ps_ret pe_bl))
   pss_nil)
  (pss_cons (ps_set (i := 1) sc_is_kind_but_for_parts.nd rfl (by first | exact Or.inl rfl | exact Or.inr rfl) (pe_ix ix_B (pv 0) pe_int (fun _ _ => rfl)))
  (pss_cons (ps_if (pt_cmpR op_notTyB (pe_callTy call_type1 (by rfl) T.z_type (by decide +kernel) (pa_cons (pv 1) pa_nil)) (pe_bltn (v := .ty "str") (by rfl) T.z_str (by decide +kernel) rfl) (nomark _))
   (pss_one (ps_ret pe_bl))
   pss_nil)
  (pss_cons (ps_if (pt_cmpR (op_eqA (room200 hr)) (pv 1) pe_str (nomark _))
   (pss_one (ps_ret (pe_and (pe_cmpR (op_eqA (room200 hr)) (pe_callB call_len (by rfl) T.z_len (by decide +kernel) (pa_cons (pv 0) pa_nil)) pe_int (nomark _)) (pe_one (pe_calC C_is_base_number (hr.mono (by first | decide | omega)) pass0 (pa_cons (pe_ix ix_B (pv 0) pe_int (fun _ _ => rfl)) pa_nil))))))
   pss_nil)
  (pss_cons (ps_if (pt_cmpR (op_eqA (room200 hr)) (pv 1) pe_str (nomark _))
   (pss_one (ps_ret (pe_cmpR (op_eqA (room200 hr)) (pe_callB call_len (by rfl) T.z_len (by decide +kernel) (pa_cons (pv 0) pa_nil)) pe_int (nomark _))))
   pss_nil)
  (pss_one (ps_ret (pe_and (pe_cmpR op_in_DS (pv 1) (pe_globD (by rfl) T.g_SIGN_OF_WORD) rfl) (pe_one (pe_cmpR (op_eqA (room200 hr)) (pe_callB call_len (by rfl) T.z_len (by decide +kernel) (pa_cons (pv 0) pa_nil)) pe_int (nomark _))))))))))), ?_⟩
  refine ⟨_, rfl, _, _, rfl, hd.ty, _, _, rfl, rfl, _, rfl, ?_⟩
  by_cases ht : tyN d = "tuple"
  · rw [ht]
    refine iteF ?_
    cases hd <;> simp [tyN] at ht
    rename_i a xs ds hs ha
    have hlen := ha.length
    refine ⟨_, rfl, _, _, rfl, .inr ⟨_, hs, rfl⟩, .inl ⟨rfl, _, rfl, ?_⟩⟩
    cases ha with
    | nil => exact iteT q
    | cons h1 h2 =>
      rename_i v1 vs1 d1 ds1
      have hlen1 := h2.length
      refine iteF' (decide_eq_false (by intro z; have z' := V.int.inj z; rw [List.length_cons] at z'; omega)) ?_
      refine ⟨_, rfl, .inl (.inr (.inl ⟨a, _, 0, v1, rfl, rfl, hs, at0 _ _, ?_⟩))⟩
      refine ⟨_, rfl, _, _, rfl, h1.ty, _, _, rfl, rfl, _, rfl, ?_⟩
      by_cases ht1 : tyN d1 = "str"
      · rw [ht1]
        refine iteF ?_
        cases h1 <;> simp [tyN] at ht1
        rename_i z
        refine ⟨_, rfl, .inl ⟨rfl, _, rfl, ?_⟩⟩
        by_cases hb : z = "base"
        · subst hb
          refine iteT' (decide_eq_true rfl) ?_
          refine ⟨_, rfl, _, _, rfl, .inr ⟨_, hs, rfl⟩, .inl ⟨rfl, _, rfl, ?_⟩⟩
          cases h2 with
          | nil => exact iteF' (by decide) (qbl q (by simp [shp]))
          | cons h3 h4 =>
            rename_i v2 vs2 d2 ds2
            cases h4 with
            | nil =>
              refine iteT' (decide_eq_true rfl) ?_
              exact ⟨_, rfl, .inl (.inr (.inl ⟨a, _, 1, v2, rfl, rfl, hs, at1 _ _ _, v2, d2, rfl, h3, qbl q (by simp [shp])⟩))⟩
            | cons h5 h6 => exact iteF' (decide_eq_false (by intro z; have z' := V.int.inj z; simp only [List.length_cons] at z'; omega)) (qbl q (by simp [shp]))
        · refine iteF' (decide_eq_false fun z => hb (V.str.inj z)) ?_
          refine ⟨_, rfl, .inl ⟨rfl, _, rfl, ?_⟩⟩
          by_cases hu : z = "unit"
          · subst hu
            refine iteT' (decide_eq_true rfl) ?_
            refine ⟨_, rfl, _, _, rfl, .inr ⟨_, hs, rfl⟩, .inl ⟨rfl, qbl q ?_⟩⟩
            cases ds1 with
            | nil => simp [shp, unit_ne_base, hlen1]
            | cons x r => simp [shp, unit_ne_base, hlen1]; omega
          · refine iteF' (decide_eq_false fun z => hu (V.str.inj z)) ?_
            refine ⟨_, rfl, fun dd hD => ⟨z, dd, _, rfl, rfl, hD, _, rfl, ?_⟩⟩
            rw [if_neg Bool.false_ne_true, sow]
            have e0 : shp (.tuple (.str z :: ds1)) = ((decide (z = "both") || decide (z = "from")) && ds1.length == 2) := by simp [shp, hb, hu]
            rw [e0] at q
            refine ite2 (fun c => ?_) (fun c => ?_)
            · rw [c, Bool.true_and] at q
              refine ⟨_, rfl, _, _, rfl, .inr ⟨_, hs, rfl⟩, .inl ⟨rfl, qbl q ?_⟩⟩
              rw [List.length_cons, hlen1]
              by_cases h2 : ds1.length = 2
              · rw [h2]; rfl
              · rw [beq_eq_false_iff_ne.mpr h2]
                exact (decide_eq_false fun z => h2 (by have z' := V.int.inj z; omega)).symm
            · rw [Bool.eq_false_iff.mpr c, Bool.false_and] at q
              exact q
      · refine iteT' (by simp [ht1]) ?_
        exact qbl q (by cases d1 <;> first | (simp [shp]; done) | (simp [tyN] at ht1))
  · refine iteT' (by simp [ht]) ?_
    exact qbl q (by cases d <;> first | (simp [shp]; done) | (simp [tyN] at ht))
end

section
variable {P : Program} {w : World} {K : PySem.W.Frag} {mg : Str → Option Value} {base : Heap} {CN CT : Addr}
theorem ok_is_kind (A : At K mg "is_kind" s_is_kind) (T : Txt K mg w CN CT) (C_is_kind_but_for_parts : Cal P w K mg base CX0 2 "_is_kind_but_for_parts" ["thing"] (spShp K)) : Cal P w K mg base CX0 3 "is_kind" ["thing"] (spIsKd K) := by
  obtain ⟨f, fd, F, m⟩ := A
  refine ⟨f, fd, F.ok sc_is_kind (fun vs H Q E h => ?_) (fun cdv A outer s H vs Q E hr h => ?_), F.binds (ps := ["thing"]) (fun _ _ _ _ _ _ us hl => match us, hl with | [_], _ => rfl), F.kp, m⟩
  · obtain ⟨v, d, rfl, _⟩ := h; rfl
  obtain ⟨v, d, rfl, hd, hz, q⟩ := h
  refine ⟨_, (pss_cons (ps_set (i := 1) sc_is_kind.nd rfl (by first | exact Or.inl rfl | exact Or.inr rfl) (pe_lst (pa_cons (pv 0) pa_nil)))
  (pss_cons (ps_while PassesOwn.never (pt_truth (pv 1) (by intro _; rfl))
   (pss_cons (ps_set (i := 2) sc_is_kind.nd rfl (by first | exact Or.inl rfl | exact Or.inr rfl) (pe_bm0 PySem.F.plainAttrs_list PySem.F.slot_list_pop PySem.F.type_list_pop mt_pop (pv 1) ))
  (pss_cons (ps_if (pt_not (pt_val (pe_calC C_is_kind_but_for_parts (hr.mono (by first | decide | omega)) pass0 (pa_cons (pv 2) pa_nil))))
   (pss_one (ps_ret pe_bl))
   pss_nil)
  (pss_one (ps_if (pt_cmpR op_in_DS (pe_ix ix_B (pv 2) pe_int (fun _ _ => rfl)) (pe_globD (by rfl) T.g_SIGN_OF_WORD) rfl)
   (pss_one (ps_expr (pe_bm PySem.F.plainAttrs_list PySem.F.slot_list_extend PySem.F.type_list_extend mt_extendT (pv 1) (pa_cons (pe_slice sl_A (pv 2) (po_some pe_int) po_none) pa_nil))))
   pss_nil)))))
  (pss_one (ps_ret pe_bl)))), ?_⟩
  refine ⟨_, rfl, (by show 1 ≤ sizeLine; decide), fun l hl => ?_⟩
  refine ⟨fun n σ H' => ∃ vs ds o, σ = [some v, some (.ref l), o] ∧ H' l = some (.lst vs) ∧ DqAll K (out l H') vs ds ∧ n = szs ds ∧ n ≤ sz d ∧ Same H (out l H') ∧ isKd d = ds.all isKd,
    ⟨sz d, [v], [d], none, rfl, upd_same, .cons (hd.same (same_keepO' hl)) .nil, by simp [szs], Nat.le_refl _, same_keepO' hl, by simp⟩, ?_⟩
  rintro n σ H1 ⟨vs, ds, o, rfl, e1, ha, rfl, hn, sm, hk⟩
  refine ⟨_, rfl, _, .inl ⟨vs, .of e1, rfl⟩, ?_⟩
  have hlen := ha.length
  rcases List.eq_nil_or_concat ds with hds | ⟨ds', x, hds⟩
  · subst hds
    cases ha
    exact iteF' rfl (qbl (q _ (of_out sm)) (by rw [hk]; rfl))
  · rw [List.concat_eq_append] at hds
    subst hds
    obtain ⟨us, y, rfl, ha1, hx⟩ := ha.last
    refine iteT' (by simp) ⟨_, fun _ _ z => z, ?_⟩
    refine ⟨_, rfl, .inl ⟨rfl, _, .of e1⟩, l, us ++ [y], y, rfl, rfl, e1, last_at us y, ?_⟩
    rw [dl_append]
    have hx' : Dq K (upd H1 l (.lst us)) y x := hx.same out_upd
    have hsz : szs (ds' ++ [x]) = szs ds' + sz x := by rw [szs_append]; simp [szs]
    have hk' : isKd d = (ds'.all isKd && isKd x) := by rw [hk, List.all_append]; simp
    have hsm : Same H (out l (upd H1 l (.lst us))) := same_keepO sm _
    refine ⟨_, rfl, y, x, rfl, hx', _, rfl, ?_⟩
    by_cases hs : shp x = true
    · refine iteF' (by rw [hs]; rfl) ?_
      obtain ⟨wd, r, rfl⟩ := shp_is x hs
      have hturn := isKd_turn (.tuple (.str wd :: r))
      rw [hs, Bool.true_and] at hturn
      have hkz := kids_sz (.tuple (.str wd :: r))
      cases hx with
      | tup hS hA =>
        rename_i a xs
        cases hA with
        | cons h1 h2 =>
          rename_i v1 vs1
          cases h1
          have hS2 : SqT K (upd H1 l (.lst us)) a (V.str wd :: vs1) := KB.Same.tup out_upd hS
          refine ⟨_, rfl, .inl (.inr (.inl ⟨a, _, 0, _, rfl, rfl, hS2, at0 _ _, ?_⟩))⟩
          refine fun dd hD => ⟨wd, dd, _, rfl, rfl, hD, _, rfl, ?_⟩
          rw [if_neg Bool.false_ne_true, sow]
          refine ite2 (fun c => ?_) (fun c => ?_)
          · have ek : kids (.tuple (.str wd :: r)) = r := by
              simp only [kids]
              rw [if_pos (by simpa using c)]
            rw [ek] at hturn hkz
            refine ⟨_, rfl, .inl ⟨rfl, _, .of upd_same⟩, _, rfl, 1, rfl, .inr (.inl ⟨a, _, rfl, hS2, cut1_not _ _, fun p hp => ?_⟩)⟩
            rw [cut1]
            have npl : l ≠ p := ne_of_none upd_same hp
            have hl1 := ha1.length
            have hl2 := h2.length
            have hb1 := len_szs ds'
            have hb2 := len_szs r
            refine ⟨l, p, us, vs1, rfl, rfl, by rw [upd_ne npl]; exact upd_same, .of upd_same, fits (by omega), ?_⟩
            have s1 : Same (out l H1) (out l (upd (upd (upd H1 l (.lst us)) p (.tup vs1)) l (.lst (us ++ vs1)))) := (out_set _).trans ((out_new hp _).trans (out_set _))
            exact ⟨szs (ds' ++ r), by rw [hsz, szs_append]; omega, us ++ vs1, ds' ++ r, _, rfl, upd_same, (ha1.same s1).append (h2.same s1), rfl, by rw [szs_append]; omega, sm.trans s1, by rw [hk', hturn, List.all_append]⟩
          · have ek : kids (.tuple (.str wd :: r)) = [] := by
              simp only [kids]
              rw [if_neg (by simpa using c)]
            rw [ek] at hturn
            have s1 : Same (out l H1) (out l (upd H1 l (.lst us))) := out_set _
            exact ⟨szs ds', by have := sz_pos (.tuple (.str wd :: r)); omega, us, ds', _, rfl, upd_same, ha1.same s1, rfl, by omega, hsm, by rw [hk', hturn]; simp⟩
    · have hs' : shp x = false := Bool.eq_false_iff.mpr hs
      refine iteT' (by rw [hs']; rfl) ?_
      exact qbl (q _ (of_out hsm)) (by rw [hk', isKd_turn x, hs']; simp)
end

/-! ## need_kind -/
def spNeed (K : PySem.W.Frag) (CN : Addr) : Sp := fun vs H Q E => ∃ v d, vs = [v] ∧ Dq K H v d ∧ sz d ≤ 1000000 ∧
  (isKd d = true → ∀ H', Same H H' → Q .non H') ∧ (isKd d = false → ∀ H', Same H H' → E (.ref CN) none H')
abbrev s_need_kind : Stmt := top 11
theorem sc_need_kind : FnScope ["thing"] ["thing"] (defScope s_need_kind) := ⟨rfl, rfl, rfl, by decide +kernel, rfl, by decide +kernel, by decide +kernel⟩
section
variable {P : Program} {w : World} {K : PySem.W.Frag} {mg : Str → Option Value} {base : Heap} {CN CT : Addr}
theorem ok_need_kind (A : At K mg "need_kind" s_need_kind) (T : Txt K mg w CN CT) (C_is_kind : Cal P w K mg base CX0 3 "is_kind" ["thing"] (spIsKd K)) : Cal P w K mg base (L2.CX P w) 4 "need_kind" ["thing"] (spNeed K CN) := by
  obtain ⟨f, fd, F, m⟩ := A
  refine ⟨f, fd, F.okX sc_need_kind (fun vs H Q E h => ?_) (fun cdv A outer s H vs Q E hr h => ?_), F.binds (ps := ["thing"]) (fun _ _ _ _ _ _ us hl => match us, hl with | [_], _ => rfl), F.kp, m⟩
  · obtain ⟨v, d, rfl, _⟩ := h; rfl
  obtain ⟨v, d, rfl, hd, hz, q1, q2⟩ := h
  refine ⟨_, (pss_one (ps_if (pt_not (pt_val (pe_calC C_is_kind (hr.mono (by first | decide | omega)) pass0 (pa_cons (pv 0) pa_nil))))
   (pss_one (ps_raiseO rfl (takes_of rfl rfl rfl rfl) T.e_NoKind))
   pss_nil)), ?_⟩
  refine ⟨_, rfl, v, d, rfl, hd, hz, fun H' sm => ⟨_, rfl, ?_⟩⟩
  by_cases hk : isKd d = true
  · exact iteF' (by rw [hk]; rfl) (q1 hk H' sm)
  · have hk' : isKd d = false := Bool.eq_false_iff.mpr hk
    exact iteT' (by rw [hk']; rfl) (q2 hk' H' sm)
end

/-! ## the look of a term -/
abbrev s_Part___init__ : Stmt := (defIn (top 14) 0)
theorem sc_Part___init__ : FnScope ["self", "word", "kind", "parts", "number", "needs"] ["self", "word", "kind", "parts", "number", "needs"] (defScope s_Part___init__) := ⟨rfl, rfl, rfl, by decide +kernel, rfl, by decide +kernel, by decide +kernel⟩
structure TxT (K : PySem.W.Frag) (mg : Str → Option Value) (w : World) (CP CE : Addr) : Prop where
  z_len : mg "len" = none
  z_type : mg "type" = none
  z_tuple : mg "tuple" = none
  z_str : mg "str" = none
  z_int : mg "int" = none
  z_reversed : mg "reversed" = none
  z_sorted : mg "sorted" = none
  g_LENGTHS : ∃ d, mg "LENGTHS" = some (.ref d) ∧ DictS K w d [("given", .int 2), ("make", .int 3), ("do", .int 3), ("both", .int 3), ("first", .int 2), ("second", .int 2), ("unit", .int 1)]
  g_Part : mg "Part" = some (.ref CP)
  cls : Cls K CP
  no_word : NoAttr K CP "word"
  no_kind : NoAttr K CP "kind"
  no_parts : NoAttr K CP "parts"
  no_number : NoAttr K CP "number"
  no_needs : NoAttr K CP "needs"
  makes : ∃ fI fd, Fun K "__init__" "Part.__init__" s_Part___init__ fI fd ∧ Mk K CP fI
  e_NoTerm : ExcF K mg "NoTerm" CE
def lens : List (Str × V) := [("given", .int 2), ("make", .int 3), ("do", .int 3), ("both", .int 3), ("first", .int 2), ("second", .int 2), ("unit", .int 1)]
theorem lens_look (w : Str) : lens.lookup w = (lenOf w).map fun n => V.int (n : Nat) := by
  unfold lens lenOf
  by_cases h1 : w = "given"
  · subst h1; rfl
  by_cases h2 : w = "make"
  · subst h2; rfl
  by_cases h3 : w = "do"
  · subst h3; rfl
  by_cases h4 : w = "both"
  · subst h4; rfl
  by_cases h5 : w = "first"
  · subst h5; rfl
  by_cases h6 : w = "second"
  · subst h6; rfl
  by_cases h7 : w = "unit"
  · subst h7; rfl
  have n : ∀ {u : Str}, w ≠ u → (w == u) = false := fun h => beq_eq_false_iff_ne.mpr h
  simp [List.lookup, n h1, n h2, n h3, n h4, n h5, n h6, n h7, h1, h2, h3, h4, h5, h6, h7]
/-- the data that must be terms for data to be one -/
def partsD : PyData → List PyData
  | .tuple (.str w :: r) => if w = "given" then [] else if w = "make" then r.drop 1 else r
  | _ => []
def spPieces (K : PySem.W.Frag) (CE : Addr) : Sp := fun vs H Q E => ∃ v d G, vs = [v] ∧ Same G H ∧ Dq K G v d ∧ sz d ≤ 1000000 ∧
  (pcB d = false → ∀ H', Same H H' → E (.ref CE) none H') ∧ (pcB d = true → ∀ p xs H', Same H H' → SqT K H' p xs → DqAll K G xs (partsD d) → Q (.ref p) H')
abbrev s_pieces : Stmt := top 16
theorem sc_pieces : FnScope ["thing", "word"] ["thing"] (defScope s_pieces) := ⟨rfl, rfl, rfl, by decide +kernel, rfl, by decide +kernel, by decide +kernel⟩
section
variable {P : Program} {w : World} {K : PySem.W.Frag} {mg : Str → Option Value} {base : Heap} {CN CT CP CE : Addr}
theorem cut2 {x y : V} {xs : List V} : cutV (x :: y :: xs) (some 2) none = xs := by
  simp [cutV, HT.sIx]
theorem cut2_not (x y : V) (xs : List V) : ¬ (HT.sIx (x :: y :: xs).length 0 (some 2) = 0 ∧ HT.sIx (x :: y :: xs).length (x :: y :: xs).length none = (x :: y :: xs).length) := fun h => by
  have h1 := h.1
  simp [HT.sIx] at h1
theorem ok_pieces (A : At K mg "_pieces" s_pieces) (T : TxT K mg w CP CE) (C_is_kind : Cal P w K mg base CX0 3 "is_kind" ["thing"] (spIsKd K)) : Cal P w K mg base (L2.CX P w) 4 "_pieces" ["thing"] (spPieces K CE) := by
  obtain ⟨f, fd, F, m⟩ := A
  refine ⟨f, fd, F.okX sc_pieces (fun vs H Q E h => ?_) (fun cdv A outer s H vs Q E hr h => ?_), F.binds (ps := ["thing"]) (fun _ _ _ _ _ _ us hl => match us, hl with | [_], _ => rfl), F.kp, m⟩
  · obtain ⟨v, d, G, rfl, _⟩ := h; rfl
  obtain ⟨v, d, G, rfl, sG, hd, hz, q1, q2⟩ := h
  refine ⟨_, (pss_cons (ps_if (PW.pt (pw_or (pt_cmpR op_notTyB (pe_callTy call_type1 (by rfl) T.z_type (by decide +kernel) (pa_cons (pv 0) pa_nil)) (pe_bltn (v := .ty "tuple") (by rfl) T.z_tuple (by decide +kernel) rfl) (nomark _)) (pw_or1 (pt_cmpR (op_eqA (room200 hr)) (pe_callB call_len (by rfl) T.z_len (by decide +kernel) (pa_cons (pv 0) pa_nil)) pe_int (nomark _)))))
   (pss_one (ps_raiseO rfl (takes_of rfl rfl rfl rfl) T.e_NoTerm))
   pss_nil)
  (pss_cons (ps_set (i := 1) sc_pieces.nd rfl (by first | exact Or.inl rfl | exact Or.inr rfl) (pe_ix ix_B (pv 0) pe_int (fun _ _ => rfl)))
  (pss_cons (ps_if (PW.pt (pw_or (pt_cmpR op_notTyB (pe_callTy call_type1 (by rfl) T.z_type (by decide +kernel) (pa_cons (pv 1) pa_nil)) (pe_bltn (v := .ty "str") (by rfl) T.z_str (by decide +kernel) rfl) (nomark _)) (pw_or (pt_cmpR op_notIn_DS (pv 1) (pe_globD (by rfl) T.g_LENGTHS) rfl) (pw_or1 (pt_cmpR (op_neA (room200 hr)) (pe_callB call_len (by rfl) T.z_len (by decide +kernel) (pa_cons (pv 0) pa_nil)) (pe_ix ix_B (pe_globD (by rfl) T.g_LENGTHS) (pv 1) (fun _ _ => rfl)) (nomark _))))))
   (pss_one (ps_raiseO rfl (takes_of rfl rfl rfl rfl) T.e_NoTerm))
   pss_nil)
  (pss_cons (ps_if (pt_cmpR (op_eqA (room200 hr)) (pv 1) pe_str (nomark _))
   (pss_one (ps_ret (pe_tup pa_nil)))
   pss_nil)
  (pss_cons (ps_if (pt_cmpR (op_eqA (room200 hr)) (pv 1) pe_str (nomark _))
   (pss_cons (ps_if (pt_not (pt_val (pe_calC C_is_kind (hr.mono (by first | decide | omega)) pass0 (pa_cons (pe_ix ix_B (pv 0) pe_int (fun _ _ => rfl)) pa_nil))))
   (pss_one (ps_raiseO rfl (takes_of rfl rfl rfl rfl) T.e_NoTerm))
   pss_nil)
  (pss_one (ps_ret (pe_slice sl_A (pv 0) (po_some pe_int) po_none))))
   pss_nil)
  (pss_one (ps_ret (pe_slice sl_A (pv 0) (po_some pe_int) po_none)))))))), ?_⟩
  have qn : ∀ {H'}, Same H H' → pcB d = false → E (.ref CE) none H' := fun sm h => q1 h _ sm
  refine ⟨_, rfl, _, _, rfl, (hd.same sG).ty, _, _, rfl, rfl, _, rfl, ?_⟩
  by_cases ht : tyN d = "tuple"
  · rw [ht]
    refine iteF ?_
    cases hd <;> simp [tyN] at ht
    rename_i a xs ds hs0 ha
    have hs := KB.Same.tup sG hs0
    have hlen := ha.length
    refine ⟨_, rfl, _, _, rfl, .inr ⟨_, hs, rfl⟩, .inl ⟨rfl, _, rfl, ?_⟩⟩
    cases ha with
    | nil => exact iteT' (by simp) (qn (Same.refl _) rfl)
    | cons h1 h2 =>
      rename_i v1 vs1 d1 ds1
      have hlen1 := h2.length
      refine iteF' (decide_eq_false (by intro z; have z' := V.int.inj z; rw [List.length_cons] at z'; omega)) ?_
      refine ⟨_, rfl, .inl (.inr (.inl ⟨a, _, 0, v1, rfl, rfl, hs, at0 _ _, ?_⟩))⟩
      refine ⟨_, rfl, _, _, rfl, (h1.same sG).ty, _, _, rfl, rfl, _, rfl, ?_⟩
      by_cases ht1 : tyN d1 = "str"
      · rw [ht1]
        refine iteF ?_
        cases h1 <;> simp [tyN] at ht1
        rename_i z
        have ep : pcB (.tuple (.str z :: ds1)) = (decide (lenOf z = some (ds1.length + 1)) && (!decide (z = "make") || hdK ds1)) := rfl
        refine ⟨_, rfl, fun dd hD => ⟨z, dd, _, rfl, rfl, hD, _, rfl, ?_⟩⟩
        rw [if_pos rfl, show ([(("given" : Str), V.int 2), ("make", .int 3), ("do", .int 3), ("both", .int 3), ("first", .int 2), ("second", .int 2), ("unit", .int 1)].lookup z) = (lenOf z).map (fun n => V.int (n : Nat)) from lens_look z]
        cases el : lenOf z with
        | none => exact iteT' rfl (qn (Same.refl _) (by rw [ep, el]; rfl))
        | some n =>
          refine iteF' rfl ?_
          refine ⟨_, rfl, _, _, rfl, .inr ⟨_, hs, rfl⟩, fun d2 hD2 => ⟨_, rfl, .inr ⟨z, d2, _, _, rfl, rfl, hD2, (lens_look z).trans (by rw [el]; rfl), .inl ⟨rfl, _, rfl, ?_⟩⟩⟩⟩
          rw [List.length_cons, hlen1]
          by_cases c : n = ds1.length + 1
          · subst c
            refine iteF' (by simp) ?_
            have ep2 : pcB (.tuple (.str z :: ds1)) = (!decide (z = "make") || hdK ds1) := by rw [ep, el, decide_eq_true rfl, Bool.true_and]
            refine ⟨_, rfl, .inl ⟨rfl, _, rfl, ?_⟩⟩
            by_cases cg : z = "given"
            · subst cg
              refine iteT' (by simp) ⟨Nat.zero_le _, fun t0 h0 => ?_⟩
              exact q2 (by rw [ep2]; rfl) t0 [] _ (same_new h0 _) (.of upd_same) .nil
            refine iteF' (by simpa using cg) ⟨_, rfl, .inl ⟨rfl, _, rfl, ?_⟩⟩
            by_cases cm : z = "make"
            · subst cm
              refine iteT' (by simp) ?_
              have l2 : ds1.length = 2 := by
                have : lenOf "make" = some 3 := by decide +kernel
                rw [this] at el
                have := Option.some.inj el
                omega
              cases h2 with
              | nil => cases l2
              | cons h3 h4 =>
              rename_i v2 vs2 x r2
              cases h4 with
              | nil => cases l2
              | cons h4 h5 =>
              rename_i v3 vs3 y r3
              cases h5 with
              | cons _ _ => simp only [List.length_cons] at l2; omega
              | nil =>
                have zx : sz x ≤ 1000000 := by simp only [sz, szs] at hz; omega
                refine ⟨_, rfl, .inl (.inr (.inl ⟨a, _, 1, v2, rfl, rfl, hs, at1 _ _ _, v2, x, rfl, h3.same sG, zx, fun H' sm => ⟨_, rfl, ?_⟩⟩))⟩
                by_cases hk : isKd x = true
                · refine iteF' (by rw [hk]; rfl) ⟨_, rfl, 2, rfl, .inr (.inl ⟨a, _, rfl, KB.Same.tup sm hs, cut2_not _ _ _, fun p hp => ?_⟩)⟩
                  rw [cut2]
                  have s2 := sm.trans (same_new hp (.tup [v3]))
                  exact q2 (by rw [ep2]; simp [hk, hdK]) p [v3] _ s2 (.of upd_same) (.cons h4 .nil)
                · have hk' : isKd x = false := Bool.eq_false_iff.mpr hk
                  exact iteT' (by rw [hk']; rfl) (qn sm (by rw [ep2]; simp [hk', hdK]))
            refine iteF' (by simpa using cm) ⟨_, rfl, 1, rfl, .inr (.inl ⟨a, _, rfl, hs, cut1_not _ _, fun p hp => ?_⟩)⟩
            rw [cut1]
            have s2 := same_new hp (.tup vs1)
            refine q2 (by rw [ep2]; simp [cm]) p vs1 _ s2 (.of upd_same) ?_
            show DqAll K _ vs1 (if z = "given" then [] else if z = "make" then ds1.drop 1 else ds1)
            rw [if_neg cg, if_neg cm]
            exact h2
          · exact iteT' (by simp; omega) (qn (Same.refl _) (by rw [ep, el, decide_eq_false (by simpa using c)]; rfl))
      · refine iteT' (by simp [ht1]) ?_
        exact qn (Same.refl _) (by cases d1 <;> first | rfl | (simp [tyN] at ht1))
  · refine iteT' (by simp [ht]) ?_
    exact qn (Same.refl _) (by cases d <;> first | rfl | (simp [tyN] at ht))
end

/-- a kind by its first word -/
theorem kd_split {K : PySem.W.Frag} {H : Hp} {v : V} (k : Kd) (hd : Dq K H v k.dat) :
    (∃ a n, k = .b n ∧ v = .ref a ∧ SqT K H a [.str "base", .int (n : Nat)]) ∨ (∃ a, k = .u ∧ v = .ref a ∧ SqT K H a [.str "unit"]) ∨
    ∃ (mk : Kd → Kd → Kd) (wd : Str) (x y : Kd) (a : Addr) (v1 v2 : V), k = mk x y ∧ Mk2 mk wd ∧ ((mk = Kd.p ∧ wd = "both") ∨ (mk = Kd.f ∧ wd = "from")) ∧ v = .ref a ∧ SqT K H a [.str wd, v1, v2] ∧ Dq K H v1 x.dat ∧ Dq K H v2 y.dat := by
  cases k with
  | b n =>
    cases hd with
    | tup hS hA =>
      cases hA with
      | cons h1 h2 =>
        cases h1
        cases h2 with
        | cons h3 h4 =>
          cases h4; cases h3
          exact .inl ⟨_, _, rfl, rfl, hS⟩
  | u =>
    cases hd with
    | tup hS hA =>
      cases hA with
      | cons h1 h2 => cases h1; cases h2; exact .inr (.inl ⟨_, rfl, rfl, hS⟩)
  | p x y =>
    cases hd with
    | tup hS hA =>
      cases hA with
      | cons h1 h2 =>
        cases h1
        cases h2 with
        | cons h3 h4 => cases h4 with | cons h5 h6 => cases h6; exact .inr (.inr ⟨_, _, x, y, _, _, _, rfl, mk_p, .inl ⟨rfl, rfl⟩, rfl, hS, h3, h5⟩)
  | f x y =>
    cases hd with
    | tup hS hA =>
      cases hA with
      | cons h1 h2 =>
        cases h1
        cases h2 with
        | cons h3 h4 => cases h4 with | cons h5 h6 => cases h6; exact .inr (.inr ⟨_, _, x, y, _, _, _, rfl, mk_f, .inr ⟨rfl, rfl⟩, rfl, hS, h3, h5⟩)

theorem in2 {mk : Kd → Kd → Kd} {wd : Str} (M : Mk2 mk wd) : inV (V.str wd) [.str "both", .str "from"] = true := by rcases M.wd with rfl | rfl <;> decide +kernel
/-- the same, by the word alone -/
theorem kd_word {K : PySem.W.Frag} {H : Hp} {v : V} (k : Kd) (hd : Dq K H v k.dat) : ∃ (a : Addr) (wd : Str) (rest : List V), v = .ref a ∧ SqT K H a (.str wd :: rest) ∧
    (wd = "both" → ∃ (x y : Kd) (v1 v2 : V), k = .p x y ∧ rest = [v1, v2] ∧ Dq K H v1 x.dat ∧ Dq K H v2 y.dat) ∧ (wd = "from" → ∃ (x y : Kd) (v1 v2 : V), k = .f x y ∧ rest = [v1, v2] ∧ Dq K H v1 x.dat ∧ Dq K H v2 y.dat) := by
  rcases kd_split k hd with ⟨a, n, rfl, rfl, hS⟩ | ⟨a, rfl, rfl, hS⟩ | ⟨mk, wd, x, y, a, v1, v2, rfl, M, hw, rfl, hS, h1, h2⟩
  · exact ⟨a, _, _, rfl, hS, fun z => absurd z (by decide), fun z => absurd z (by decide)⟩
  · exact ⟨a, _, _, rfl, hS, fun z => absurd z (by decide), fun z => absurd z (by decide)⟩
  · rcases hw with ⟨rfl, rfl⟩ | ⟨rfl, rfl⟩
    · exact ⟨a, _, _, rfl, hS, fun _ => ⟨x, y, v1, v2, rfl, rfl, h1, h2⟩, fun z => absurd z (by decide)⟩
    · exact ⟨a, _, _, rfl, hS, fun z => absurd z (by decide), fun _ => ⟨x, y, v1, v2, rfl, rfl, h1, h2⟩⟩
theorem ixT0 {K : PySem.W.Frag} {W : World} {H : Hp} {a : Addr} {x : V} {xs : List V} {Q : VK} (h : SqT K H a (x :: xs)) (q : Q x H) : rIxB K W (.ref a) (.int 0) H Q := .inl (.inr (.inl ⟨a, _, 0, x, rfl, rfl, h, at0 _ _, q⟩))
theorem ixT1 {K : PySem.W.Frag} {W : World} {H : Hp} {a : Addr} {x y : V} {xs : List V} {Q : VK} (h : SqT K H a (x :: y :: xs)) (q : Q y H) : rIxB K W (.ref a) (.int 1) H Q := .inl (.inr (.inl ⟨a, _, 1, y, rfl, rfl, h, at1 _ _ _, q⟩))
theorem ixT2 {K : PySem.W.Frag} {W : World} {H : Hp} {a : Addr} {x y z : V} {xs : List V} {Q : VK} (h : SqT K H a (x :: y :: z :: xs)) (q : Q z H) : rIxB K W (.ref a) (.int 2) H Q := .inl (.inr (.inl ⟨a, _, 2, z, rfl, rfl, h, at2 _ _ _ _, q⟩))
theorem isU {x : Kd} (h : PyData.eqv x.dat Kd.u.dat = true) : x = .u := by
  cases x <;> simp [Kd.dat, PyData.eqv, PyData.eqvAll] at h
  rfl

/-! ## an object of a term with a kind -/
def ptF (wd kd ps nm nd : V) : List (Str × V) := [("word", wd), ("kind", kd), ("parts", ps), ("number", nm), ("needs", nd)]
theorem ptF_kind {wd kd ps nm nd : V} : (ptF wd kd ps nm nd).lookup ("kind" : Str) = some kd := by rfl
theorem ptF_needs {wd kd ps nm nd : V} : (ptF wd kd ps nm nd).lookup ("needs" : Str) = some nd := by rfl
theorem ptF_made {wd kd ps nm nd : V} : putF "needs" nd (putF "number" nm (putF "parts" ps (putF "kind" kd (putF "word" wd [])))) = ptF wd kd ps nm nd := by rfl
def spPt (CP : Addr) : Sp := fun vs H Q _ => ∃ (a dx : Addr) (wd kd ps nm nd : V), vs = [.ref a, wd, kd, ps, nm, nd] ∧ H a = some (.ins CP dx []) ∧ Q .non (upd H a (.ins CP dx (ptF wd kd ps nm nd)))
/-- at p: a term of the kind k that wants what F tells -/
def PartAt (K : PySem.W.Frag) (CP : Addr) (H : Hp) (p : Addr) (k : Kd) (F : Int → Bool) : Prop := ∃ (dx nl : Addr) (wd kv ps nm : V) (ns : List Int), H p = some (.ins CP dx (ptF wd kv ps nm (.ref nl))) ∧ Dq K H kv k.dat ∧ H nl = some (.lst (ns.map V.int)) ∧ ns.Pairwise (· < ·) ∧ ∀ q, q ∈ ns ↔ F q = true
theorem PartAt.same {K : PySem.W.Frag} {CP : Addr} {H H' : Hp} {p : Addr} {k : Kd} {F : Int → Bool} (h : PartAt K CP H p k F) (s : Same H H') : PartAt K CP H' p k F := by
  obtain ⟨dx, nl, wd, kv, ps, nm, ns, e, d, en, pw, hq⟩ := h
  exact ⟨dx, nl, wd, kv, ps, nm, ns, s _ _ e, d.same s, s _ _ en, pw, hq⟩
inductive PtsAt (K : PySem.W.Frag) (CP : Addr) (H : Hp) : List V → List (Kd × (Int → Bool)) → Prop where
  | nil : PtsAt K CP H [] []
  | cons {p : Addr} {k : Kd} {F : Int → Bool} {vs : List V} {l : List (Kd × (Int → Bool))} : PartAt K CP H p k F → PtsAt K CP H vs l → PtsAt K CP H (.ref p :: vs) ((k, F) :: l)
theorem PtsAt.same {K : PySem.W.Frag} {CP : Addr} {H H' : Hp} (s : Same H H') : ∀ {vs : List V} {l : List (Kd × (Int → Bool))}, PtsAt K CP H vs l → PtsAt K CP H' vs l
  | _, _, .nil => .nil
  | _, _, .cons a b => .cons (a.same s) (PtsAt.same s b)
theorem PtsAt.length {K : PySem.W.Frag} {CP : Addr} {H : Hp} : ∀ {vs : List V} {l : List (Kd × (Int → Bool))}, PtsAt K CP H vs l → vs.length = l.length
  | _, _, .nil => rfl
  | _, _, .cons _ b => by rw [List.length_cons, List.length_cons, b.length]
theorem PtsAt.get {K : PySem.W.Frag} {CP : Addr} {H : Hp} : ∀ {vs : List V} {l : List (Kd × (Int → Bool))}, PtsAt K CP H vs l → ∀ {i : Nat} {e : Kd × (Int → Bool)}, l[i]? = some e → ∃ p, vs[i]? = some (.ref p) ∧ PartAt K CP H p e.1 e.2
  | _, _, .nil, i, e, h => by cases h
  | _, _, .cons a b, 0, e, h => by cases h; exact ⟨_, rfl, a⟩
  | _, _, .cons a b, i + 1, e, h => PtsAt.get b h
section
variable {P : Program} {w : World} {K : PySem.W.Frag} {mg : Str → Option Value} {base : Heap} {CP CE : Addr}
theorem ok_pt (T : TxT K mg w CP CE) : ∃ fI fd, FnOk P w K mg base CX0 1 fI fd ["self", "word", "kind", "parts", "number", "needs"] (spPt CP) ∧ Fun K "__init__" "Part.__init__" s_Part___init__ fI fd ∧ Mk K CP fI := by
  obtain ⟨fI, fd, F, M⟩ := T.makes
  refine ⟨fI, fd, F.ok sc_Part___init__ (fun vs H Q E h => ?_) (fun cdv A outer s H vs Q E hr h => ?_), F, M⟩
  · obtain ⟨a, dx, wd, kd, ps, nm, nd, rfl, _⟩ := h; rfl
  obtain ⟨a, dx, wd, kd, ps, nm, nd, rfl, e, q⟩ := h
  refine ⟨_, (pss_cons (ps_fld (pv 0) (pv 1) rfl)
  (pss_cons (ps_fld (pv 0) (pv 2) rfl)
  (pss_cons (ps_fld (pv 0) (pv 3) rfl)
  (pss_cons (ps_fld (pv 0) (pv 4) rfl)
  (pss_one (ps_fld (pv 0) (pv 5) rfl)))))), ?_⟩
  have l1 := putF_le (f := "word") (v := wd) (fs := [])
  have l2 := putF_le (f := "kind") (v := kd) (fs := putF "word" wd [])
  have l3 := putF_le (f := "parts") (v := ps) (fs := putF "kind" kd (putF "word" wd []))
  have l4 := putF_le (f := "number") (v := nm) (fs := putF "parts" ps (putF "kind" kd (putF "word" wd [])))
  rw [List.length_nil] at l1
  refine ⟨_, rfl, _, rfl, a, CP, dx, [], rfl, e, T.cls, T.no_word, by decide, ?_⟩
  refine ⟨_, rfl, _, rfl, a, CP, dx, _, rfl, upd_same, T.cls, T.no_kind, by omega, ?_⟩
  refine ⟨_, rfl, _, rfl, a, CP, dx, _, rfl, upd_same, T.cls, T.no_parts, by omega, ?_⟩
  refine ⟨_, rfl, _, rfl, a, CP, dx, _, rfl, upd_same, T.cls, T.no_number, by omega, ?_⟩
  refine ⟨_, rfl, _, rfl, a, CP, dx, _, rfl, upd_same, T.cls, T.no_needs, by omega, ?_⟩
  rw [upd_twice, upd_twice, upd_twice, upd_twice, ptF_made]
  exact q
end
theorem same_made {H : Hp} {x dx C : Addr} {fs : List (Str × V)} (hx : H x = none) (hd : H dx = none) : Same H (upd (upd (upd H dx (.own x)) x (.ins C dx [])) x (.ins C dx fs)) := fun b o e => by
  have n1 : b ≠ x := ne_of_none e hx
  have n2 : b ≠ dx := ne_of_none e hd
  rw [upd_ne n1, upd_ne n1, upd_ne n2]
  exact e
theorem part_made {K : PySem.W.Frag} {CP : Addr} {H : Hp} {x dx nl : Addr} {wd kd ps nm : V} {k : Kd} {F : Int → Bool} {ns : List Int} (hx : H x = none) (hd : H dx = none) (dk : Dq K H kd k.dat) (en : H nl = some (.lst (ns.map V.int))) (pw : ns.Pairwise (· < ·)) (hq : ∀ q, q ∈ ns ↔ F q = true) :
    PartAt K CP (upd (upd (upd H dx (.own x)) x (.ins CP dx [])) x (.ins CP dx (ptF wd kd ps nm (.ref nl)))) x k F :=
  ⟨dx, nl, wd, kd, ps, nm, ns, upd_same, dk.same (same_made hx hd), (same_made hx hd) _ _ en, pw, hq⟩
/-- kinds are given -/
def KsAt (K : PySem.W.Frag) (H : Hp) (g : Addr) (ks : List Kd) : Prop := ∃ us, H g = some (.lst us) ∧ DqAll K H us (ks.map Kd.dat)
theorem KsAt.same {K : PySem.W.Frag} {H H' : Hp} {g : Addr} {ks : List Kd} (s : Same H H') (h : KsAt K H g ks) : KsAt K H' g ks := by
  obtain ⟨us, a, b⟩ := h
  exact ⟨us, s _ _ a, b.same s⟩
def spGiven (K : PySem.W.Frag) (CP CE : Addr) : Sp := fun vs H Q E => ∃ x d g ks, vs = [x, .ref g] ∧ Dq K H x d ∧ KsAt K H g ks ∧ (giv d ks = none → ∀ H', Same H H' → E (.ref CE) none H') ∧
  ∀ k, giv d ks = some k → ∀ p H', Same H H' → PartAt K CP H' p k ((Trm.giv d).fv ks.length) → Q (.ref p) H'
abbrev s_given_part : Stmt := top 19
theorem sc_given_part : FnScope ["number", "given"] ["number", "given"] (defScope s_given_part) := ⟨rfl, rfl, rfl, by decide +kernel, rfl, by decide +kernel, by decide +kernel⟩
section
variable {P : Program} {w : World} {K : PySem.W.Frag} {mg : Str → Option Value} {base : Heap} {CN CP CE : Addr}
theorem ok_given (A : At K mg "_given_part" s_given_part) (T : TxT K mg w CP CE) : Cal P w K mg base (L2.CX P w) 3 "_given_part" ["number", "given"] (spGiven K CP CE) := by
  obtain ⟨f, fd, F, m⟩ := A
  obtain ⟨fI, fdI, FI, GI, M⟩ := ok_pt (P := P) (base := base) T
  have bI : Binds K fdI ["self", "word", "kind", "parts", "number", "needs"] [] := GI.binds (ps := ["self", "word", "kind", "parts", "number", "needs"]) (fun _ _ _ _ _ _ us hl => match us, hl with | [_, _, _, _, _, _], _ => rfl)
  refine ⟨f, fd, F.okX sc_given_part (fun vs H Q E h => ?_) (fun cdv A outer s H vs Q E hr h => ?_), F.binds (ps := ["number", "given"]) (fun _ _ _ _ _ _ us hl => match us, hl with | [_, _], _ => rfl), F.kp, m⟩
  · obtain ⟨x, d, g, ks, rfl, _⟩ := h; rfl
  obtain ⟨x, d, g, ks, rfl, hd, ⟨us, hS0, hA⟩, q1, q2⟩ := h
  have hS : SqL K H g us := .of hS0
  refine ⟨_, (pss_cons (ps_if (PW.pt (pw_or (pt_cmpR op_notTyB (pe_callTy call_type1 (by rfl) T.z_type (by decide +kernel) (pa_cons (pv 0) pa_nil)) (pe_bltn (v := .ty "int") (by rfl) T.z_int (by decide +kernel) rfl) (nomark _)) (pw_or1 (pt_not (pt_chain op_le op_lt pe_int (pv 0) (pe_callB call_len (by rfl) T.z_len (by decide +kernel) (pa_cons (pv 1) pa_nil)))))))
   (pss_one (ps_raiseO rfl (takes_of rfl rfl rfl rfl) T.e_NoTerm))
   pss_nil)
  (pss_one (ps_ret (pe_make M FI (hr.mono (by first | decide | omega)) (by rfl) T.g_Part bI .nil pass0 (pa_cons pe_str (pa_cons (pe_ix ix_B (pv 1) (pv 0) (fun _ _ => rfl)) (pa_cons (pe_lst pa_nil) (pa_cons (pv 0) (pa_cons (pe_lst (pa_cons (pv 0) pa_nil)) pa_nil))))))))), ?_⟩
  have giv_int : ∀ n : Int, giv (.int n) ks = if 0 ≤ n ∧ n < (ks.length : Nat) then ks[n.toNat]? else none := fun _ => rfl
  have hlen := hA.length
  rw [List.length_map] at hlen
  refine ⟨_, rfl, _, _, rfl, hd.ty, _, _, rfl, rfl, _, rfl, ?_⟩
  by_cases ht : tyN d = "int"
  · rw [ht]
    refine iteF ?_
    cases hd <;> simp [tyN] at ht
    rename_i n
    refine ⟨_, rfl, _, _, rfl, rfl, _, rfl, ite2 (fun c => ?_) (fun c => ?_)⟩
    · have c0 := of_decide_eq_true c
      refine ⟨_, rfl, _, _, rfl, .inl ⟨_, hS, rfl⟩, _, _, rfl, rfl, _, rfl, ?_⟩
      rw [hlen]
      by_cases c1 : n < (ks.length : Nat)
      · refine iteF' (by simp [c1]) ?_
        obtain ⟨j, rfl⟩ : ∃ j : Nat, n = (j : Nat) := ⟨n.toNat, by omega⟩
        have jl : j < ks.length := by omega
        have ek : giv (.int (j : Nat)) ks = some ks[j] := by
          rw [giv_int, if_pos ⟨c0, c1⟩, Int.toNat_natCast, List.getElem?_eq_getElem jl]
        have jus : j < us.length := by omega
        have dk : Dq K H us[j] ks[j].dat := by
          obtain ⟨d, e1, d1⟩ := hA.get (List.getElem?_eq_getElem jus)
          rw [List.getElem?_map, List.getElem?_eq_getElem jl] at e1
          cases e1
          exact d1
        refine ⟨_, rfl, _, rfl, ixLi hS (List.getElem?_eq_getElem jus) ⟨Nat.zero_le _, fun pl hpl => ⟨_, rfl, _, rfl, (by show 1 ≤ sizeLine; decide), fun nl hnl x dx hx hdx ne => ?_⟩⟩⟩
        have s1 := same_new hpl (.lst [])
        have s2 := same_new hnl (.lst [.int (j : Nat)])
        have s3 := same_made (C := CP) (fs := ptF (.str "given") us[j] (.ref pl) (.int (j : Nat)) (.ref nl)) hx hdx
        refine ⟨x, dx, _, _, _, _, _, rfl, upd_same, rfl, ?_⟩
        refine q2 _ ek x _ (s1.trans (s2.trans s3)) (part_made hx hdx ((dk.same s1).same s2) (ns := [(j : Int)]) upd_same (by simp) (fun q => ?_))
        show q ∈ [(j : Int)] ↔ decide (q = (j : Int)) = true
        simp
      · refine iteT' (by simp [c1]) (q1 ?_ _ (Same.refl _))
        rw [giv_int, if_neg fun z => c1 z.2]
    · have c0 : ¬ 0 ≤ n := of_decide_eq_false (Bool.eq_false_iff.mpr c)
      refine ⟨_, rfl, iteT' rfl (q1 ?_ _ (Same.refl _))⟩
      rw [giv_int, if_neg fun z => c0 z.1]
  · refine iteT' (by simp [ht]) (q1 ?_ _ (Same.refl _))
    cases d <;> first | rfl | (simp [tyN] at ht)
end

/-! ## the kind by the parts, and what the parts want -/
def kbp (wd : Str) : List Kd → Option Kd
  | [] => some .u
  | [a] => half (decide (wd = "second")) a
  | [a, b] => if wd = "both" then some (.p a b) else hand a b
  | _ => none
theorem kbp_do (a b : Kd) : kbp "do" [a, b] = hand a b := by
  show (if ("do" : Str) = "both" then some (Kd.p a b) else hand a b) = _
  rw [if_neg (by decide)]
/-- the words that stand over so many parts -/
def WdOf (wd : Str) (n : Nat) : Prop := (n = 0 ∧ wd = "unit") ∨ (n = 1 ∧ (wd = "first" ∨ wd = "second")) ∨ (n = 2 ∧ (wd = "both" ∨ wd = "do"))
def spKbp (K : PySem.W.Frag) (CP CE : Addr) : Sp := fun vs H Q E => ∃ (wd : Str) (pl : Addr) (us : List V) (l : List (Kd × (Int → Bool))), vs = [.str wd, .ref pl] ∧ SqL K H pl us ∧ PtsAt K CP H us l ∧ WdOf wd l.length ∧ (∀ e ∈ l, e.1.deep ≤ 150) ∧
  (kbp wd (l.map Prod.fst) = none → ∀ H', Same H H' → E (.ref CE) none H') ∧ ∀ k, kbp wd (l.map Prod.fst) = some k → ∀ kv H', Same H H' → Dq K H' kv k.dat → Q kv H'
def spNp (K : PySem.W.Frag) (CP : Addr) : Sp := fun vs H Q _ => ∃ (pl : Addr) (us : List V) (l : List (Kd × (Int → Bool))), vs = [.ref pl] ∧ SqL K H pl us ∧ PtsAt K CP H us l ∧ us.length ≤ 2 ∧ (l.length = 1 ∨ ∀ z : List Int, z.Nodup → (∀ q ∈ z, ∃ e ∈ l, e.2 q = true) → z.length < 64) ∧
  ∀ (nl : Addr) (ns : List Int) (H' : Hp), Same H H' → H' nl = some (.lst (ns.map V.int)) → ns.Pairwise (· < ·) → (∀ q, q ∈ ns ↔ ∃ e ∈ l, e.2 q = true) → (l.length ≠ 1 → H nl = none) → Q (.ref nl) H'
abbrev s_kind_by_parts : Stmt := top 20
theorem sc_kind_by_parts : FnScope ["word", "parts", "kind"] ["word", "parts"] (defScope s_kind_by_parts) := ⟨rfl, rfl, rfl, by decide +kernel, rfl, by decide +kernel, by decide +kernel⟩
abbrev s_needs_of_parts : Stmt := top 18
theorem sc_needs_of_parts : FnScope ["parts", "part", "number"] ["parts"] (defScope s_needs_of_parts) := ⟨rfl, rfl, rfl, by decide +kernel, rfl, by decide +kernel, by decide +kernel⟩
theorem ix0_seq {K : PySem.W.Frag} {W : World} {H : Hp} {a : Addr} {x : V} {xs : List V} {Q : VK} (h : SqL K H a (x :: xs) ∨ SqT K H a (x :: xs)) (q : Q x H) : rIxB K W (.ref a) (.int 0) H Q := by
  rcases h with h | h
  · exact .inl (.inl ⟨a, _, 0, x, rfl, rfl, h, at0 _ _, q⟩)
  · exact .inl (.inr (.inl ⟨a, _, 0, x, rfl, rfl, h, at0 _ _, q⟩))
theorem ne_kd {K : PySem.W.Frag} {H : Hp} {v u : V} {a b : Kd} {Q : VK} (h1 : Dq K H v a.dat) (h2 : Dq K H u b.dat) (hd : a.dat.depth ≤ 180) (q : Q (.bl (!decide (a = b))) H) : rNeA K v u H Q := by
  refine .inr ⟨a.dat, b.dat, h1.dp (Kd.dat_lay a), h2.dp (Kd.dat_lay b), Kd.dat_lay a, Kd.dat_lay b, by omega, ?_⟩
  by_cases c : a = b
  · subst c
    rw [SeqAt.eqv_refl _ (Kd.dat_lay a)]
    rw [decide_eq_true rfl] at q
    exact q
  · rw [decide_eq_false c] at q
    rw [Kd.eqv, decide_eq_false c]
    exact q
theorem PtsAt.at {K : PySem.W.Frag} {CP : Addr} {H : Hp} : ∀ {vs : List V} {l : List (Kd × (Int → Bool))}, PtsAt K CP H vs l → ∀ {i : Nat} {x : V}, vs[i]? = some x → ∃ p e, x = .ref p ∧ l[i]? = some e ∧ PartAt K CP H p e.1 e.2
  | _, _, .nil, i, x, h => by cases h
  | _, _, .cons a b, 0, x, h => by cases h; exact ⟨_, _, rfl, rfl, a⟩
  | _, _, .cons a b, i + 1, x, h => PtsAt.at b h
/-- the set at D has what P tells -/
def SetHas (w : World) (D : Addr) (H G : Hp) (Pq : Int → Prop) : Prop := ∃ (S : Int → Bool) (n : Nat) (z : List Int), G D = some (SetO w D S n) ∧ Same H (out D G) ∧ z.Nodup ∧ z.length = n ∧ (∀ q, S q = true ↔ q ∈ z) ∧ ∀ q, q ∈ z ↔ Pq q
section
variable {w : World} {D : Addr} {H G : Hp} {Pq Pr : Int → Prop}
theorem SetHas.same (h : SetHas w D H G Pq) : Same H (out D G) := by
  obtain ⟨_, _, _, _, s, _⟩ := h
  exact s
theorem SetHas.congr (h : SetHas w D H G Pq) (e : ∀ q, Pq q ↔ Pr q) : SetHas w D H G Pr := by
  obtain ⟨S, n, z, a, b, c, d, e1, e2⟩ := h
  exact ⟨S, n, z, a, b, c, d, e1, fun q => (e2 q).trans (e q)⟩
theorem SetHas.start (hD : H D = none) (e : ∀ q, ¬ Pq q) : SetHas w D H (upd H D (SetO w D (fun _ => false) 0)) Pq :=
  ⟨_, 0, [], upd_same, same_out hD (same_new hD _), List.nodup_nil, rfl, fun q => by simp, fun q => by simp [e q]⟩
theorem SetHas.add {S : Int → Bool} {n : Nat} {z : List Int} {c : Int} (sm : Same H (out D G)) (nd : z.Nodup) (zn : z.length = n) (hS : ∀ q, S q = true ↔ q ∈ z) (hz : ∀ q, q ∈ z ↔ Pq q) : SetHas w D H (upd G D (SetO w D (fun q => S q || decide (q = c)) (if S c = true then n else n + 1))) (fun q => Pq q ∨ q = c) := by
  by_cases k : S c = true
  · refine ⟨_, n, z, by rw [if_pos k]; exact upd_same, sm.trans (out_set _), nd, zn, fun q => ?_, fun q => ?_⟩
    · rw [Bool.or_eq_true, hS, decide_eq_true_eq]
      exact ⟨fun h => h.elim id fun e => e ▸ (hS c).mp k, .inl⟩
    · rw [hz]
      exact ⟨.inl, fun h => h.elim id fun e => e ▸ (hz c).mp ((hS c).mp k)⟩
  · have nc : c ∉ z := fun h => k ((hS c).mpr h)
    refine ⟨_, n + 1, c :: z, by rw [if_neg k]; exact upd_same, sm.trans (out_set _), List.nodup_cons.mpr ⟨nc, nd⟩, by rw [List.length_cons, zn], fun q => ?_, fun q => ?_⟩
    · rw [Bool.or_eq_true, hS, decide_eq_true_eq, List.mem_cons]
      exact Or.comm
    · rw [List.mem_cons, hz]
      exact Or.comm
end
section
variable {P : Program} {w : World} {K : PySem.W.Frag} {mg : Str → Option Value} {base : Heap} {CN CP CE : Addr}
theorem ok_np (A : At K mg "_needs_of_parts" s_needs_of_parts) (T : TxT K mg w CP CE) : Cal P w K mg base CX0 1 "_needs_of_parts" ["parts"] (spNp K CP) := by
  obtain ⟨f, fd, F, m⟩ := A
  refine ⟨f, fd, F.ok sc_needs_of_parts (fun vs H Q E h => ?_) (fun cdv A outer s H vs Q E hr h => ?_), F.binds (ps := ["parts"]) (fun _ _ _ _ _ _ us hl => match us, hl with | [_], _ => rfl), F.kp, m⟩
  · obtain ⟨pl, us, l, rfl, _⟩ := h; rfl
  obtain ⟨pl, us, l, rfl, hS, hP, l2, few, q⟩ := h
  refine ⟨_, (pss_cons (ps_if (pt_cmpR (op_eqA (room200 hr)) (pe_callB call_len (by rfl) T.z_len (by decide +kernel) (pa_cons (pv 0) pa_nil)) pe_int (nomark _))
   (pss_one (ps_ret (pe_fld (pe_ix ix_B (pv 0) pe_int (fun _ _ => rfl)) rfl)))
   pss_nil)
  (pss_one (ps_ret (pe_callB (cr_sortedSet rfl) (by rfl) T.z_sorted (by decide +kernel) (pa_cons (pe_sc2 (own := [("part", 1), ("number", 2)]) (vs1 := [2]) (g := gName 1) (g1 := gName 2) (by rfl) sc_needs_of_parts.nd (pi_list (pv 0)) (blkOk_by (own := [("part", 1), ("number", 2)]) (N := ["parts", "part", "number"]) (sc := defScope s_needs_of_parts) (by decide +kernel)) (by decide) (fun _ _ _ _ _ => (pg_name (i := 1) sc_needs_of_parts.nd rfl (by first | exact Or.inl rfl | exact Or.inr rfl))) (fun _ _ _ _ _ => (pi_listK (K := K) rfl (pe_fldK (K := K) rfl (pv 1) rfl))) (fun _ _ _ _ _ => (pg_name (i := 2) sc_needs_of_parts.nd rfl (by first | exact Or.inl rfl | exact Or.inr rfl))) (fun _ _ _ _ _ => (pv 2))) pa_nil))))), ?_⟩
  have hlen := hP.length
  refine ⟨_, rfl, _, _, rfl, .inl ⟨_, hS, rfl⟩, .inl ⟨rfl, _, rfl, ?_⟩⟩
  by_cases c1 : l.length = 1
  · refine iteT' (by simp; omega) ?_
    cases hP with
    | nil => cases c1
    | cons a b =>
      cases b with
      | cons _ _ => simp at c1
      | nil =>
        obtain ⟨dx, nl, wd', kv, ps, nm, ns, e, d, en, pw, hq⟩ := a
        exact ⟨_, rfl, ix0_seq (.inl hS) ⟨_, CP, dx, _, .ref nl, rfl, e, T.cls, T.no_needs, ptF_needs, q nl ns H (Same.refl _) en pw (fun z => by rw [hq]; simp) (fun h => absurd rfl h)⟩⟩
  have few : ∀ z : List Int, z.Nodup → (∀ q ∈ z, ∃ e ∈ l, e.2 q = true) → z.length < 64 := few.resolve_left c1
  refine iteF' (by simp; omega) ⟨_, rfl, pl, rfl, ⟨_, hS⟩, fun D hD => ?_⟩
  have nDl := hD
  refine ⟨fun i m G => m = us.length - i ∧ i ≤ us.length ∧ SetHas w D H G (fun q => ∃ e ∈ l.take i, e.2 q = true), ⟨_, rfl, Nat.zero_le _, SetHas.start hD (fun q => by simp)⟩, ?_⟩
  rintro i m G ⟨rfl, hi, sh⟩
  by_cases lt : i < us.length
  · refine .inr ⟨walk_list.goes i G lt (L2.Same.seq (sh.same.trans (out_sub D G)) hS), fun G' => ∃ m', m' = us.length - (i + 1) ∧ i + 1 ≤ us.length ∧ SetHas w D H G' (fun q => ∃ e ∈ l.take (i + 1), e.2 q = true), fun G' ⟨m', e, a, b⟩ => ⟨m', by omega, e, a, b⟩, fun x G1 y => ?_⟩
    obtain ⟨rfl, ex⟩ := walk_list.yields i G x G1 lt (L2.Same.seq (sh.same.trans (out_sub D G)) hS) y
    obtain ⟨p, e, rfl, el, pa⟩ := hP.at ex
    have il : i < l.length := by omega
    have etk : l.take (i + 1) = l.take i ++ [e] := by rw [List.take_succ, el]; rfl
    obtain ⟨dx, nl, wd', kv, ps, nm, ns, ep, d, en, pw, hq⟩ := pa.same sh.same
    refine ⟨rfl, _, rfl, p, CP, dx, _, .ref nl, rfl, out_sub _ _ _ _ ep, T.cls, T.no_needs, ptF_needs, nl, rfl, ⟨_, .of (out_sub _ _ _ _ en)⟩, ?_⟩
    refine ⟨fun j k G => k = (ns.map V.int).length - j ∧ j ≤ (ns.map V.int).length ∧ Same (out D G1) (out D G) ∧ SetHas w D H G (fun q => (∃ e ∈ l.take i, e.2 q = true) ∨ q ∈ ns.take j), ⟨_, rfl, Nat.zero_le _, Same.refl _, sh.congr fun q => by simp⟩, ?_⟩
    rintro j k G4 ⟨rfl, hj, sm4, sh4⟩
    have hN4 : SqL K G4 nl (ns.map V.int) := .of (out_sub _ _ _ _ (sm4 _ _ en))
    by_cases lj : j < (ns.map V.int).length
    · refine .inr ⟨walk_list.goes j G4 lj hN4, fun G' => ∃ k', k' = (ns.map V.int).length - (j + 1) ∧ j + 1 ≤ (ns.map V.int).length ∧ Same (out D G1) (out D G') ∧ SetHas w D H G' (fun q => (∃ e ∈ l.take i, e.2 q = true) ∨ q ∈ ns.take (j + 1)), fun G' ⟨k', e, a, b⟩ => ⟨k', by omega, e, a, b⟩, fun x1 G5 y1 => ?_⟩
      obtain ⟨rfl, ex1⟩ := walk_list.yields j G4 x1 G5 lj hN4 y1
      rw [List.getElem?_map] at ex1
      have lj' : j < ns.length := by simpa using lj
      rw [List.getElem?_eq_getElem lj'] at ex1
      cases ex1
      obtain ⟨S, n, z, eD, smz, nd, zn, hSz, hz⟩ := sh4
      have zl : z.length < 64 := few z nd fun q hqz => by
        rcases (hz q).mp hqz with ⟨e', he', fe⟩ | hqn
        · exact ⟨e', List.mem_of_mem_take he', fe⟩
        · exact ⟨e, List.mem_of_getElem? el, (hq q).mp (List.mem_of_mem_take hqn)⟩
      refine ⟨rfl, _, rfl, ns[j], S, n, rfl, eD, by unfold scanBound; omega, _, rfl, by omega, sm4.trans (out_set _), ?_⟩
      refine SetHas.congr (SetHas.add smz nd zn hSz hz) fun q => ?_
      rw [List.take_succ, List.getElem?_eq_getElem lj']
      simp only [Option.toList_some, List.mem_append, List.mem_singleton]
      exact or_assoc
    · have ej : j = (ns.map V.int).length := by omega
      subst ej
      refine .inl ⟨walk_list.stops G4 hN4, _, rfl, by omega, sh4.congr fun q => ?_⟩
      rw [etk]
      have et : ns.take (ns.map V.int).length = ns := by rw [List.length_map]; exact List.take_length
      rw [et]
      simp only [List.mem_append, List.mem_singleton]
      constructor
      · rintro (⟨e', he', fe⟩ | h)
        · exact ⟨e', .inl he', fe⟩
        · exact ⟨e, .inr rfl, (hq q).mp h⟩
      · rintro ⟨e', he' | rfl, fe⟩
        · exact .inl ⟨e', he', fe⟩
        · exact .inr ((hq q).mpr fe)
  · have ei : i = us.length := by omega
    subst ei
    refine .inl ⟨walk_list.stops G (L2.Same.seq (sh.same.trans (out_sub D G)) hS), ?_⟩
    rw [hlen, List.take_length] at sh
    obtain ⟨S, n, z, eD, sm, nd, zn, hSz, hz⟩ := sh
    have zl : z.length < 64 := few z nd fun q hqz => (hz q).mp hqz
    refine ⟨D, S, n, rfl, eD, by omega, fun ns p pw hm _ hp => ?_⟩
    refine q p ns _ ((of_out sm).trans (same_new hp _)) upd_same pw (fun q => ?_) (fun _ => ?_)
    · rw [hm, hSz, hz]
    · cases e : H p with
      | none => rfl
      | some o => rw [of_out sm _ _ e] at hp; cases hp
theorem ok_kbp (A : At K mg "_kind_by_parts" s_kind_by_parts) (T : TxT K mg w CP CE) : Cal P w K mg base (L2.CX P w) 3 "_kind_by_parts" ["word", "parts"] (spKbp K CP CE) := by
  obtain ⟨f, fd, F, m⟩ := A
  refine ⟨f, fd, F.okX sc_kind_by_parts (fun vs H Q E h => ?_) (fun cdv A outer s H vs Q E hr h => ?_), F.binds (ps := ["word", "parts"]) (fun _ _ _ _ _ _ us hl => match us, hl with | [_, _], _ => rfl), F.kp, m⟩
  · obtain ⟨wd, pl, us, l, rfl, _⟩ := h; rfl
  obtain ⟨wd, pl, us, l, rfl, hS, hP, hw, hdp, q1, q2⟩ := h
  refine ⟨_, (pss_cons (ps_if (pt_cmpR (op_eqA (room200 hr)) (pv 0) pe_str (nomark _))
   (pss_one (ps_ret (pe_tup (pa_cons pe_str pa_nil))))
   pss_nil)
  (pss_cons (ps_set (i := 2) sc_kind_by_parts.nd rfl (by first | exact Or.inl rfl | exact Or.inr rfl) (pe_fld (pe_ix ix_B (pv 1) pe_int (fun _ _ => rfl)) rfl))
  (pss_cons (ps_if (pt_cmpR (op_eqA (room200 hr)) (pv 0) pe_str (nomark _))
   (pss_one (ps_ret (pe_tup (pa_cons pe_str (pa_cons (pv 2) (pa_cons (pe_fld (pe_ix ix_B (pv 1) pe_int (fun _ _ => rfl)) rfl) pa_nil))))))
   pss_nil)
  (pss_cons (ps_if (pt_cmpR (op_eqA (room200 hr)) (pv 0) pe_str (nomark _))
   (pss_cons (ps_if (PW.pt (pw_or (pt_cmpR (op_neA (room200 hr)) (pe_ix ix_B (pv 2) pe_int (fun _ _ => rfl)) pe_str (nomark _)) (pw_or1 (pt_cmpR (op_neA (room200 hr)) (pe_ix ix_B (pv 2) pe_int (fun _ _ => rfl)) (pe_fld (pe_ix ix_B (pv 1) pe_int (fun _ _ => rfl)) rfl) (nomark _)))))
   (pss_one (ps_raiseO rfl (takes_of rfl rfl rfl rfl) T.e_NoTerm))
   pss_nil)
  (pss_one (ps_ret (pe_ix ix_B (pv 2) pe_int (fun _ _ => rfl)))))
   pss_nil)
  (pss_cons (ps_if (pt_cmpR (op_neA (room200 hr)) (pe_ix ix_B (pv 2) pe_int (fun _ _ => rfl)) pe_str (nomark _))
   (pss_one (ps_raiseO rfl (takes_of rfl rfl rfl rfl) T.e_NoTerm))
   pss_nil)
  (pss_one (ps_ret (pe_ifExp (pt_cmpR (op_eqA (room200 hr)) (pv 0) pe_str (nomark _)) (pe_ix ix_B (pv 2) pe_int (fun _ _ => rfl)) (pe_ix ix_B (pv 2) pe_int (fun _ _ => rfl)))))))))), ?_⟩
  have k150 : ∀ {k : Kd}, k.deep ≤ 150 → k.dat.depth ≤ 180 := fun {k} h => by rw [Kd.dat_depth]; omega
  rcases hw with ⟨h0, rfl⟩ | ⟨h1, hw⟩ | ⟨h2, hw⟩
  · cases l with
    | cons _ _ => cases h0
    | nil =>
      exact ⟨_, rfl, .inl ⟨rfl, _, rfl, iteT' (by decide) ⟨(by show 1 ≤ sizeLine; decide), fun p hp => q2 .u rfl _ _ (same_new hp _) (.tup (.of upd_same) (.cons (.str _) .nil))⟩⟩⟩
  · cases hP with
    | nil => cases h1
    | cons a b =>
      cases b with
      | cons _ _ => simp at h1
      | nil =>
        rename_i p k F
        have dk := hdp (k, F) List.mem_cons_self
        obtain ⟨dx, nl, wd', kv, ps, nm, ns, e, d, en, pw, hq⟩ := a
        refine ⟨_, rfl, .inl ⟨rfl, _, rfl, iteF' (by rcases hw with rfl | rfl <;> decide) ?_⟩⟩
        refine ⟨_, rfl, ix0_seq (.inl hS) ⟨p, CP, dx, _, kv, rfl, e, T.cls, T.no_kind, ptF_kind, ?_⟩⟩
        refine ⟨_, rfl, .inl ⟨rfl, _, rfl, iteF' (by rcases hw with rfl | rfl <;> decide) ?_⟩⟩
        refine ⟨_, rfl, .inl ⟨rfl, _, rfl, iteF' (by rcases hw with rfl | rfl <;> decide) ?_⟩⟩
        rcases kd_split k d with ⟨a, n, rfl, rfl, hK⟩ | ⟨a, rfl, rfl, hK⟩ | ⟨mk, ww, x, y, a, v1, v2, rfl, M, hm, rfl, hK, d1, d2⟩
        · refine ⟨_, rfl, ix0_seq (.inr hK) (.inl ⟨rfl, _, rfl, iteT' (by decide) (q1 rfl _ (Same.refl _))⟩)⟩
        · refine ⟨_, rfl, ix0_seq (.inr hK) (.inl ⟨rfl, _, rfl, iteT' (by decide) (q1 rfl _ (Same.refl _))⟩)⟩
        · rcases hm with ⟨rfl, rfl⟩ | ⟨rfl, rfl⟩
          · refine ⟨_, rfl, ix0_seq (.inr hK) (.inl ⟨rfl, _, rfl, iteF' (by decide) ?_⟩)⟩
            refine ⟨_, rfl, .inl ⟨rfl, _, rfl, ?_⟩⟩
            rcases hw with rfl | rfl
            · exact iteT' (by decide) ⟨_, rfl, .inl (.inr (.inl ⟨a, _, 1, v1, rfl, rfl, hK, at1 _ _ _, q2 x rfl _ _ (Same.refl _) d1⟩))⟩
            · exact iteF' (by decide) ⟨_, rfl, .inl (.inr (.inl ⟨a, _, 2, v2, rfl, rfl, hK, at2 _ _ _ _, q2 y rfl _ _ (Same.refl _) d2⟩))⟩
          · refine ⟨_, rfl, ix0_seq (.inr hK) (.inl ⟨rfl, _, rfl, iteT' (by decide) (q1 rfl _ (Same.refl _))⟩)⟩
  · cases hP with
    | nil => cases h2
    | cons a b =>
      cases b with
      | nil => simp at h2
      | cons b c =>
        cases c with
        | cons _ _ => simp at h2
        | nil =>
          rename_i p k F p2 k2 F2
          have dk := hdp (k, F) List.mem_cons_self
          have dk2 := hdp (k2, F2) (List.mem_cons_of_mem _ List.mem_cons_self)
          obtain ⟨dx, nl, wd', kv, ps, nm, ns, e, d, en, pw, hq⟩ := a
          obtain ⟨dx2, nl2, wd2, kv2, ps2, nm2, ns2, e2, d2, en2, pw2, hq2⟩ := b
          refine ⟨_, rfl, .inl ⟨rfl, _, rfl, iteF' (by rcases hw with rfl | rfl <;> decide) ?_⟩⟩
          refine ⟨_, rfl, ix0_seq (.inl hS) ⟨p, CP, dx, _, kv, rfl, e, T.cls, T.no_kind, ptF_kind, ?_⟩⟩
          have at1' : ∀ {Q : VK}, Q (.ref p2) H → rIxB K w (.ref pl) (.int 1) H Q := fun q => .inl (.inl ⟨pl, _, 1, .ref p2, rfl, rfl, hS, at1 _ _ _, q⟩)
          refine ⟨_, rfl, .inl ⟨rfl, _, rfl, ?_⟩⟩
          rcases hw with rfl | rfl
          · refine iteT' (by decide) ⟨_, rfl, _, rfl, at1' ⟨p2, CP, dx2, _, kv2, rfl, e2, T.cls, T.no_kind, ptF_kind, (by show 3 ≤ sizeLine; decide), fun t ht => ?_⟩⟩
            have s1 := same_new ht (.tup [.str "both", kv, kv2])
            exact q2 (.p k k2) rfl _ _ s1 (.tup (.of upd_same) (.cons (.str _) (.cons (d.same s1) (.cons (d2.same s1) .nil))))
          · refine iteF' (by decide) ⟨_, rfl, .inl ⟨rfl, _, rfl, iteT' (by decide) ?_⟩⟩
            rcases kd_split k d with ⟨a, n, rfl, rfl, hK⟩ | ⟨a, rfl, rfl, hK⟩ | ⟨mk, ww, x, y, a, v1, v2, rfl, M, hm, rfl, hK, c1, c2⟩
            · refine ⟨_, rfl, ix0_seq (.inr hK) (.inl ⟨rfl, _, rfl, iteT' (by decide) (q1 rfl _ (Same.refl _))⟩)⟩
            · refine ⟨_, rfl, ix0_seq (.inr hK) (.inl ⟨rfl, _, rfl, iteT' (by decide) (q1 rfl _ (Same.refl _))⟩)⟩
            · rcases hm with ⟨rfl, rfl⟩ | ⟨rfl, rfl⟩
              · refine ⟨_, rfl, ix0_seq (.inr hK) (.inl ⟨rfl, _, rfl, iteT' (by decide) (q1 rfl _ (Same.refl _))⟩)⟩
              · refine ⟨_, rfl, ix0_seq (.inr hK) (.inl ⟨rfl, _, rfl, iteF' (by decide) ?_⟩)⟩
                have dx1 : x.deep ≤ 150 := by have h : (Kd.f x y).deep ≤ 150 := dk; simp only [Kd.deep] at h; omega
                refine ⟨_, rfl, .inl (.inr (.inl ⟨a, _, 1, v1, rfl, rfl, hK, at1 _ _ _, _, rfl, at1' ⟨p2, CP, dx2, _, kv2, rfl, e2, T.cls, T.no_kind, ptF_kind, ?_⟩⟩))⟩
                refine ne_kd c1 d2 (k150 dx1) ?_
                by_cases c : x = k2
                · subst c
                  refine ⟨_, rfl, iteF' (by simp) ⟨_, rfl, .inl (.inr (.inl ⟨a, _, 2, v2, rfl, rfl, hK, at2 _ _ _ _, q2 y ((kbp_do _ _).trans (by simp [hand])) _ _ (Same.refl _) c2⟩))⟩⟩
                · exact ⟨_, rfl, iteT' (by simp [c]) (q1 ((kbp_do _ _).trans (by simp [hand, c])) _ (Same.refl _))⟩
end

/-! ## a thing of these parts -/
theorem dq_tup1 {K : PySem.W.Frag} {H : Hp} {v : V} {wd : Str} (h : Dq K H v (.tuple [.str wd])) : ∃ a, v = .ref a ∧ SqT K H a [.str wd] := by
  cases h with
  | tup hT hA =>
    cases hA with
    | cons h1 h2 => cases h1; cases h2; exact ⟨_, rfl, hT⟩
theorem dq_tup2 {K : PySem.W.Frag} {H : Hp} {v : V} {wd : Str} {x : PyData} (h : Dq K H v (.tuple [.str wd, x])) : ∃ a u, v = .ref a ∧ SqT K H a [.str wd, u] ∧ Dq K H u x := by
  cases h with
  | tup hT hA =>
    cases hA with
    | cons h1 h2 => cases h1; cases h2 with
      | cons h3 h4 => cases h4; exact ⟨_, _, rfl, hT, h3⟩
theorem dq_tup3 {K : PySem.W.Frag} {H : Hp} {v : V} {wd : Str} {x y : PyData} (h : Dq K H v (.tuple [.str wd, x, y])) : ∃ a u z, v = .ref a ∧ SqT K H a [.str wd, u, z] ∧ Dq K H u x ∧ Dq K H z y := by
  cases h with
  | tup hT hA =>
    cases hA with
    | cons h1 h2 => cases h1; cases h2 with
      | cons h3 h4 => cases h4 with
        | cons h5 h6 => cases h6; exact ⟨_, _, _, rfl, hT, h3, h5⟩
inductive PtsOf (K : PySem.W.Frag) (CP : Addr) (H : Hp) : List V → List (Trm × List Kd) → Prop where
  | nil : PtsOf K CP H [] []
  | cons {p : Addr} {k : Kd} {t : Trm} {ks : List Kd} {vs : List V} {l : List (Trm × List Kd)} : t.jd ks = some k → PartAt K CP H p k (t.fv ks.length) → PtsOf K CP H vs l → PtsOf K CP H (.ref p :: vs) ((t, ks) :: l)
theorem PtsOf.same {K : PySem.W.Frag} {CP : Addr} {H H' : Hp} (s : Same H H') : ∀ {vs : List V} {l : List (Trm × List Kd)}, PtsOf K CP H vs l → PtsOf K CP H' vs l
  | _, _, .nil => .nil
  | _, _, .cons e a b => .cons e (a.same s) (PtsOf.same s b)
theorem PtsOf.length {K : PySem.W.Frag} {CP : Addr} {H : Hp} : ∀ {vs : List V} {l : List (Trm × List Kd)}, PtsOf K CP H vs l → vs.length = l.length
  | _, _, .nil => rfl
  | _, _, .cons _ _ b => by rw [List.length_cons, List.length_cons, b.length]
theorem PtsOf.append {K : PySem.W.Frag} {CP : Addr} {H : Hp} : ∀ {vs us : List V} {l m : List (Trm × List Kd)}, PtsOf K CP H vs l → PtsOf K CP H us m → PtsOf K CP H (vs ++ us) (l ++ m)
  | _, _, _, _, .nil, b => b
  | _, _, _, _, .cons e a b, c => .cons e a (PtsOf.append b c)
theorem PtsOf.split {K : PySem.W.Frag} {CP : Addr} {H : Hp} : ∀ {l m : List (Trm × List Kd)} {vs : List V}, PtsOf K CP H vs (l ++ m) → PtsOf K CP H (vs.take l.length) l ∧ PtsOf K CP H (vs.drop l.length) m
  | [], m, vs, h => ⟨.nil, h⟩
  | n :: l, m, vs, h => by
    cases h with
    | cons e a b =>
      obtain ⟨h1, h2⟩ := PtsOf.split b
      exact ⟨.cons e a h1, h2⟩
theorem nil_few {z : List Int} (h : ∀ q ∈ z, ∃ e ∈ ([] : List (Kd × (Int → Bool))), e.2 q = true) : z.length < 64 := by
  cases z with
  | nil => decide
  | cons q r =>
    obtain ⟨e, he, _⟩ := h q List.mem_cons_self
    cases he
theorem kbp_both (a b : Kd) : kbp "both" [a, b] = some (.p a b) := by
  show (if ("both" : Str) = "both" then some (Kd.p a b) else hand a b) = _
  rw [if_pos rfl]
theorem pair_mem {α : Type} {a b x : α} (h : x ∈ [a, b]) : x = a ∨ x = b := by simpa using h
theorem pof2 {K : PySem.W.Frag} {CP : Addr} {H : Hp} {vs : List V} {x y : Trm} {ks kz : List Kd} (h : PtsOf K CP H vs [(x, ks), (y, kz)]) : ∃ p k p2 k2, vs = [.ref p, .ref p2] ∧ x.jd ks = some k ∧ PartAt K CP H p k (x.fv ks.length) ∧ y.jd kz = some k2 ∧ PartAt K CP H p2 k2 (y.fv kz.length) := by
  cases h with
  | cons e a b => cases b with
    | cons e2 a2 b2 => cases b2; exact ⟨_, _, _, _, rfl, e, a, e2, a2⟩
theorem nodup_le : ∀ (n : Nat) (z : List Int), z.Nodup → (∀ q ∈ z, 0 ≤ q ∧ q < (n : Nat)) → z.length ≤ n
  | 0, z, _, h => by
    cases z with
    | nil => exact Nat.le_refl _
    | cons a r => have := h a List.mem_cons_self; omega
  | n + 1, z, nd, h => by
    by_cases c : ((n : Nat) : Int) ∈ z
    · have h1 := nodup_le n (z.erase (n : Nat)) (nd.erase _) fun q hq => by
        have hm := (nd.mem_erase_iff).mp hq
        have := h q hm.2
        have := hm.1
        omega
      rw [List.length_erase_of_mem c] at h1
      omega
    · have h1 := nodup_le n z nd fun q hq => by
        have := h q hq
        have : q ≠ (n : Nat) := fun e => c (e ▸ hq)
        omega
      omega
def spPart (K : PySem.W.Frag) (CP CE : Addr) : Sp := fun vs H Q E => ∃ (v : V) (g pl : Addr) (us : List V) (t : Trm) (ks : List Kd), vs = [v, .ref g, .ref pl] ∧ Dq K H v t.dat ∧ t.wf ∧ t.isBad = false ∧ t.Few ks ∧ ks.length ≤ 3000000 ∧ KsAt K H g ks ∧ SqL K H pl us ∧ PtsOf K CP H us (t.subs ks) ∧
  (t.jd ks = none → ∀ H', Same H H' → E (.ref CE) none H') ∧ ∀ k, t.jd ks = some k → ∀ p H', Same H H' → PartAt K CP H' p k (t.fv ks.length) → (t = .unit → ∀ z us', H z = some (.lst us') → PartAt K CP (out z H') p k (t.fv ks.length)) → Q (.ref p) H'
abbrev s_part : Stmt := top 17
theorem sc_part : FnScope ["thing", "given", "parts", "word", "needs", "number", "outer", "need"] ["thing", "given", "parts"] (defScope s_part) := ⟨rfl, rfl, rfl, by decide +kernel, rfl, by decide +kernel, by decide +kernel⟩
section
variable {P : Program} {w : World} {K : PySem.W.Frag} {mg : Str → Option Value} {base : Heap} {CN CP CE : Addr}
theorem ok_part (A : At K mg "_part" s_part) (T : TxT K mg w CP CE) (C_given_part : Cal P w K mg base (L2.CX P w) 3 "_given_part" ["number", "given"] (spGiven K CP CE)) (C_needs_of_parts : Cal P w K mg base CX0 1 "_needs_of_parts" ["parts"] (spNp K CP)) (C_kind_by_parts : Cal P w K mg base (L2.CX P w) 3 "_kind_by_parts" ["word", "parts"] (spKbp K CP CE)) :
    Cal P w K mg base (L2.CX P w) 4 "_part" ["thing", "given", "parts"] (spPart K CP CE) := by
  obtain ⟨f, fd, F, m⟩ := A
  obtain ⟨fI, fdI, FI, GI, M⟩ := ok_pt (P := P) (base := base) T
  have bI : Binds K fdI ["self", "word", "kind", "parts", "number", "needs"] [] := GI.binds (ps := ["self", "word", "kind", "parts", "number", "needs"]) (fun _ _ _ _ _ _ us hl => match us, hl with | [_, _, _, _, _, _], _ => rfl)
  refine ⟨f, fd, F.okX sc_part (fun vs H Q E h => ?_) (fun cdv A outer s H vs Q E hr h => ?_), F.binds (ps := ["thing", "given", "parts"]) (fun _ _ _ _ _ _ us hl => match us, hl with | [_, _, _], _ => rfl), F.kp, m⟩
  · obtain ⟨v, g, pl, us, t, ks, rfl, _⟩ := h; rfl
  obtain ⟨v, g, pl, us, t, ks, rfl, hd, wf, nb, few, hkl, hG, hS, hP, q1, q2⟩ := h
  refine ⟨_, (pss_cons (ps_set (i := 3) sc_part.nd rfl (by first | exact Or.inl rfl | exact Or.inr rfl) (pe_ix ix_B (pv 0) pe_int (fun _ _ => rfl)))
  (pss_cons (ps_if (pt_cmpR (op_eqA (room200 hr)) (pv 3) pe_str (nomark _))
   (pss_one (ps_ret (pe_calC C_given_part (hr.mono (by first | decide | omega)) (passes_call (takes_of rfl rfl rfl rfl) (fun _ _ _ _ h => h)) (pa_cons (pe_ix ix_B (pv 0) pe_int (fun _ _ => rfl)) (pa_cons (pv 1) pa_nil)))))
   pss_nil)
  (pss_gen (I := (fun D σ H1 => ∃ (wd : Str) (l : List (Kd × (Int → Bool))), H1 = H ∧ σ = [some v, some (.ref g), some (.ref pl), some (.str wd), none, none, none, none] ∧ PtsAt K CP H us l ∧ us.length ≤ 2 ∧ (l.length = 1 ∨ ∀ z : List Int, z.Nodup → (∀ q ∈ z, ∃ e ∈ l, e.2 q = true) → z.length < 64) ∧ (∀ v' H', Q v' H' → D.rt v' H') ∧
    ((wd ≠ "make" ∧ WdOf wd l.length ∧ (∀ e ∈ l, e.1.deep ≤ 150) ∧ kbp wd (l.map Prod.fst) = t.jd ks ∧ ∀ q, (∃ e ∈ l, e.2 q = true) ↔ t.fv ks.length q = true) ∨
      (wd = "make" ∧ ∃ (c : Kd) (t' : Trm) (k : Kd) (a : Addr) (v1 v2 : V), t = .mk c t' ∧ l = [(k, t'.fv (ks.length + 1))] ∧ t'.jd (ks ++ [c]) = some k ∧ v = .ref a ∧ SqT K H a [.str "make", v1, v2] ∧ Dq K H v1 c.dat)))) (pss_cons (ps_set (i := 4) sc_part.nd rfl (by first | exact Or.inl rfl | exact Or.inr rfl) (pe_calC C_needs_of_parts (hr.mono (by first | decide | omega)) pass0 (pa_cons (pv 2) pa_nil)))
  (pss_cons (ps_if (pt_cmpR (op_eqA (room200 hr)) (pv 3) pe_str (nomark _))
   (pss_cons (ps_set (i := 5) sc_part.nd rfl (by first | exact Or.inl rfl | exact Or.inr rfl) (pe_callB call_len (by rfl) T.z_len (by decide +kernel) (pa_cons (pv 1) pa_nil)))
  (pss_cons (ps_setLc (i := 6) (own := [("need", 7)]) (g := gName 7) (by rfl) sc_part.nd rfl rfl (sw_true rfl rfl rfl (by decide +kernel)) (pi_list (pv 4)) (blkOk_by (own := [("need", 7)]) (N := ["thing", "given", "parts", "word", "needs", "number", "outer", "need"]) (sc := defScope s_part) (by decide +kernel)) (fun _ _ _ _ _ => (pg_name (i := 7) sc_part.nd rfl (by first | exact Or.inl rfl | exact Or.inr rfl))) (fun _ _ _ _ _ => (pts_one (pt_cmpR (r := rNeA K) (op_neA (room200 hr)) (pv 7) (pv 5) (nomark _)))) (fun _ _ _ _ _ => (pv 7)))
  (pss_one (ps_ret (pe_make M FI (hr.mono (by first | decide | omega)) (by rfl) T.g_Part bI .nil pass0 (pa_cons (pv 3) (pa_cons (pe_tup (pa_cons pe_str (pa_cons (pe_ix ix_B (pv 0) pe_int (fun _ _ => rfl)) (pa_cons (pe_fld (pe_ix ix_B (pv 2) pe_int (fun _ _ => rfl)) rfl) pa_nil)))) (pa_cons (pv 2) (pa_cons (pv 5) (pa_cons (pv 6) pa_nil))))))))))
   pss_nil)
  (pss_one (ps_ret (pe_make M FI (hr.mono (by first | decide | omega)) (by rfl) T.g_Part bI .nil pass0 (pa_cons (pv 3) (pa_cons (pe_calC C_kind_by_parts (hr.mono (by first | decide | omega)) (passes_call (takes_of rfl rfl rfl rfl) (fun _ _ _ _ h => h)) (pa_cons (pv 3) (pa_cons (pv 2) pa_nil))) (pa_cons (pv 2) (pa_cons pe_non (pa_cons (pv 4) pa_nil)))))))))) ?i2))), ?first⟩
  case i2 =>
    rintro D σ H1 ⟨wd, l, rfl, rfl, hA, l2, fw, hn, alt⟩
    refine ⟨_, rfl, pl, us, l, rfl, hS, hA, l2, fw, fun nl ns H2 s2 en pw hq new => ⟨_, rfl, .inl ⟨rfl, _, rfl, ?_⟩⟩⟩
    rcases alt with ⟨nm, hw, dp, ek, ef⟩ | ⟨rfl, c0, t', k, a, v1, v2, rfl, rfl, jt, rfl, hT, dc⟩
    · refine iteF' (by simpa using nm) ?_
      refine ⟨_, rfl, _, rfl, _, rfl, wd, pl, us, l, rfl, L2.Same.seq s2 hS, hA.same s2, hw, dp, fun h H' s' => q1 (ek ▸ h) H' (s2.trans s'), fun k hk kv H3 s3 dk => ⟨_, rfl, _, rfl, fun x dx hx hdx ne => ⟨x, dx, _, _, _, _, _, rfl, upd_same, rfl, ?_⟩⟩⟩
      refine hn _ _ (q2 k (ek ▸ hk) x _ ((s2.trans s3).trans (same_made hx hdx)) (part_made hx hdx dk (s3 _ _ en) pw (fun q => (hq q).trans (ef q))) fun et z us' ez => ?_)
      have l0 : l.length ≠ 1 := by
        subst et
        have h1 := hP.length
        have h2 := hA.length
        simp only [Trm.subs, List.length_nil] at h1
        omega
      have e3 := (s2.trans s3) _ _ ez
      have nz : nl ≠ z := (ne_of_none ez (new l0)).symm
      have nx : x ≠ z := (ne_of_none e3 hx).symm
      have sM := same_made (C := CP) (fs := ptF (.str wd) kv (.ref pl) .non (.ref nl)) hx hdx
      exact ⟨dx, nl, _, kv, _, _, ns, out_at nx upd_same, Dq.outp (sM _ _ e3) k.pure (dk.same sM), out_at nz (sM _ _ (s3 _ _ en)), pw, fun q => (hq q).trans (ef q)⟩
    · obtain ⟨gs, hgs, hgA⟩ := hG
      have gl := hgA.length
      rw [List.length_map] at gl
      cases hA with
      | cons pa b =>
      cases b
      rename_i p
      obtain ⟨dx, nl0, wd', kv, ps, nm, ns0, e, d, en0, pw0, hq0⟩ := pa
      refine iteT' (by decide) ⟨_, rfl, _, _, rfl, .inl ⟨_, .of (s2 _ _ hgs), rfl⟩, ?_⟩
      rw [gl]
      refine ⟨_, rfl, nl, rfl, ⟨_, .of en⟩, fun D2 hD2 => ?_⟩
      refine lc_list (K := K) (a := nl) (xs := ns.map V.int) (fun j H' => H' D2 = some (.lst (((ns.take j).filter fun q : Int => !decide (q = ((ks.length : Nat) : Int))).map V.int)) ∧ Same H2 (out D2 H')) ⟨upd_same, same_out hD2 (same_new hD2 _)⟩ (fun j H' _ h => .of ((of_out h.2) _ _ en)) ?_ ?_
      · rintro j x H' hx ⟨eD, sm⟩
        rw [List.getElem?_map] at hx
        obtain ⟨z, hz, rfl⟩ := Option.map_eq_some_iff.mp hx
        refine ⟨rfl, _, rfl, _, rfl, .inl ⟨rfl, _, rfl, ?_⟩⟩
        have et : ns.take (j + 1) = ns.take j ++ [z] := by rw [List.take_succ, hz]; rfl
        by_cases c : z = (ks.length : Nat)
        · have e1 : (!decide (V.int z = V.int (ks.length : Nat))) = false := by simp [c]
          rw [e1]
          refine ⟨?_, sm⟩
          rw [et, List.filter_append, eD]
          simp [c]
        · have e1 : (!decide (V.int z = V.int (ks.length : Nat))) = true := by simp [c]
          rw [e1]
          refine ⟨_, rfl, _, eD, ?_, ?_, sm.trans (out_set _)⟩
          · have l1 : ns.length ≤ ks.length + 1 := by
              have h := nodup_le (ks ++ [c0]).length ns (pw.imp fun h e => by omega) fun q hqn => Trm.fv_lt t' (ks ++ [c0]) k jt q (by rw [List.length_append]; have h := (hq q).mp hqn; simpa using h)
              rw [List.length_append] at h
              exact h
            have l2 := List.length_filter_le (fun q : Int => !decide (q = ((ks.length : Nat) : Int))) (ns.take j)
            have l3 := List.length_take_le' j ns
            rw [List.length_map]
            unfold sizeLine
            omega
          · rw [upd_same, et, List.filter_append, List.map_append]
            simp [c]
      · rintro H3 ⟨eD, sm⟩
        have s3 := of_out sm
        rw [List.length_map, List.take_length] at eD
        refine ⟨_, rfl, _, rfl, .inl (.inr (.inl ⟨a, _, 1, v1, rfl, rfl, KB.Same.tup (s2.trans s3) hT, at1 _ _ _, _, rfl, ix0_seq (.inl (L2.Same.seq (s2.trans s3) hS)) ⟨p, CP, dx, _, kv, rfl, (s2.trans s3) _ _ e, T.cls, T.no_kind, ptF_kind, (by show 3 ≤ sizeLine; decide), fun tp htp => ?_⟩⟩))⟩
        have s4 := same_new htp (.tup [.str "from", v1, kv])
        have s14 := (s2.trans s3).trans s4
        refine ⟨_, rfl, _, rfl, _, rfl, fun x dx hx hdx ne => ⟨x, dx, _, _, _, _, _, rfl, upd_same, rfl, ?_⟩⟩
        refine hn _ _ (q2 (.f c0 k) (by simp [Trm.jd, jt]) x _ (s14.trans (same_made hx hdx)) (part_made hx hdx (.tup (.of upd_same) (.cons (.str _) (.cons (dc.same s14) (.cons (d.same s14) .nil)))) (s4 _ _ eD) (pw.filter _) (fun q => ?_)) (fun h => by cases h))
        rw [List.mem_filter, hq]
        simp [Trm.fv]
  case first =>
    have pof : ∀ {vs : List V} {t' : Trm} {ks' : List Kd}, PtsOf K CP H vs [(t', ks')] → ∃ p k, vs = [.ref p] ∧ t'.jd ks' = some k ∧ PartAt K CP H p k (t'.fv ks'.length) := fun h => by
      cases h with
      | cons e a b => cases b; exact ⟨_, _, rfl, e, a⟩
    cases t with
    | bad d => cases nb
    | giv x =>
      obtain ⟨a, u, rfl, hT, hx⟩ := dq_tup2 hd
      refine ⟨_, rfl, ix0_seq (.inr hT) ⟨_, rfl, .inl ⟨rfl, _, rfl, iteT' (by decide) ?_⟩⟩⟩
      refine ⟨_, rfl, .inl (.inr (.inl ⟨a, _, 1, u, rfl, rfl, hT, at1 _ _ _, _, rfl, u, x, g, ks, rfl, hx, hG, q1, fun k hk p H' s pa => q2 k hk p H' s pa (fun h => by cases h)⟩))⟩
    | unit =>
      obtain ⟨a, rfl, hT⟩ := dq_tup1 hd
      cases hP
      refine ⟨_, rfl, ix0_seq (.inr hT) ⟨_, rfl, .inl ⟨rfl, _, rfl, iteF' (by decide) ?_⟩⟩⟩
      exact ⟨_, [], rfl, rfl, .nil, by decide, .inr (fun z _ h => nil_few h), fun _ _ h => h, .inl ⟨by decide, .inl ⟨rfl, rfl⟩, (fun e h => by cases h), rfl, fun q => by simp [Trm.fv]⟩⟩
    | fst t' =>
      obtain ⟨a, u, rfl, hT, hx⟩ := dq_tup2 hd
      obtain ⟨p, k, rfl, ej, pa⟩ := pof hP
      refine ⟨_, rfl, ix0_seq (.inr hT) ⟨_, rfl, .inl ⟨rfl, _, rfl, iteF' (by decide) ?_⟩⟩⟩
      exact ⟨_, [(k, t'.fv ks.length)], rfl, rfl, .cons pa .nil, by simp, .inl rfl, fun _ _ h => h, .inl ⟨by decide, .inr (.inl ⟨rfl, .inl rfl⟩), fun e h => by rw [List.mem_singleton.mp h]; exact few.2 k ej, by simp only [Trm.jd, ej]; rfl, fun q => by simp [Trm.fv]⟩⟩
    | snd t' =>
      obtain ⟨a, u, rfl, hT, hx⟩ := dq_tup2 hd
      obtain ⟨p, k, rfl, ej, pa⟩ := pof hP
      refine ⟨_, rfl, ix0_seq (.inr hT) ⟨_, rfl, .inl ⟨rfl, _, rfl, iteF' (by decide) ?_⟩⟩⟩
      exact ⟨_, [(k, t'.fv ks.length)], rfl, rfl, .cons pa .nil, by simp, .inl rfl, fun _ _ h => h, .inl ⟨by decide, .inr (.inl ⟨rfl, .inr rfl⟩), fun e h => by rw [List.mem_singleton.mp h]; exact few.2 k ej, by simp only [Trm.jd, ej]; rfl, fun q => by simp [Trm.fv]⟩⟩
    | mk c t' =>
      obtain ⟨a, u, z, rfl, hT, hx, hy⟩ := dq_tup3 hd
      obtain ⟨p, k, rfl, ej, pa⟩ := pof hP
      rw [List.length_append] at pa
      refine ⟨_, rfl, ix0_seq (.inr hT) ⟨_, rfl, .inl ⟨rfl, _, rfl, iteF' (by decide) ?_⟩⟩⟩
      exact ⟨_, [(k, t'.fv (ks.length + 1))], rfl, rfl, .cons pa .nil, by simp, .inl rfl, fun _ _ h => h, .inr ⟨rfl, c, t', k, a, u, z, rfl, rfl, ej, rfl, hT, hx⟩⟩
    | doo x y =>
      obtain ⟨a, u, z, rfl, hT, hx, hy⟩ := dq_tup3 hd
      obtain ⟨p, k, p2, k2, rfl, e1, a1, e2, a2⟩ := pof2 hP
      refine ⟨_, rfl, ix0_seq (.inr hT) ⟨_, rfl, .inl ⟨rfl, _, rfl, iteF' (by decide) ?_⟩⟩⟩
      refine ⟨_, [(k, x.fv ks.length), (k2, y.fv ks.length)], rfl, rfl, .cons a1 (.cons a2 .nil), by simp, .inr fun z nd h => few.2.2.2 z nd fun q hqz => ?_, fun _ _ h => h, .inl ⟨by decide, .inr (.inr ⟨rfl, .inr rfl⟩), fun e h => ?_, (kbp_do _ _).trans (by simp [Trm.jd, e1, e2]), fun q => by simp [Trm.fv]⟩⟩
      · obtain ⟨e, he, fe⟩ := h q hqz
        rcases pair_mem he with rfl | rfl
        · exact ⟨by simp only [Bool.or_eq_true]; exact .inl fe, Trm.fv_lt x ks k e1 q fe⟩
        · exact ⟨by simp only [Bool.or_eq_true]; exact .inr fe, Trm.fv_lt y ks k2 e2 q fe⟩
      · rcases pair_mem h with rfl | rfl
        · exact few.2.1 k e1
        · exact few.2.2.1 k2 e2
    | both x y =>
      obtain ⟨a, u, z, rfl, hT, hx, hy⟩ := dq_tup3 hd
      obtain ⟨p, k, p2, k2, rfl, e1, a1, e2, a2⟩ := pof2 hP
      refine ⟨_, rfl, ix0_seq (.inr hT) ⟨_, rfl, .inl ⟨rfl, _, rfl, iteF' (by decide) ?_⟩⟩⟩
      refine ⟨_, [(k, x.fv ks.length), (k2, y.fv ks.length)], rfl, rfl, .cons a1 (.cons a2 .nil), by simp, .inr fun z nd h => few.2.2.2 z nd fun q hqz => ?_, fun _ _ h => h, .inl ⟨by decide, .inr (.inr ⟨rfl, .inl rfl⟩), fun e h => ?_, (kbp_both _ _).trans (by simp [Trm.jd, e1, e2]), fun q => by simp [Trm.fv]⟩⟩
      · obtain ⟨e, he, fe⟩ := h q hqz
        rcases pair_mem he with rfl | rfl
        · exact ⟨by simp only [Bool.or_eq_true]; exact .inl fe, Trm.fv_lt x ks k e1 q fe⟩
        · exact ⟨by simp only [Bool.or_eq_true]; exact .inr fe, Trm.fv_lt y ks k2 e2 q fe⟩
      · rcases pair_mem h with rfl | rfl
        · exact few.2.1 k e1
        · exact few.2.2.1 k2 e2
end

/-! ## a term is read -/
namespace RdX
theorem pc_true : ∀ t : Trm, t.wf → t.isBad = false → pcB t.dat = true
  | .giv x, _, _ => by
    simp only [Trm.dat, pcB, Bool.and_eq_true, decide_eq_true_eq, Bool.or_eq_true, Bool.not_eq_true', decide_eq_false_iff_not]
    exact ⟨by simp only [List.length_cons, List.length_nil]; decide +kernel, .inl (by decide +kernel)⟩
  | .fst t, _, _ => by
    simp only [Trm.dat, pcB, Bool.and_eq_true, decide_eq_true_eq, Bool.or_eq_true, Bool.not_eq_true', decide_eq_false_iff_not]
    exact ⟨by simp only [List.length_cons, List.length_nil]; decide +kernel, .inl (by decide +kernel)⟩
  | .snd t, _, _ => by
    simp only [Trm.dat, pcB, Bool.and_eq_true, decide_eq_true_eq, Bool.or_eq_true, Bool.not_eq_true', decide_eq_false_iff_not]
    exact ⟨by simp only [List.length_cons, List.length_nil]; decide +kernel, .inl (by decide +kernel)⟩
  | .mk k t, h, _ => by
    simp only [Trm.dat, pcB, Bool.and_eq_true, decide_eq_true_eq, Bool.or_eq_true, Bool.not_eq_true', decide_eq_false_iff_not]
    exact ⟨by simp only [List.length_cons, List.length_nil]; decide +kernel, .inr (by simp only [hdK]; exact isKd_dat k h.1)⟩
  | .doo a b, _, _ => by
    simp only [Trm.dat, pcB, Bool.and_eq_true, decide_eq_true_eq, Bool.or_eq_true, Bool.not_eq_true', decide_eq_false_iff_not]
    exact ⟨by simp only [List.length_cons, List.length_nil]; decide +kernel, .inl (by decide +kernel)⟩
  | .both a b, _, _ => by
    simp only [Trm.dat, pcB, Bool.and_eq_true, decide_eq_true_eq, Bool.or_eq_true, Bool.not_eq_true', decide_eq_false_iff_not]
    exact ⟨by simp only [List.length_cons, List.length_nil]; decide +kernel, .inl (by decide +kernel)⟩
  | .unit, _, _ => by
    simp only [Trm.dat, pcB, Bool.and_eq_true, decide_eq_true_eq, Bool.or_eq_true, Bool.not_eq_true', decide_eq_false_iff_not]
    exact ⟨by simp only [List.length_cons, List.length_nil]; decide +kernel, .inl (by decide +kernel)⟩
  | .bad d, _, h => by cases h
theorem parts_subs : ∀ (t : Trm) (ks : List Kd), t.isBad = false → partsD t.dat = (t.subs ks).map fun n => n.1.dat
  | .giv x, _, _ => rfl
  | .fst t, _, _ => rfl
  | .snd t, _, _ => rfl
  | .mk k t, _, _ => rfl
  | .doo a b, _, _ => rfl
  | .both a b, _, _ => rfl
  | .unit, _, _ => rfl
  | .bad d, _, h => by cases h
/-- how much stands on the stack -/
def stz : List (Trm × List Kd) → Nat
  | [] => 0
  | n :: r => sz n.1.dat + stz r
theorem stz_append : ∀ a b : List (Trm × List Kd), stz (a ++ b) = stz a + stz b
  | [], b => by simp [stz]
  | n :: r, b => by simp only [List.cons_append, stz, stz_append r b]; omega
theorem subs_stz : ∀ (t : Trm) (ks : List Kd), stz (t.subs ks) < sz t.dat
  | .giv x, _ => by simp only [Trm.subs, stz, Trm.dat, sz, szs]; omega
  | .fst t, _ => by simp only [Trm.subs, stz, Trm.dat, sz, szs]; omega
  | .snd t, _ => by simp only [Trm.subs, stz, Trm.dat, sz, szs]; omega
  | .mk k t, _ => by simp only [Trm.subs, stz, Trm.dat, sz, szs]; omega
  | .doo a b, _ => by simp only [Trm.subs, stz, Trm.dat, sz, szs]; omega
  | .both a b, _ => by simp only [Trm.subs, stz, Trm.dat, sz, szs]; omega
  | .unit, _ => by simp only [Trm.subs, stz, Trm.dat, sz, szs]; omega
  | .bad d, _ => by have := sz_pos d; simp only [Trm.subs, stz, Trm.dat]; omega
theorem subs_ok : ∀ (t : Trm) (ks : List Kd), t.isBad = false → t.okT = (t.subs ks).all fun n => n.1.okT
  | .giv x, _, _ => rfl
  | .fst t, _, _ => by simp [Trm.okT, Trm.subs]
  | .snd t, _, _ => by simp [Trm.okT, Trm.subs]
  | .mk k t, _, _ => by simp [Trm.okT, Trm.subs]
  | .doo a b, _, _ => by simp [Trm.okT, Trm.subs]
  | .both a b, _, _ => by simp [Trm.okT, Trm.subs]
  | .unit, _, _ => rfl
  | .bad d, _, h => by cases h
theorem subs_two (t : Trm) (ks : List Kd) : (t.subs ks).length ≤ 2 := by cases t <;> simp [Trm.subs]
/-- what holds of the rows -/
theorem pre_all : ∀ (t : Trm) (ks : List Kd) (n : Trm × List Kd), n ∈ t.pre ks → (t.Few ks → n.1.Few n.2) ∧ n.2.length + sz n.1.dat ≤ ks.length + sz t.dat ∧ sz n.1.dat ≤ sz t.dat
  | .giv x, ks, n, h => by rw [List.mem_singleton.mp h]; exact ⟨id, Nat.le_refl _, Nat.le_refl _⟩
  | .fst t, ks, n, h => by
    rcases List.mem_cons.mp h with rfl | h
    · exact ⟨id, Nat.le_refl _, Nat.le_refl _⟩
    · obtain ⟨a, b, c⟩ := pre_all t ks n h
      exact ⟨fun f => a f.1, by simp only [Trm.dat, sz, szs]; omega, by simp only [Trm.dat, sz, szs]; omega⟩
  | .snd t, ks, n, h => by
    rcases List.mem_cons.mp h with rfl | h
    · exact ⟨id, Nat.le_refl _, Nat.le_refl _⟩
    · obtain ⟨a, b, c⟩ := pre_all t ks n h
      exact ⟨fun f => a f.1, by simp only [Trm.dat, sz, szs]; omega, by simp only [Trm.dat, sz, szs]; omega⟩
  | .mk k t, ks, n, h => by
    rcases List.mem_cons.mp h with rfl | h
    · exact ⟨id, Nat.le_refl _, Nat.le_refl _⟩
    · obtain ⟨a, b, c⟩ := pre_all t _ n h
      rw [List.length_append, List.length_singleton] at b
      exact ⟨fun f => a f.1, by simp only [Trm.dat, sz, szs]; omega, by simp only [Trm.dat, sz, szs]; omega⟩
  | .doo x y, ks, n, h => by
    rcases List.mem_cons.mp h with rfl | h
    · exact ⟨id, Nat.le_refl _, Nat.le_refl _⟩
    · rcases List.mem_append.mp h with h | h
      · obtain ⟨a, b, c⟩ := pre_all y ks n h
        exact ⟨fun f => a f.1.2, by simp only [Trm.dat, sz, szs]; omega, by simp only [Trm.dat, sz, szs]; omega⟩
      · obtain ⟨a, b, c⟩ := pre_all x ks n h
        exact ⟨fun f => a f.1.1, by simp only [Trm.dat, sz, szs]; omega, by simp only [Trm.dat, sz, szs]; omega⟩
  | .both x y, ks, n, h => by
    rcases List.mem_cons.mp h with rfl | h
    · exact ⟨id, Nat.le_refl _, Nat.le_refl _⟩
    · rcases List.mem_append.mp h with h | h
      · obtain ⟨a, b, c⟩ := pre_all y ks n h
        exact ⟨fun f => a f.1.2, by simp only [Trm.dat, sz, szs]; omega, by simp only [Trm.dat, sz, szs]; omega⟩
      · obtain ⟨a, b, c⟩ := pre_all x ks n h
        exact ⟨fun f => a f.1.1, by simp only [Trm.dat, sz, szs]; omega, by simp only [Trm.dat, sz, szs]; omega⟩
  | .unit, ks, n, h => by rw [List.mem_singleton.mp h]; exact ⟨id, Nat.le_refl _, Nat.le_refl _⟩
  | .bad d, ks, n, h => by rw [List.mem_singleton.mp h]; exact ⟨id, Nat.le_refl _, Nat.le_refl _⟩
theorem pre_len : ∀ (t : Trm) (ks : List Kd), (t.pre ks).length ≤ sz t.dat
  | .giv x, _ => by simp only [Trm.pre, Trm.dat, sz, szs, List.length_cons, List.length_nil]; omega
  | .fst t, ks => by have := pre_len t ks; simp only [Trm.pre, Trm.dat, sz, szs, List.length_cons]; omega
  | .snd t, ks => by have := pre_len t ks; simp only [Trm.pre, Trm.dat, sz, szs, List.length_cons]; omega
  | .mk k t, ks => by have := pre_len t (ks ++ [k]); simp only [Trm.pre, Trm.dat, sz, szs, List.length_cons]; omega
  | .doo a b, ks => by have := pre_len a ks; have := pre_len b ks; simp only [Trm.pre, Trm.dat, sz, szs, List.length_cons, List.length_append]; omega
  | .both a b, ks => by have := pre_len a ks; have := pre_len b ks; simp only [Trm.pre, Trm.dat, sz, szs, List.length_cons, List.length_append]; omega
  | .unit, _ => by simp only [Trm.pre, Trm.dat, sz, szs, List.length_cons, List.length_nil]; omega
  | .bad d, _ => by have := sz_pos d; simp only [Trm.pre, Trm.dat, List.length_cons, List.length_nil]; omega
/-- what is left of the rows by a stack -/
def preS (S : List (Trm × List Kd)) : List (Trm × List Kd) := S.reverse.flatMap fun n => n.1.pre n.2
theorem preS_push (S : List (Trm × List Kd)) (t : Trm) (ks : List Kd) : preS (S ++ [(t, ks)]) = (t, ks) :: preS (S ++ t.subs ks) := by
  unfold preS
  rw [List.reverse_append, List.reverse_append, List.reverse_singleton, List.flatMap_append, List.flatMap_append, List.flatMap_singleton, Trm.pre_eq, List.cons_append]
theorem mem_preS {S : List (Trm × List Kd)} {n : Trm × List Kd} (h : n ∈ S) : n ∈ preS S := List.mem_flatMap.mpr ⟨n, List.mem_reverse.mpr h, Trm.pre_self n.1 n.2⟩
end RdX
/-- the stack of what is left -/
inductive StT (K : PySem.W.Frag) (H : Hp) : List V → List (Trm × List Kd) → Prop where
  | nil : StT K H [] []
  | cons {a g : Addr} {v : V} {vs : List V} {t : Trm} {ks : List Kd} {st : List (Trm × List Kd)} : SqT K H a [v, .ref g] → Dq K H v t.dat → t.wf → KsAt K H g ks → StT K H vs st → StT K H (.ref a :: vs) ((t, ks) :: st)
/-- the rows -/
inductive RwT (K : PySem.W.Frag) (H : Hp) : List V → List (Trm × List Kd) → Prop where
  | nil : RwT K H [] []
  | cons {a g : Addr} {v : V} {vs : List V} {t : Trm} {ks : List Kd} {st : List (Trm × List Kd)} : SqT K H a [v, .ref g, .int ((t.subs ks).length : Nat)] → Dq K H v t.dat → t.wf → t.isBad = false → KsAt K H g ks → RwT K H vs st → RwT K H (.ref a :: vs) ((t, ks) :: st)
section
variable {K : PySem.W.Frag} {H H' : Hp}
theorem StT.same (e : Same H H') : ∀ {vs : List V} {st : List (Trm × List Kd)}, StT K H vs st → StT K H' vs st
  | _, _, .nil => .nil
  | _, _, .cons h d w k t => .cons (KB.Same.tup e h) (d.same e) w (k.same e) (StT.same e t)
theorem StT.length : ∀ {vs : List V} {st : List (Trm × List Kd)}, StT K H vs st → vs.length = st.length
  | _, _, .nil => rfl
  | _, _, .cons _ _ _ _ t => by rw [List.length_cons, List.length_cons, StT.length t]
theorem StT.append : ∀ {vs us : List V} {st su : List (Trm × List Kd)}, StT K H vs st → StT K H us su → StT K H (vs ++ us) (st ++ su)
  | _, _, _, _, .nil, b => b
  | _, _, _, _, .cons h d w k t, b => .cons h d w k (StT.append t b)
theorem StT.last {e : Trm × List Kd} : ∀ {st : List (Trm × List Kd)} {vs : List V}, StT K H vs (st ++ [e]) → ∃ ws a v g, vs = ws ++ [.ref a] ∧ StT K H ws st ∧ SqT K H a [v, .ref g] ∧ Dq K H v e.1.dat ∧ e.1.wf ∧ KsAt K H g e.2 := by
  intro st
  induction st with
  | nil =>
    intro vs h
    rw [List.nil_append] at h
    cases h with
    | cons h d w k t =>
      cases t
      exact ⟨[], _, _, _, rfl, .nil, h, d, w, k⟩
  | cons x r ih =>
    intro vs h
    rw [List.cons_append] at h
    cases h with
    | cons h d w k t =>
      obtain ⟨ws, a, v, g, rfl, t', q⟩ := ih t
      exact ⟨_ :: ws, a, v, g, rfl, .cons h d w k t', q⟩
theorem RwT.same (e : Same H H') : ∀ {vs : List V} {st : List (Trm × List Kd)}, RwT K H vs st → RwT K H' vs st
  | _, _, .nil => .nil
  | _, _, .cons h d w b k t => .cons (KB.Same.tup e h) (d.same e) w b (k.same e) (RwT.same e t)
theorem RwT.length : ∀ {vs : List V} {st : List (Trm × List Kd)}, RwT K H vs st → vs.length = st.length
  | _, _, .nil => rfl
  | _, _, .cons _ _ _ _ _ t => by rw [List.length_cons, List.length_cons, RwT.length t]
theorem RwT.append : ∀ {vs us : List V} {st su : List (Trm × List Kd)}, RwT K H vs st → RwT K H us su → RwT K H (vs ++ us) (st ++ su)
  | _, _, _, _, .nil, b => b
  | _, _, _, _, .cons h d w b' k t, b => .cons h d w b' k (RwT.append t b)
theorem RwT.cast {vs : List V} {st su : List (Trm × List Kd)} (h : RwT K H vs st) (e : st = su) : RwT K H vs su := e ▸ h
theorem RwT.at : ∀ {vs : List V} {st : List (Trm × List Kd)}, RwT K H vs st → ∀ {i : Nat} {n : Trm × List Kd}, st[i]? = some n → ∃ a g v, vs[i]? = some (.ref a) ∧ SqT K H a [v, .ref g, .int ((n.1.subs n.2).length : Nat)] ∧ Dq K H v n.1.dat ∧ n.1.wf ∧ n.1.isBad = false ∧ KsAt K H g n.2
  | _, _, .nil, i, x, h => by cases h
  | _, _, .cons h d w b k t, 0, x, e => by cases e; exact ⟨_, _, _, rfl, h, d, w, b, k⟩
  | _, _, .cons h d w b k t, i + 1, x, e => RwT.at t e
end
theorem PtsOf.refs {K : PySem.W.Frag} {CP : Addr} {H : Hp} : ∀ {vs : List V} {l : List (Trm × List Kd)}, PtsOf K CP H vs l → ∀ {i : Nat} {x : V}, vs[i]? = some x → ∃ p, x = .ref p
  | _, _, .nil, i, x, h => by cases h
  | _, _, .cons _ _ b, 0, x, h => by cases h; exact ⟨_, rfl⟩
  | _, _, .cons _ _ b, i + 1, x, h => PtsOf.refs b h
/-- the heap but for the rows and the stack -/
def vw (r l : Addr) (H : Hp) : Hp := out r (out l H)
section
variable {r l : Addr} {H H' : Hp}
theorem vw_sub : Same (vw r l H) H := (out_sub _ _).trans (out_sub _ _)
theorem vw_same (s : Same H H') : Same (vw r l H) (vw r l H') := out_same (out_same s)
theorem vw_setl (o : HO) : Same (vw r l H) (vw r l (upd H l o)) := out_same (out_set o)
theorem vw_setr (o : HO) : Same (vw r l H) (vw r l (upd H r o)) := fun b u q => by
  have h1 := out_some q
  have h2 := out_some h1.2
  exact out_at h1.1 (out_at h2.1 ((upd_ne h1.1).trans h2.2))
theorem vw_at {p : Addr} {o : HO} (n1 : p ≠ r) (n2 : p ≠ l) (h : H p = some o) : vw r l H p = some o := out_at n1 (out_at n2 h)
end
theorem RdX.len_stz : ∀ S : List (Trm × List Kd), S.length ≤ RdX.stz S
  | [] => Nat.le_refl _
  | n :: r => by have := RdX.len_stz r; have := sz_pos n.1.dat; simp only [List.length_cons, RdX.stz]; omega
/-- the word of a thing, and what is given to its parts -/
theorem word_of {K : PySem.W.Frag} {H : Hp} {v : V} : ∀ {t : Trm}, Dq K H v t.dat → t.wf → t.isBad = false → ∃ a wd r, v = .ref a ∧ SqT K H a (.str wd :: r) ∧ ((wd = "make" ∧ ∃ c t' v1 v2, t = .mk c t' ∧ r = [v1, v2] ∧ Dq K H v1 c.dat) ∨ (wd ≠ "make" ∧ ∀ ks, ∀ n ∈ t.subs ks, n.2 = ks))
  | .giv x, h, _, _ => by obtain ⟨a, u, rfl, hT, _⟩ := dq_tup2 h; exact ⟨a, _, _, rfl, hT, .inr ⟨by decide, fun ks n hn => by cases hn⟩⟩
  | .fst t, h, _, _ => by obtain ⟨a, u, rfl, hT, _⟩ := dq_tup2 h; exact ⟨a, _, _, rfl, hT, .inr ⟨by decide, fun ks n hn => by rw [List.mem_singleton.mp hn]⟩⟩
  | .snd t, h, _, _ => by obtain ⟨a, u, rfl, hT, _⟩ := dq_tup2 h; exact ⟨a, _, _, rfl, hT, .inr ⟨by decide, fun ks n hn => by rw [List.mem_singleton.mp hn]⟩⟩
  | .mk c t, h, _, _ => by obtain ⟨a, u, z, rfl, hT, hx, _⟩ := dq_tup3 h; exact ⟨a, _, _, rfl, hT, .inl ⟨rfl, c, t, _, _, rfl, rfl, hx⟩⟩
  | .doo x y, h, _, _ => by obtain ⟨a, u, z, rfl, hT, hx, _⟩ := dq_tup3 h; exact ⟨a, _, _, rfl, hT, .inr ⟨by decide, fun ks n hn => by rcases pair_mem hn with rfl | rfl <;> rfl⟩⟩
  | .both x y, h, _, _ => by obtain ⟨a, u, z, rfl, hT, hx, _⟩ := dq_tup3 h; exact ⟨a, _, _, rfl, hT, .inr ⟨by decide, fun ks n hn => by rcases pair_mem hn with rfl | rfl <;> rfl⟩⟩
  | .unit, h, _, _ => by obtain ⟨a, rfl, hT⟩ := dq_tup1 h; exact ⟨a, _, _, rfl, hT, .inr ⟨by decide, fun ks n hn => by cases hn⟩⟩
  | .bad d, _, _, h => by cases h
/-- what is given to the parts -/
theorem inner_q {K : PySem.W.Frag} {W : World} {σ : L2.St} {H : Hp} {Q : VK} {v : V} {g r l : Addr} {o1 o2 : HO} {t : Trm} {ks : List Kd} (e4 : σ[4]? = some (some v)) (e5 : σ[5]? = some (some (.ref g))) (er : H r = some o1) (el : H l = some o2) (hd : Dq K (vw r l H) v t.dat) (wf : t.wf) (nb : t.isBad = false) (hG : KsAt K (vw r l H) g ks) (hl : ks.length ≤ 3000000)
    (q : ∀ gi kz H', Same H H' → KsAt K (vw r l H') gi kz → (∀ n ∈ t.subs ks, n.2 = kz) → Q (.ref gi) H') :
    tIf (tTest (tOp (rEqA K) (tOp (rIxB K W) (tVar 4) (tC (.int 0))) (tC (.str "make")))) (tOp (rAddA K) (tVar 5) (tLst (tCons (tOp (rIxB K W) (tVar 4) (tC (.int 1))) tNil))) (tVar 5) σ H Q := by
  obtain ⟨a, wd, rr, rfl, hT, alt⟩ := word_of hd wf nb
  have hT := KB.Same.tup (vw_sub (r := r) (l := l) (H := H)) hT
  refine ⟨_, e4, ix0_seq (.inr hT) (.inl ⟨rfl, _, rfl, ?_⟩)⟩
  rcases alt with ⟨rfl, c, t', v1, v2, rfl, rfl, dc⟩ | ⟨nm, hs⟩
  · obtain ⟨us, eg, hA⟩ := hG
    have hlen := hA.length
    rw [List.length_map] at hlen
    refine iteT' (by simp) ⟨_, e5, _, e4, .inl (.inr (.inl ⟨a, _, 1, v1, rfl, rfl, hT, at1 _ _ _, (by show 1 ≤ sizeLine; decide), fun p hp => ?_⟩))⟩
    have s1 := same_new hp (.lst [v1])
    refine .inr (.inr (.inl ⟨g, p, _, _, rfl, rfl, s1 _ _ (vw_sub _ _ eg), upd_same, fits (by rw [hlen]; simp only [List.length_cons, List.length_nil]; omega), fun z hz => ?_⟩))
    have s2 := s1.trans (same_new hz (.lst (us ++ [v1])))
    have nr : z ≠ r := (ne_of_none (s1 _ _ er) hz).symm
    have nl : z ≠ l := (ne_of_none (s1 _ _ el) hz).symm
    have sv := vw_same (r := r) (l := l) s2
    refine q z (ks ++ [c]) _ s2 ⟨_, vw_at nr nl upd_same, ?_⟩ (fun n hn => by rw [List.mem_singleton.mp hn])
    rw [List.map_append]
    exact (hA.same sv).append (.cons (dc.same sv) .nil)
  · exact iteF' (by simpa using nm) ⟨_, e5, q g ks H (Same.refl _) hG (hs ks)⟩
theorem subs_wf : ∀ {t : Trm}, t.wf → t.isBad = false → ∀ ks, ∀ n ∈ t.subs ks, n.1.wf
  | .giv x, _, _, ks, n, h => by cases h
  | .fst t, w, _, ks, n, h => by rw [List.mem_singleton.mp h]; exact w
  | .snd t, w, _, ks, n, h => by rw [List.mem_singleton.mp h]; exact w
  | .mk c t, w, _, ks, n, h => by rw [List.mem_singleton.mp h]; exact w.2
  | .doo a b, w, _, ks, n, h => by rcases pair_mem h with rfl | rfl; exact w.1; exact w.2
  | .both a b, w, _, ks, n, h => by rcases pair_mem h with rfl | rfl; exact w.1; exact w.2
  | .unit, _, _, ks, n, h => by cases h
  | .bad d, _, b, ks, n, h => by cases b
def spRead (K : PySem.W.Frag) (CP CE : Addr) : Sp := fun vs H Q E => ∃ (v : V) (g : Addr) (t : Trm) (ks : List Kd), vs = [v, .ref g] ∧ Dq K H v t.dat ∧ t.wf ∧ t.Few ks ∧ sz t.dat ≤ 1000000 ∧ ks.length ≤ 1000000 ∧ KsAt K H g ks ∧
  (t.jd ks = none → ∀ H', Same H H' → E (.ref CE) none H') ∧ ∀ k, t.jd ks = some k → ∀ p H', Same H H' → PartAt K CP H' p k (t.fv ks.length) → Q (.ref p) H'
abbrev s_read_term : Stmt := top 15
theorem sc_read_term : FnScope ["thing", "given", "rows", "left", "piece", "kinds", "pieces", "inner", "part", "made", "many", "at"] ["thing", "given"] (defScope s_read_term) := ⟨rfl, rfl, rfl, by decide +kernel, rfl, by decide +kernel, by decide +kernel⟩
section
variable {P : Program} {w : World} {K : PySem.W.Frag} {mg : Str → Option Value} {base : Heap} {CN CP CE : Addr}
theorem ok_read (A : At K mg "read_term" s_read_term) (T : TxT K mg w CP CE) (C_pieces : Cal P w K mg base (L2.CX P w) 4 "_pieces" ["thing"] (spPieces K CE)) (C_part : Cal P w K mg base (L2.CX P w) 4 "_part" ["thing", "given", "parts"] (spPart K CP CE)) :
    Cal P w K mg base (L2.CX P w) 5 "read_term" ["thing", "given"] (spRead K CP CE) := by
  obtain ⟨f, fd, F, m⟩ := A
  refine ⟨f, fd, F.okX sc_read_term (fun vs H Q E h => ?_) (fun cdv A outer s H vs Q E hr h => ?_), F.binds (ps := ["thing", "given"]) (fun _ _ _ _ _ _ us hl => match us, hl with | [_, _], _ => rfl), F.kp, m⟩
  · obtain ⟨v, g, t, ks, rfl, _⟩ := h; rfl
  obtain ⟨v, g, t, ks, rfl, hd, wf, few, hz, hkl, hG, q1, q2⟩ := h
  refine ⟨_, (pss_cons (ps_set (i := 2) sc_read_term.nd rfl (by first | exact Or.inl rfl | exact Or.inr rfl) (pe_lst pa_nil))
  (pss_cons (ps_set (i := 3) sc_read_term.nd rfl (by first | exact Or.inl rfl | exact Or.inr rfl) (pe_lst (pa_cons (pe_tup (pa_cons (pv 0) (pa_cons (pv 1) pa_nil))) pa_nil)))
  (pss_cons (ps_while (passes_of rfl) (pt_truth (pv 3) (by intro _; rfl))
   (pss_cons (ps_asg (pe_bm0 PySem.F.plainAttrs_list PySem.F.slot_list_pop PySem.F.type_list_pop mt_pop (pv 3) ) (pg_tup (by rfl) (pgs_cons (pg_name (i := 4) sc_read_term.nd rfl (by first | exact Or.inl rfl | exact Or.inr rfl)) (pgs_cons (pg_name (i := 5) sc_read_term.nd rfl (by first | exact Or.inl rfl | exact Or.inr rfl)) pgs_nil))))
  (pss_cons (ps_set (i := 6) sc_read_term.nd rfl (by first | exact Or.inl rfl | exact Or.inr rfl) (pe_calC C_pieces (hr.mono (by first | decide | omega)) (passes_call (takes_of rfl rfl rfl rfl) (fun _ _ _ _ h => h)) (pa_cons (pv 4) pa_nil)))
  (pss_cons (ps_expr (pe_bm PySem.F.plainAttrs_list PySem.F.slot_list_append PySem.F.type_list_append mt_append (pv 2) (pa_cons (pe_tup (pa_cons (pv 4) (pa_cons (pv 5) (pa_cons (pe_callB call_len (by rfl) T.z_len (by decide +kernel) (pa_cons (pv 6) pa_nil)) pa_nil)))) pa_nil)))
  (pss_cons (ps_set (i := 7) sc_read_term.nd rfl (by first | exact Or.inl rfl | exact Or.inr rfl) (pe_ifExp (pt_cmpR (op_eqA (room200 hr)) (pe_ix ix_B (pv 4) pe_int (fun _ _ => rfl)) pe_str (nomark _)) (pe_op op_addA (pv 5) (pe_lst (pa_cons (pe_ix ix_B (pv 4) pe_int (fun _ _ => rfl)) pa_nil))) (pv 5)))
  (pss_one (ps_expr (pe_bm PySem.F.plainAttrs_list PySem.F.slot_list_extend PySem.F.type_list_extend mt_extend (pv 3) (pa_cons (pe_lc (own := [("part", 8)]) (g := gName 8) (tt := tYes) (by rfl) sc_read_term.nd (pi_tup (pv 6)) (blkOk_by (own := [("part", 8)]) (N := ["thing", "given", "rows", "left", "piece", "kinds", "pieces", "inner", "part", "made", "many", "at"]) (sc := defScope s_read_term) (by decide +kernel)) (fun _ _ _ _ _ => (pg_name (i := 8) sc_read_term.nd rfl (by first | exact Or.inl rfl | exact Or.inr rfl))) (fun _ _ _ _ _ => pts_nil) (fun _ _ _ _ _ => (pe_tup (pa_cons (pv 8) (pa_cons (pv 7) pa_nil))))) pa_nil)))))))))
  (pss_gen (I := (fun D σ H1 => ∃ (rl : Addr) (rws : List V) (o3 o4 o5 o6 o7 o8 o9 o10 o11 : Option V), σ = [some v, some (.ref g), some (.ref rl), o3, o4, o5, o6, o7, o8, o9, o10, o11] ∧ H1 rl = some (.lst rws) ∧ RwT K H1 rws (t.pre ks) ∧ Same H (out rl H1) ∧ t.okT = true ∧ ∀ v' H', Q v' H' → D.rt v' H')) (pss_cons (ps_set (i := 9) sc_read_term.nd rfl (by first | exact Or.inl rfl | exact Or.inr rfl) (pe_lst pa_nil))
  (pss_cons (ps_for (passes_of rfl) rfl (pi_reversed (by rfl) T.z_reversed (pa_cons (pv 2) pa_nil)) (pg_tup (by rfl) (pgs_cons (pg_name (i := 4) sc_read_term.nd rfl (by first | exact Or.inl rfl | exact Or.inr rfl)) (pgs_cons (pg_name (i := 5) sc_read_term.nd rfl (by first | exact Or.inl rfl | exact Or.inr rfl)) (pgs_cons (pg_name (i := 10) sc_read_term.nd rfl (by first | exact Or.inl rfl | exact Or.inr rfl)) pgs_nil))))
   (pss_cons (ps_set (i := 11) sc_read_term.nd rfl (by first | exact Or.inl rfl | exact Or.inr rfl) (pe_op op_sub (pe_callB call_len (by rfl) T.z_len (by decide +kernel) (pa_cons (pv 9) pa_nil)) (pv 10)))
  (pss_cons (ps_set (i := 8) sc_read_term.nd rfl (by first | exact Or.inl rfl | exact Or.inr rfl) (pe_calC C_part (hr.mono (by first | decide | omega)) (passes_call (takes_of rfl rfl rfl rfl) (fun _ _ _ _ h => h)) (pa_cons (pv 4) (pa_cons (pv 5) (pa_cons (pe_slice sl_A (pv 9) (po_some (pv 11)) po_none) pa_nil)))))
  (pss_one (ps_asg (pe_lst (pa_cons (pv 8) pa_nil)) (pg_cut (pv 9) (po_some (pv 11)) po_none))))))
  (pss_one (ps_ret (pe_ix ix_B (pv 9) pe_int (fun _ _ => rfl)))))) ?i3)))), ?first⟩
  case i3 =>
    rintro D σ H1 ⟨rl, rws, o3, o4, o5, o6, o7, o8, o9, o10, o11, rfl, er, hR, sm, ok, hn⟩
    refine ⟨Nat.zero_le _, fun ml hml => ?_⟩
    have sH := of_out sm
    have hlen := hR.length
    have s0 : Same H1 (out ml (upd H1 ml (.lst []))) := same_out hml (same_new hml _)
    refine ⟨_, rfl, rl, rws, rfl, .of (of_out s0 _ _ er), ?_⟩
    refine for_it (n := rws.length) walk_rev (fun i σ H' => (∃ o3 o4 o5 o6 o7 o8 o10 o11 : Option V, σ = [some v, some (.ref g), some (.ref rl), o3, o4, o5, o6, o7, o8, some (.ref ml), o10, o11]) ∧ ∃ (ms : List V) (S : List (Trm × List Kd)), H' ml = some (.lst ms) ∧ PtsOf K CP (out ml H') ms S ∧ Same H1 (out ml H') ∧ ms.length ≤ i ∧ Trm.Good [(t, ks)] ((t.pre ks).reverse.drop i) S)
      ⟨⟨_, _, _, _, _, _, _, _, rfl⟩, [], [], upd_same, .nil, s0, Nat.le_refl _, Trm.good_all t ks⟩ (fun i σ H' _ ⟨_, _, _, _, _, h, _, _⟩ => .of (of_out h _ _ er)) ?_ ?_
    · rintro i x σ H2 H3 hi ⟨⟨o3, o4, o5, o6, o7, o8, o10, o11, rfl⟩, ms, S, em, hP, s2, mi, good⟩ ⟨rfl, hx⟩
      have il : i < (t.pre ks).reverse.length := by rw [List.length_reverse]; omega
      rw [List.drop_eq_getElem_cons il] at good
      obtain ⟨S0, rfl, good⟩ := good
      have en : (t.pre ks)[rws.length - 1 - i]? = some ((t.pre ks).reverse[i]) := by
        rw [hlen, ← List.getElem?_reverse (by omega), List.getElem?_eq_getElem il]
      have hm : (t.pre ks).reverse[i] ∈ t.pre ks := List.mem_reverse.mp (List.getElem_mem il)
      generalize (t.pre ks).reverse[i] = n at good en hm hP
      obtain ⟨n1, n2⟩ := n
      obtain ⟨a, g', v', ex, hT, hd', wf', nb', hG'⟩ := hR.at en
      rw [hx] at ex
      cases ex
      have hT : SqT K H1 a [v', .ref g', .int ((n1.subs n2).length : Nat)] := hT
      have hd' : Dq K H1 v' n1.dat := hd'
      have wf' : n1.wf := wf'
      have nb' : n1.isBad = false := nb'
      have hG' : KsAt K H1 g' n2 := hG'
      obtain ⟨fw', kl', _⟩ := RdX.pre_all t ks (n1, n2) hm
      have kl' : n2.length + sz n1.dat ≤ ks.length + sz t.dat := kl'
      have s12 := of_out s2
      have pl := hP.length
      rw [List.length_append] at pl
      have pl : ms.length = S0.length + (n1.subs n2).length := pl
      obtain ⟨hP0, hP1⟩ := hP.split
      have ei : (((ms.length : Nat) : Int) - ((n1.subs n2).length : Nat)) = ((S0.length : Nat) : Int) := by omega
      have x1 : HT.sIx ms.length 0 (some ((S0.length : Nat) : Int)) = S0.length := by rw [HT.sIx_nat]; omega
      have ecut : cutV ms (some ((S0.length : Nat) : Int)) none = ms.drop S0.length := by
        unfold cutV
        rw [x1]
        show (ms.drop S0.length).take (ms.length - S0.length) = _
        exact List.take_of_length_le (by rw [List.length_drop]; exact Nat.le_refl _)
      refine ⟨a, _, rfl, KB.Same.tup s12 hT, rfl, _, _, rfl, _, _, rfl, _, _, rfl, rfl, ?_⟩
      refine ⟨_, rfl, _, _, rfl, .inl ⟨_, .of em, rfl⟩, _, rfl, _, _, rfl, rfl, ?_⟩
      refine ⟨_, rfl, _, rfl, _, rfl, _, rfl, _, rfl, .inl ⟨ml, ms, rfl, .of em, fun p hp => ?_⟩⟩
      dsimp only
      rw [ei, ecut]
      have s3 := same_new hp (.lst (ms.drop S0.length))
      have npm : p ≠ ml := (ne_of_none em hp).symm
      refine ⟨v', g', p, _, n1, n2, rfl, (hd'.same s12).same s3, wf', nb', fw' few, by omega, (hG'.same s12).same s3, .of upd_same, hP1.same ((out_sub _ _).trans s3), fun h H' s' => q1 (Trm.sub_none t ks (n1, n2) hm h) _ (((sH.trans s12).trans s3).trans s'), fun k hk p2 H4 s4 pa pu => ?_⟩
      have em4 := s4 _ _ (s3 _ _ em)
      refine ⟨_, rfl, (by show 1 ≤ sizeLine; decide), fun b hb => ?_⟩
      have s5 := same_new hb (.lst [.ref p2])
      have em5 := s5 _ _ em4
      have nbm : ml ≠ b := ne_of_none em4 hb
      refine ⟨_, rfl, _, rfl, _, rfl, ml, b, ms, [.ref p2], rfl, rfl, em5, upd_same, nbm, ?_, ?_, ?_⟩
      · rw [x1]
        show S0.length ≤ ms.length
        omega
      · have := RdX.pre_len t ks
        exact fits (by rw [List.length_singleton]; omega)
      · rw [x1]
        show _ ∧ _
        have e0 : ms.take S0.length ++ [V.ref p2] ++ ms.drop (HT.sIx ms.length ms.length none) = ms.take S0.length ++ [.ref p2] := by
          show ms.take S0.length ++ [V.ref p2] ++ ms.drop ms.length = _
          rw [List.drop_length, List.append_nil]
        rw [e0]
        have sM : Same (out ml H3) (out ml (upd (upd H4 b (.lst [.ref p2])) ml (.lst (ms.take S0.length ++ [.ref p2])))) := (out_same ((s3.trans s4).trans s5)).trans (out_set _)
        refine ⟨⟨_, _, _, _, _, _, _, _, rfl⟩, _, S0 ++ [(n1, n2)], upd_same, ?_, s2.trans sM, ?_, good⟩
        · refine (hP0.same sM).append (.cons hk (PartAt.same (H := out ml H4) ?_ ((out_same s5).trans (out_set _))) .nil)
          by_cases eu : n1 = .unit
          · exact pu eu ml _ (s3 _ _ em)
          · obtain ⟨dx, nl, wd, kv, ps, nm, ns, ep, dk, en', pw, hq⟩ := pa
            have n1' : p2 ≠ ml := fun z => by rw [z, em4] at ep; cases ep
            have n2' : nl ≠ ml := fun z => by
              rw [z, em4] at en'
              have ee : ms = ns.map V.int := by injection en' with h; injection h
              cases hns : ns with
              | nil =>
                rw [hns] at ee
                have l0 : ms.length = 0 := by rw [ee]; rfl
                have l1 : (n1.subs n2).length = 0 := by omega
                cases n1 with
                | unit => exact eu rfl
                | bad d => cases nb'
                | giv x =>
                  obtain ⟨j, rfl, _, _⟩ := Trm.giv_some hk
                  have := (hq j).mpr (by simp [Trm.fv])
                  rw [hns] at this
                  cases this
                | fst _ => cases l1
                | snd _ => cases l1
                | mk _ _ => cases l1
                | doo _ _ => cases l1
                | both _ _ => cases l1
              | cons q0 r0 =>
                rw [hns] at ee
                have h0 : ms[0]? = some (V.int q0) := by rw [ee]; rfl
                obtain ⟨p0, e0⟩ := hP.refs h0
                cases e0
            exact ⟨dx, nl, wd, kv, ps, nm, ns, out_at n1' ep, Dq.outp em4 k.pure dk, out_at n2' en', pw, hq⟩
        · rw [List.length_append, List.length_take, List.length_singleton]
          omega
    · rintro σ H2 ⟨⟨o3, o4, o5, o6, o7, o8, o10, o11, rfl⟩, ms, S, em, hP, s2, _, good⟩
      have ed : (t.pre ks).reverse.drop rws.length = [] := List.drop_eq_nil_of_le (by rw [List.length_reverse]; omega)
      rw [ed] at good
      have eS : S = [(t, ks)] := good
      subst eS
      cases hP with
      | cons ej pa b =>
        cases b
        exact ⟨_, rfl, ix0_seq (.inl (.of em)) (hn _ _ (q2 _ ej _ _ (sH.trans (of_out s2)) (pa.same (out_sub _ _))))⟩
  case first =>
    refine ⟨Nat.zero_le _, fun rl hrl => ⟨_, rfl, _, rfl, (by show 2 ≤ sizeLine; decide), fun tp htp => ⟨(by show 1 ≤ sizeLine; decide), fun ll hll => ?_⟩⟩⟩
    have er := same_new htp (.tup [v, .ref g]) _ _ (upd_same (H := H) (a := rl) (o := .lst []))
    have er2 := same_new hll (.lst [.ref tp]) _ _ er
    have et := same_new hll (.lst [.ref tp]) _ _ (upd_same (H := upd H rl (.lst [])) (a := tp) (o := .tup [v, .ref g]))
    have ntr : tp ≠ rl := (ne_of_none upd_same htp).symm
    have ntl : tp ≠ ll := ne_of_none upd_same hll
    have nrl : rl ≠ ll := ne_of_none er hll
    have sV : Same H (vw rl ll (upd (upd (upd H rl (.lst [])) tp (.tup [v, .ref g])) ll (.lst [.ref tp]))) := by
      refine same_out hrl (same_out ?_ ((same_new hrl _).trans ((same_new htp _).trans (same_new hll _))))
      cases e : H ll with
      | none => rfl
      | some o => rw [((same_new hrl (.lst [])).trans (same_new htp (.tup [v, .ref g]))) _ _ e] at hll; cases hll
    have el := upd_same (H := upd (upd H rl (.lst [])) tp (.tup [v, .ref g])) (a := ll) (o := .lst [.ref tp])
    generalize upd (upd (upd H rl (.lst [])) tp (.tup [v, .ref g])) ll (.lst [.ref tp]) = H0 at er2 et el sV ⊢
    refine ⟨fun n σ H' => ∃ (rws sts : List V) (R S : List (Trm × List Kd)) (o4 o5 o6 o7 o8 o9 o10 o11 : Option V), σ = [some v, some (.ref g), some (.ref rl), some (.ref ll), o4, o5, o6, o7, o8, o9, o10, o11] ∧ H' rl = some (.lst rws) ∧ H' ll = some (.lst sts) ∧ RwT K (vw rl ll H') rws R ∧ StT K (vw rl ll H') sts S ∧
      Same H (vw rl ll H') ∧ R ++ RdX.preS S = t.pre ks ∧ t.okT = (S.all fun n => n.1.okT) ∧ n = RdX.stz S ∧ RdX.stz S + R.length ≤ 1000000, ⟨_, [], [.ref tp], [], [(t, ks)], _, _, _, _, _, _, _, _, rfl, er2, el, .nil, .cons (.of (vw_at ntr ntl et)) (hd.same sV) wf (hG.same sV) .nil, sV, by simp [RdX.preS], by simp, rfl, by simp only [RdX.stz, List.length_nil]; omega⟩, ?_⟩
    rintro n σ H1 ⟨rws, sts, R, S, o4, o5, o6, o7, o8, o9, o10, o11, rfl, er, el, hR, hS, sm, epre, eok, rfl, lz⟩
    refine ⟨_, rfl, _, .inl ⟨sts, .of el, rfl⟩, ?_⟩
    have slen := hS.length
    rcases List.eq_nil_or_concat S with hds | ⟨S', e, hds⟩
    · subst hds
      cases hS
      refine iteF' rfl ?_
      refine ⟨rl, rws, _, _, _, _, _, _, _, _, _, rfl, er, hR.same vw_sub |>.cast (by rw [← epre]; simp [RdX.preS]), ?_, eok, fun _ _ h => h⟩
      exact fun b o h => by
        have h1 := out_some (sm b o h)
        exact out_at h1.1 (out_some h1.2).2
    rw [List.concat_eq_append] at hds
    subst hds
    obtain ⟨t1, k1⟩ := e
    obtain ⟨ws, a, v1, g1, rfl, hS', hT, hd1, wf1, hG1⟩ := hS.last
    refine iteT' (by simp) ⟨_, fun _ _ z => z, ?_⟩
    have nn := RdX.mem_preS (S := S' ++ [(t1, k1)]) (List.mem_append_right _ List.mem_cons_self)
    obtain ⟨fw1, kl1, _⟩ := RdX.pre_all t ks (t1, k1) (by rw [← epre]; exact List.mem_append_right _ nn)
    have kl1 : k1.length + sz t1.dat ≤ ks.length + sz t.dat := kl1
    have hd1 : Dq K (vw rl ll H1) v1 t1.dat := hd1
    have wf1 : t1.wf := wf1
    have hG1 : KsAt K (vw rl ll H1) g1 k1 := hG1
    rw [RdX.stz_append] at lz
    have z1 : RdX.stz [(t1, k1)] = sz t1.dat := by simp [RdX.stz]
    rw [z1] at lz
    have wsl := hS'.length
    have rwl := hR.length
    have ls' := RdX.len_stz S'
    -- the last one is taken
    refine ⟨_, rfl, .inl ⟨rfl, _, .of el⟩, ll, ws ++ [.ref a], .ref a, rfl, rfl, el, last_at ws _, ?_⟩
    rw [dl_append]
    have e2 : upd H1 ll (.lst ws) ll = some (.lst ws) := upd_same
    have er2 : upd H1 ll (.lst ws) rl = some (.lst rws) := (upd_ne nrl).trans er
    have s12 : Same (vw rl ll H1) (vw rl ll (upd H1 ll (.lst ws))) := vw_setl _
    generalize upd H1 ll (.lst ws) = H2 at e2 er2 s12 ⊢
    refine ⟨a, _, rfl, KB.Same.tup (s12.trans vw_sub) hT, rfl, _, _, rfl, _, _, rfl, rfl, ?_⟩
    refine ⟨_, rfl, v1, t1.dat, vw rl ll H2, rfl, vw_sub, hd1.same s12, by omega, fun hpc H' s' => q1 ?_ _ (((sm.trans s12).trans vw_sub).trans s'), fun hpc p xs H3 s3 hTp hAp => ?_⟩
    · have hb : t1.isBad = true := by
        cases e : t1.isBad with
        | true => rfl
        | false => rw [RdX.pc_true t1 wf1 e] at hpc; cases hpc
      have ho : t1.okT = false := by cases t1 <;> first | rfl | cases hb
      rw [List.all_append] at eok
      have eok' : t.okT = false := by rw [eok]; simp [ho]
      cases e : t.jd ks with
      | none => rfl
      | some k => rw [Trm.jd_ok t ks k e] at eok'; cases eok'
    have nb : t1.isBad = false := by
      cases t1 <;> first | rfl | exact absurd (hpc.symm.trans wf1) (by decide)
    rw [RdX.parts_subs t1 k1 nb] at hAp
    have xl := hAp.length
    rw [List.length_map] at xl
    have x2 := RdX.subs_two t1 k1
    have s13 : Same (vw rl ll H1) (vw rl ll H3) := s12.trans (vw_same s3)
    have er3 := s3 _ _ er2
    have el3 := s3 _ _ e2
    refine ⟨_, rfl, .inl ⟨rfl, _, .of er3⟩, _, rfl, _, rfl, _, rfl, _, _, rfl, .inr ⟨_, hTp, rfl⟩, (by show 3 ≤ sizeLine; decide), fun tq htq => ?_⟩
    have er4 := same_new htq (.tup [v1, .ref g1, .int (xs.length : Nat)]) _ _ er3
    have el4 := same_new htq (.tup [v1, .ref g1, .int (xs.length : Nat)]) _ _ el3
    have nq1 : tq ≠ rl := (ne_of_none er3 htq).symm
    have nq2 : tq ≠ ll := (ne_of_none el3 htq).symm
    refine ⟨rl, _, .ref tq, rfl, rfl, er4, fits_lt (by omega), ?_⟩
    have s35 : Same (vw rl ll H3) (vw rl ll (upd (upd H3 tq (.tup [v1, .ref g1, .int (xs.length : Nat)])) rl (.lst (rws ++ [.ref tq])))) := (vw_same (same_new htq _)).trans (vw_setr _)
    have er5 : upd (upd H3 tq (.tup [v1, .ref g1, .int (xs.length : Nat)])) rl (.lst (rws ++ [.ref tq])) rl = some (.lst (rws ++ [.ref tq])) := upd_same
    have el5 : upd (upd H3 tq (.tup [v1, .ref g1, .int (xs.length : Nat)])) rl (.lst (rws ++ [.ref tq])) ll = some (.lst ws) := (upd_ne nrl.symm).trans el4
    have eq5 : upd (upd H3 tq (.tup [v1, .ref g1, .int (xs.length : Nat)])) rl (.lst (rws ++ [.ref tq])) tq = some (.tup [v1, .ref g1, .int (xs.length : Nat)]) := (upd_ne nq1).trans upd_same
    have hTp5 : SqT K (upd (upd H3 tq (.tup [v1, .ref g1, .int (xs.length : Nat)])) rl (.lst (rws ++ [.ref tq]))) p xs := KB.Same.tup ((out_set _).trans (out_sub _ _)) (SqT.outp er4 (KB.Same.tup (same_new htq _) hTp))
    generalize upd (upd H3 tq (.tup [v1, .ref g1, .int (xs.length : Nat)])) rl (.lst (rws ++ [.ref tq])) = H5 at s35 er5 el5 eq5 hTp5 ⊢
    have s15 := s13.trans s35
    refine inner_q rfl rfl er5 el5 (hd1.same s15) wf1 nb (hG1.same s15) (by omega) fun gi kz H6 s6 hGi hkz => ?_
    have s16 := s15.trans (vw_same s6)
    have er6 := s6 _ _ er5
    have el6 := s6 _ _ el5
    have eq6 := s6 _ _ eq5
    have hTp6 := KB.Same.tup s6 hTp5
    have dR : RwT K (vw rl ll H6) (rws ++ [.ref tq]) (R ++ [(t1, k1)]) := (hR.same s16).append (.cons (.of (vw_at nq1 nq2 (by rw [← xl]; exact eq6))) (hd1.same s16) wf1 nb (hG1.same s16) .nil)
    have dAp : DqAll K (vw rl ll H6) xs ((t1.subs k1).map fun n => n.1.dat) := hAp.same (((vw_same s3).trans s35).trans (vw_same s6))
    refine ⟨_, rfl, .inl ⟨rfl, _, .of el6⟩, _, rfl, p, rfl, ⟨_, hTp6⟩, fun D hD => ?_⟩
    have nDr : D ≠ rl := (ne_of_none er6 hD).symm
    have nDl : D ≠ ll := (ne_of_none el6 hD).symm
    refine lc_tup (K := K) (a := p) (xs := xs) (fun j H' => ∃ acc, H' D = some (.lst acc) ∧ StT K (out D (vw rl ll H')) acc ((t1.subs k1).take j) ∧ Same H6 (out D H')) ⟨[], upd_same, .nil, same_out hD (same_new hD _)⟩ (fun j H' _ ⟨_, _, _, h⟩ => KB.Same.tup (of_out h) hTp6) ?_ ?_
    · rintro j x H' hx ⟨acc, eD, hacc, smD⟩
      have jl : j < (t1.subs k1).length := by
        rw [← xl]
        exact (List.getElem?_eq_some_iff.mp hx).1
      obtain ⟨d0, e0, dx⟩ := dAp.get hx
      rw [List.getElem?_map, List.getElem?_eq_getElem jl] at e0
      cases e0
      have wfs := subs_wf wf1 nb k1 (t1.subs k1)[j] (List.getElem_mem jl)
      have ez := hkz (t1.subs k1)[j] (List.getElem_mem jl)
      have al := hacc.length
      rw [List.length_take] at al
      refine ⟨rfl, _, rfl, _, rfl, (by show 2 ≤ sizeLine; decide), fun tz htz => ⟨acc, same_new htz _ _ _ eD, fits_lt (by omega), acc ++ [.ref tz], upd_same, ?_, ?_⟩⟩
      · have sN := same_new htz (.tup [x, .ref gi])
        have nz : tz ≠ D := (ne_of_none eD htz).symm
        have nz1 : tz ≠ rl := (ne_of_none (of_out smD _ _ er6) htz).symm
        have nz2 : tz ≠ ll := (ne_of_none (of_out smD _ _ el6) htz).symm
        have sT : Same (out D (vw rl ll H')) (out D (vw rl ll (upd (upd H' tz (.tup [x, .ref gi])) D (.lst (acc ++ [.ref tz]))))) := by
          refine (out_same (vw_same sN)).trans fun b o h => ?_
          have h1 := out_some h
          have h2 := out_some h1.2
          have h3 := out_some h2.2
          exact out_at h1.1 (out_at h2.1 (out_at h3.1 ((upd_ne h1.1).trans h3.2)))
        have s6T : Same (vw rl ll H6) (out D (vw rl ll (upd (upd H' tz (.tup [x, .ref gi])) D (.lst (acc ++ [.ref tz]))))) := by
          refine Same.trans (fun b o h => ?_) sT
          have h1 := out_some h
          have h2 := out_some h1.2
          have h3 := out_some (smD b o h2.2)
          exact out_at h3.1 (out_at h1.1 (out_at h2.1 h3.2))
        rw [List.take_succ, List.getElem?_eq_getElem jl]
        refine (hacc.same sT).append ?_
        have eT : out D (vw rl ll (upd (upd H' tz (.tup [x, .ref gi])) D (.lst (acc ++ [.ref tz])))) tz = some (.tup [x, .ref gi]) := out_at nz (vw_at nz1 nz2 ((upd_ne nz).trans upd_same))
        have hGz : KsAt K (vw rl ll H6) gi ((t1.subs k1)[j]).2 := by rw [ez]; exact hGi
        exact .cons (.of eT) (dx.same s6T) wfs (hGz.same s6T) .nil
      · exact smD.trans ((out_same (same_new htz _)).trans (out_set _))
    · rintro H7 ⟨acc, eD, hacc, smD⟩
      rw [xl, List.take_length] at hacc
      have s67 := of_out smD
      have er7 := s67 _ _ er6
      have el7 := s67 _ _ el6
      have al := hacc.length
      refine ⟨ll, D, ws, acc, rfl, rfl, el7, eD, fits (by omega), ?_⟩
      have sV : Same (vw rl ll H7) (vw rl ll (upd H7 ll (.lst (ws ++ acc)))) := vw_setl _
      have s17 : Same (vw rl ll H1) (vw rl ll (upd H7 ll (.lst (ws ++ acc)))) := (s16.trans (vw_same s67)).trans sV
      have dz := RdX.subs_stz t1 k1
      refine ⟨RdX.stz (S' ++ t1.subs k1), by rw [RdX.stz_append, RdX.stz_append, z1]; omega, rws ++ [.ref tq], ws ++ acc, R ++ [(t1, k1)], S' ++ t1.subs k1, _, _, _, _, _, _, _, _, rfl, (upd_ne nrl).trans er7, upd_same, (dR.same (vw_same s67)).same sV, (hS'.same s17).append ((hacc.same (out_sub _ _)).same sV), sm.trans s17, ?_, ?_, rfl, ?_⟩
      · rw [List.append_assoc, List.singleton_append, ← RdX.preS_push]; exact epre
      · rw [eok, List.all_append, List.all_append, ← RdX.subs_ok t1 k1 nb]; simp
      · rw [RdX.stz_append, List.length_append, List.length_singleton]; omega
end

/-! ## the kind of a term by what is given -/
/-- whether data are a list of kinds -/
def isKs : PyData → Bool
  | .list ds => ds.all isKd
  | _ => false
def spNks (K : PySem.W.Frag) (CN : Addr) : Sp := fun vs H Q E => ∃ v d, vs = [v] ∧ Dq K H v d ∧ sz d ≤ 1000000 ∧ (isKs d = true → ∀ H', Same H H' → Q .non H') ∧ (isKs d = false → ∀ H', Same H H' → E (.ref CN) none H')
/-- what is asked of data that are given, and of data as a term -/
def spTk (K : PySem.W.Frag) (CN CE : Addr) : Sp := fun vs H Q E => ∃ v u d e, vs = [v, u] ∧ Dq K H v d ∧ Dq K H u e ∧ sz d ≤ 1000000 ∧ sz e ≤ 1000000 ∧ (isKs e = false → ∀ H', Same H H' → E (.ref CN) none H') ∧
  ∀ (ks : List Kd), e = .list (ks.map Kd.dat) → (∀ k ∈ ks, k.ok) → ∃ t : Trm, t.dat = d ∧ t.wf ∧ t.Few ks ∧ (∃ g, u = .ref g ∧ KsAt K H g ks) ∧ (t.jd ks = none → ∀ H', Same H H' → E (.ref CE) none H') ∧ ∀ k, t.jd ks = some k → ∀ kv H', Same H H' → Dq K H' kv k.dat → Q kv H'
theorem kds_of : ∀ ds : List PyData, ds.all isKd = true → ∃ ks : List Kd, ds = ks.map Kd.dat ∧ ∀ k ∈ ks, k.ok
  | [], _ => ⟨[], rfl, fun k h => by cases h⟩
  | d :: r, h => by
    rw [List.all_cons, Bool.and_eq_true] at h
    obtain ⟨k, ok, rfl⟩ := kd_of d h.1
    obtain ⟨ks, rfl, oks⟩ := kds_of r h.2
    exact ⟨k :: ks, rfl, fun x hx => by
      rcases List.mem_cons.mp hx with rfl | hx
      · exact ok
      · exact oks x hx⟩
theorem sz_mem : ∀ {ds : List PyData} {i : Nat} {d : PyData}, ds[i]? = some d → sz d ≤ szs ds
  | [], i, d, h => by cases h
  | x :: r, 0, d, h => by cases h; simp only [szs]; omega
  | x :: r, i + 1, d, h => by have := sz_mem (ds := r) (i := i) h; simp only [szs]; omega
abbrev s_need_kinds : Stmt := top 23
theorem sc_need_kinds : FnScope ["thing", "kind"] ["thing"] (defScope s_need_kinds) := ⟨rfl, rfl, rfl, by decide +kernel, rfl, by decide +kernel, by decide +kernel⟩
abbrev s_term_kind : Stmt := top 22
theorem sc_term_kind : FnScope ["term", "given"] ["term", "given"] (defScope s_term_kind) := ⟨rfl, rfl, rfl, by decide +kernel, rfl, by decide +kernel, by decide +kernel⟩
section
variable {P : Program} {w : World} {K : PySem.W.Frag} {mg : Str → Option Value} {base : Heap} {CN CT CP CE : Addr}
theorem ok_nks (A : At K mg "need_kinds" s_need_kinds) (T : Txt K mg w CN CT) (C_need_kind : Cal P w K mg base (L2.CX P w) 4 "need_kind" ["thing"] (spNeed K CN)) : Cal P w K mg base (L2.CX P w) 5 "need_kinds" ["thing"] (spNks K CN) := by
  obtain ⟨f, fd, F, m⟩ := A
  refine ⟨f, fd, F.okX sc_need_kinds (fun vs H Q E h => ?_) (fun cdv A outer s H vs Q E hr h => ?_), F.binds (ps := ["thing"]) (fun _ _ _ _ _ _ us hl => match us, hl with | [_], _ => rfl), F.kp, m⟩
  · obtain ⟨v, d, rfl, _⟩ := h; rfl
  obtain ⟨v, d, rfl, hd, hz, q1, q2⟩ := h
  refine ⟨_, (pss_cons (ps_if (pt_cmpR op_notTyB (pe_callTy call_type1 (by rfl) T.z_type (by decide +kernel) (pa_cons (pv 0) pa_nil)) (pe_bltn (v := .ty "list") (by rfl) T.z_list (by decide +kernel) rfl) (nomark _))
   (pss_one (ps_raiseO rfl (takes_of rfl rfl rfl rfl) T.e_NoKind))
   pss_nil)
  (pss_one (ps_for (passes_of rfl) rfl (pi_list (pv 0)) (pg_name (i := 1) sc_need_kinds.nd rfl (by first | exact Or.inl rfl | exact Or.inr rfl))
   (pss_one (ps_expr (pe_calC C_need_kind (hr.mono (by first | decide | omega)) (passes_call (takes_of rfl rfl rfl rfl) (fun _ _ _ _ h => h)) (pa_cons (pv 1) pa_nil))))))), ?_⟩
  refine ⟨_, rfl, _, _, rfl, hd.ty, _, _, rfl, rfl, _, rfl, ?_⟩
  by_cases ht : tyN d = "list"
  · rw [ht]
    refine iteF ?_
    cases hd <;> simp [tyN] at ht
    rename_i a xs ds hs ha
    have hlen := ha.length
    have isk : ∀ {i : Nat} {d : PyData}, ds[i]? = some d → isKd d = false → isKs (.list ds) = false := fun {i d} e h => by
      cases c : isKs (.list ds) with
      | false => rfl
      | true =>
        have h2 : ds.all isKd = true := c
        have h3 := List.all_eq_true.mp h2 d (List.mem_of_getElem? e)
        rw [h] at h3; cases h3
    refine ⟨_, rfl, a, rfl, ⟨_, hs⟩, ?_⟩
    refine for_list (K := K) (a := a) (xs := xs) (fun i σ H' => (∃ o : Option V, σ = [some (.ref a), o]) ∧ Same H H' ∧ ∀ j d, j < i → ds[j]? = some d → isKd d = true) ⟨⟨_, rfl⟩, Same.refl _, fun j d h => by omega⟩ (fun i σ H' _ h => L2.Same.seq h.2.1 hs) ?_ ?_
    · rintro i x σ H2 hx ⟨⟨o, rfl⟩, s2, hall⟩
      obtain ⟨dx, ex, dd⟩ := ha.get hx
      have zx : sz dx ≤ 1000000 := by
        have := sz_mem ex
        simp only [sz] at hz
        omega
      refine ⟨_, rfl, x, dx, rfl, dd.same s2, zx, fun hk H3 s3 => ⟨⟨_, rfl⟩, s2.trans s3, fun j d lt e => ?_⟩, fun hk H3 s3 => q2 (isk ex hk) _ (s2.trans s3)⟩
      by_cases c : j = i
      · subst c
        rw [ex] at e
        cases e
        exact hk
      · exact hall j d (by omega) e
    · rintro σ H2 ⟨⟨o, rfl⟩, s2, hall⟩
      refine q1 ?_ _ s2
      show ds.all isKd = true
      refine List.all_eq_true.mpr fun d hd => ?_
      obtain ⟨j, lt, rfl⟩ := List.getElem_of_mem hd
      exact hall j _ (by omega) (List.getElem?_eq_getElem lt)
  · refine iteT' (by simp [ht]) (q2 ?_ _ (Same.refl _))
    cases d <;> first | rfl | (simp [tyN] at ht)
theorem ok_tk (A : At K mg "term_kind" s_term_kind) (T : TxT K mg w CP CE) (C_need_kinds : Cal P w K mg base (L2.CX P w) 5 "need_kinds" ["thing"] (spNks K CN)) (C_read_term : Cal P w K mg base (L2.CX P w) 5 "read_term" ["thing", "given"] (spRead K CP CE)) : Cal P w K mg base (L2.CX P w) 6 "term_kind" ["term", "given"] (spTk K CN CE) := by
  obtain ⟨f, fd, F, m⟩ := A
  refine ⟨f, fd, F.okX sc_term_kind (fun vs H Q E h => ?_) (fun cdv A outer s H vs Q E hr h => ?_), F.binds (ps := ["term", "given"]) (fun _ _ _ _ _ _ us hl => match us, hl with | [_, _], _ => rfl), F.kp, m⟩
  · obtain ⟨v, u, d, e, rfl, _⟩ := h; rfl
  obtain ⟨v, u, d, e, rfl, hd, he, zd, ze, q1, q2⟩ := h
  refine ⟨_, (pss_cons (ps_expr (pe_calC C_need_kinds (hr.mono (by first | decide | omega)) (passes_call (takes_of rfl rfl rfl rfl) (fun _ _ _ _ h => h)) (pa_cons (pv 1) pa_nil)))
  (pss_one (ps_ret (pe_fld (pe_calC C_read_term (hr.mono (by first | decide | omega)) (passes_call (takes_of rfl rfl rfl rfl) (fun _ _ _ _ h => h)) (pa_cons (pv 0) (pa_cons (pv 1) pa_nil))) rfl)))), ?_⟩
  refine ⟨_, rfl, u, e, rfl, he, ze, fun hk H1 s1 => ?_, q1⟩
  cases e <;> try cases hk
  rename_i ds
  obtain ⟨ks, rfl, ok⟩ := kds_of ds hk
  obtain ⟨t, rfl, wf, few, ⟨g, rfl, hG⟩, r1, r2⟩ := q2 ks rfl ok
  have lk : ks.length ≤ 1000000 := by
    have := len_szs (ks.map Kd.dat)
    simp only [sz] at ze
    rw [List.length_map] at this
    omega
  refine ⟨_, rfl, _, rfl, v, g, t, ks, rfl, hd.same s1, wf, few, zd, lk, hG.same s1, fun h H' s' => r1 h _ (s1.trans s'), fun k hk p H' s' pa => ?_⟩
  obtain ⟨dx, nl, wd, kv, ps, nm, ns, ep, dk, en, pw, hq⟩ := pa
  exact ⟨p, CP, dx, _, kv, rfl, ep, T.cls, T.no_kind, ptF_kind, r2 k hk kv H' (s1.trans s') dk⟩
end

/-! ## draws -/
def Well (H : Hp) (w : Addr) : Prop := ∃ x y z : Int, H w = some (.lst [.int x, .int y, .int z])
/-- what a draw leaves: all but the well, and the well one -/
structure Aft (w : Addr) (H H' : Hp) : Prop where
  well : Well H' w
  but : Same (out w H) (out w H')
theorem Aft.refl {w : Addr} {H : Hp} (h : Well H w) : Aft w H H := ⟨h, Same.refl _⟩
theorem Aft.trans {w : Addr} {H H1 H2 : Hp} (a : Aft w H H1) (b : Aft w H1 H2) : Aft w H H2 := ⟨b.well, a.but.trans b.but⟩
theorem Well.new {w p : Addr} {H : Hp} (h : Well H w) (n : H p = none) (o : HO) : Well (upd H p o) w := by
  obtain ⟨x, y, z, e⟩ := h
  exact ⟨x, y, z, by rw [upd_ne (ne_of_none e n)]; exact e⟩
theorem Aft.new {w p : Addr} {H H' : Hp} (a : Aft w H H') (n : H' p = none) (o : HO) : Aft w H (upd H' p o) := ⟨a.well.new n o, a.but.trans (out_new n o)⟩
theorem Aft.at_ {w p : Addr} {H H' : Hp} {o : HO} (a : Aft w H H') (n : p ≠ w) (h : H p = some o) : H' p = some o := (out_some (a.but p o (out_at n h))).2
theorem Well.ne {w p : Addr} {H : Hp} (h : Well H w) (n : H p = none) : p ≠ w := by
  obtain ⟨x, y, z, e⟩ := h
  exact (ne_of_none e n).symm
theorem Well.laid {w p : Addr} {H : Hp} (h : Well H w) (n : H p = none) (o : HO) : out w (upd H p o) p = some o := out_at (h.ne n) upd_same
def spWell : Sp := fun vs H Q _ => ∃ (c : Int), vs = [.int c] ∧ ∀ (p : Addr) (x y z : Int), H p = none → Q (.ref p) (upd H p (.lst [.int x, .int y, .int z]))
def spDraw : Sp := fun vs H Q _ => ∃ (w : Addr) (n : Int), vs = [.ref w, .int n] ∧ Well H w ∧ 0 < n ∧ n < 1073741824 ∧ ∀ (d : Int) (H' : Hp), 0 ≤ d → d < n → Aft w H H' → Q (.int d) H'
abbrev s_law_well : Stmt := top 25
theorem sc_law_well : FnScope ["cell"] ["cell"] (defScope s_law_well) := ⟨rfl, rfl, rfl, by decide +kernel, rfl, by decide +kernel, by decide +kernel⟩
abbrev s_law_draw : Stmt := top 26
theorem sc_law_draw : FnScope ["well", "width", "digit_told", "low"] ["well", "width"] (defScope s_law_draw) := ⟨rfl, rfl, rfl, by decide +kernel, rfl, by decide +kernel, by decide +kernel⟩
section
variable {P : Program} {w : World} {K : PySem.W.Frag} {mg : Str → Option Value} {base : Heap} {CN CT : Addr}
theorem ok_well (A : At K mg "_law_well" s_law_well) (T : Txt K mg w CN CT) : Cal P w K mg base CX0 1 "_law_well" ["cell"] spWell := by
  obtain ⟨f, fd, F, m⟩ := A
  refine ⟨f, fd, F.ok sc_law_well (fun vs H Q E h => ?_) (fun cdv A outer s H vs Q E hr h => ?_), F.binds (ps := ["cell"]) (fun _ _ _ _ _ _ us hl => match us, hl with | [_], _ => rfl), F.kp, m⟩
  · obtain ⟨c, rfl, _⟩ := h; rfl
  obtain ⟨c, rfl, q⟩ := h
  refine ⟨_, (pss_one (ps_ret (pe_lst (pa_cons (pe_op op_mulA (pv 0) (pe_callTy call_int1 (by rfl) T.z_int (by decide +kernel) (pa_cons (pe_cmpR op_ge (pv 0) (pe_op op_pow pe_int pe_int) (nomark _)) pa_nil))) (pa_cons (pv 0) (pa_cons pe_int pa_nil)))))), ?_⟩
  refine ⟨_, rfl, _, rfl, _, _, rfl, rfl, ⟨by decide, by decide, by decide⟩, _, _, rfl, rfl, .inr ⟨_, rfl, .inl ⟨_, _, rfl, rfl, .inr ?_, ?_⟩⟩⟩
  · split <;> decide
  · exact ⟨_, rfl, (by show 3 ≤ sizeLine; decide), fun p hp => q p _ _ _ hp⟩
theorem Well.ix0 {K : PySem.W.Frag} {w : Addr} {H : Hp} {W : World} {Q : VK} {x y z : Int} (e : H w = some (.lst [.int x, .int y, .int z])) (q : Q (.int x) H) : rIxB K W (.ref w) (.int 0) H Q := .inl (.inl ⟨w, _, 0, _, rfl, rfl, .of e, rfl, q⟩)
theorem Well.ix1 {K : PySem.W.Frag} {w : Addr} {H : Hp} {W : World} {Q : VK} {x y z : Int} (e : H w = some (.lst [.int x, .int y, .int z])) (q : Q (.int y) H) : rIxB K W (.ref w) (.int 1) H Q := .inl (.inl ⟨w, _, 1, _, rfl, rfl, .of e, rfl, q⟩)
theorem Well.ix2 {K : PySem.W.Frag} {w : Addr} {H : Hp} {W : World} {Q : VK} {x y z : Int} (e : H w = some (.lst [.int x, .int y, .int z])) (q : Q (.int z) H) : rIxB K W (.ref w) (.int 2) H Q := .inl (.inl ⟨w, _, 2, _, rfl, rfl, .of e, rfl, q⟩)
theorem ok_draw (A : At K mg "_law_draw" s_law_draw) (T : Txt K mg w CN CT) : Cal P w K mg base CX0 1 "_law_draw" ["well", "width"] spDraw := by
  obtain ⟨f, fd, F, m⟩ := A
  refine ⟨f, fd, F.ok sc_law_draw (fun vs H Q E h => ?_) (fun cdv A outer s H vs Q E hr h => ?_), F.binds (ps := ["well", "width"]) (fun _ _ _ _ _ _ us hl => match us, hl with | [_, _], _ => rfl), F.kp, m⟩
  · obtain ⟨w, n, rfl, _⟩ := h; rfl
  obtain ⟨wl, n, rfl, ⟨x, y, z, e⟩, n0, n1, q⟩ := h
  refine ⟨_, (pss_cons (ps_if (pt_cmpR op_gt (pe_ix ix_B (pv 0) pe_int (fun _ _ => rfl)) pe_int (nomark _))
   (pss_cons (ps_set (i := 2) sc_law_draw.nd rfl (by first | exact Or.inl rfl | exact Or.inr rfl) (pe_op op_mod (pe_ix ix_B (pv 0) pe_int (fun _ _ => rfl)) (pv 1)))
  (pss_cons (ps_asg (pe_op op_fdiv (pe_ix ix_B (pv 0) pe_int (fun _ _ => rfl)) (pv 1)) (pg_sub (pv 0) pe_int set_list))
  (pss_one (ps_ret (pv 2)))))
   pss_nil)
  (pss_cons (ps_asg (pe_op op_addA (pe_ix ix_B (pv 0) pe_int (fun _ _ => rfl)) pe_int) (pg_sub (pv 0) pe_int set_list))
  (pss_cons (ps_set (i := 3) sc_law_draw.nd rfl (by first | exact Or.inl rfl | exact Or.inr rfl) (pe_op op_addA (pe_op op_mod (pe_ix ix_B (pv 0) pe_int (fun _ _ => rfl)) pe_int) (pe_op op_mulA (pe_op op_fdivW (pe_ix ix_B (pv 0) pe_int (fun _ _ => rfl)) pe_int) pe_int)))
  (pss_cons (ps_set (i := 3) sc_law_draw.nd rfl (by first | exact Or.inl rfl | exact Or.inr rfl) (pe_op op_mod (pe_op op_mulA (pe_op op_addA (pe_op op_addA (pv 3) (pe_op op_mulA pe_int (pe_ix ix_B (pv 0) pe_int (fun _ _ => rfl)))) pe_int) pe_int) pe_int))
  (pss_cons (ps_set (i := 3) sc_law_draw.nd rfl (by first | exact Or.inl rfl | exact Or.inr rfl) (pe_op op_mod (pe_op op_mulA (pv 3) (pe_op op_addA (pe_op op_addA (pe_op op_fdiv (pv 3) pe_int) pe_int) (pe_ix ix_B (pv 0) pe_int (fun _ _ => rfl)))) pe_int))
  (pss_one (ps_ret (pe_op op_mod (pe_op op_mod (pe_op op_mulA (pv 3) (pe_op op_addA (pe_op op_fdiv (pv 3) pe_int) pe_int)) pe_int) (pv 1))))))))), ?_⟩
  refine ⟨_, rfl, Well.ix0 e ⟨_, _, rfl, rfl, _, rfl, ?_⟩⟩
  refine ite2 (fun c => ?_) (fun c => ?_)
  · refine ⟨_, rfl, Well.ix0 e ⟨_, rfl, _, _, rfl, rfl, n0, ?_⟩⟩
    refine ⟨_, rfl, Well.ix0 e ⟨_, rfl, _, _, rfl, rfl, ⟨n0, n1⟩, _, rfl, wl, _, 0, 0, rfl, rfl, e, rfl, ?_⟩⟩
    refine ⟨_, rfl, q _ _ (Int.emod_nonneg _ (by omega)) (Int.emod_lt_of_pos _ n0) ⟨⟨_, _, _, upd_same⟩, out_set _⟩⟩
  · refine ⟨_, rfl, Well.ix2 e (.inl ⟨_, _, rfl, rfl, _, rfl, wl, _, 2, 2, rfl, rfl, e, rfl, ?_⟩)⟩
    have e1 : upd H wl (.lst ([V.int x, V.int y, V.int z].set 2 (.int (z + 1)))) wl = some (.lst [.int x, .int y, .int (z + 1)]) := upd_same
    refine ⟨_, rfl, Well.ix1 e1 ⟨_, _, rfl, rfl, (by show (0 : Int) < 2147483629; decide), _, rfl, Well.ix1 e1 ⟨_, _, rfl, rfl, wide_div (b := 40) (by decide) (by decide) (by decide) (by decide), .inl ⟨_, _, rfl, rfl, .inr (by decide), .inl ⟨_, _, rfl, rfl, ?_⟩⟩⟩⟩⟩
    refine ⟨_, rfl, _, rfl, Well.ix2 e1 (.inl ⟨_, _, rfl, rfl, .inl (by decide), .inl ⟨_, _, rfl, rfl, .inl ⟨_, _, rfl, rfl, .inl ⟨_, _, rfl, rfl, .inr (by decide), _, _, rfl, rfl, (by show (0 : Int) < 2147483647; decide), ?_⟩⟩⟩⟩)⟩
    generalize hM : ((y % 2147483629 + y / 2147483629 * 30013 + 69623 * (z + 1) + 1) * 48271) % 2147483647 = M
    have m0 : 0 ≤ M := by rw [← hM]; exact Int.emod_nonneg _ (by decide)
    have m1 : M < 2147483647 := by rw [← hM]; exact Int.emod_lt_of_pos _ (by decide)
    refine ⟨_, rfl, _, rfl, _, _, rfl, rfl, ⟨by decide, by decide⟩, .inl ⟨_, _, rfl, rfl, _, rfl, Well.ix2 e1 (.inl ⟨_, _, rfl, rfl, .inl ⟨_, _, rfl, rfl, .inl ⟨by omega, by omega⟩, _, _, rfl, rfl, (by show (0 : Int) < 2147483629; decide), ?_⟩⟩)⟩⟩
    generalize hN : M * (M / 1013 + 69621 + (z + 1)) % 2147483629 = N
    have k0 : 0 ≤ N := by rw [← hN]; exact Int.emod_nonneg _ (by decide)
    have k1 : N < 2147483629 := by rw [← hN]; exact Int.emod_lt_of_pos _ (by decide)
    refine ⟨_, rfl, _, rfl, _, _, rfl, rfl, ⟨by decide, by decide⟩, .inl ⟨_, _, rfl, rfl, .inl ⟨_, _, rfl, rfl, .inl ⟨by omega, by omega⟩, _, _, rfl, rfl, (by show (0 : Int) < 2147483399; decide), _, rfl, _, _, rfl, rfl, n0, ?_⟩⟩⟩
    exact q _ _ (Int.emod_nonneg _ (by omega)) (Int.emod_lt_of_pos _ n0) ⟨⟨_, _, _, e1⟩, out_set _⟩
end

/-! ## a drawn kind -/
def spKind51 (K : PySem.W.Frag) (N : Nat) : Sp := fun vs H Q _ => ∃ (w : Addr) (n : Nat), vs = [.ref w, .int (n : Nat)] ∧ Well H w ∧ n < N ∧ ∀ (k : Kd) (v : V) (H' : Hp), k.ok → k.deep ≤ n + 1 → Dq K (out w H') v k.dat → Aft w H H' → Q v H'
abbrev s_law_kind : Stmt := top 27
theorem sc_law_kind : FnScope ["well", "deep", "way"] ["well", "deep"] (defScope s_law_kind) := ⟨rfl, rfl, rfl, by decide +kernel, rfl, by decide +kernel, by decide +kernel⟩
section
variable {P : Program} {w : World} {K : PySem.W.Frag} {mg : Str → Option Value} {base : Heap} {CN CT : Addr}
theorem base_at {K : PySem.W.Frag} {H : Hp} {p : Addr} {d : Int} (h : H p = some (.tup [.str "base", .int d])) (d0 : 0 ≤ d) : Dq K H (.ref p) (Kd.b d.toNat).dat := by
  have e : ((d.toNat : Nat) : Int) = d := by omega
  refine .tup (.of h) (.cons (.str _) (.cons ?_ .nil))
  show Dq K H (.int d) (.int (d.toNat : Nat))
  rw [e]; exact .int _
theorem unit_at {K : PySem.W.Frag} {H : Hp} {p : Addr} (h : H p = some (.tup [.str "unit"])) : Dq K H (.ref p) Kd.u.dat := .tup (.of h) (.cons (.str _) .nil)
theorem ok_kind1 {N : Nat} (A : At K mg "_law_kind" s_law_kind) (T : Txt K mg w CN CT) (C_law_draw : Cal P w K mg base CX0 1 "_law_draw" ["well", "width"] spDraw) (C_law_kind : Cal P w K mg base CX0 (N + 1) "_law_kind" ["well", "deep"] (spKind51 K N)) : Cal P w K mg base CX0 (N + 2) "_law_kind" ["well", "deep"] (spKind51 K (N + 1)) := by
  obtain ⟨f, fd, F, m⟩ := A
  refine ⟨f, fd, F.ok sc_law_kind (fun vs H Q E h => ?_) (fun cdv A outer s H vs Q E hr h => ?_), F.binds (ps := ["well", "deep"]) (fun _ _ _ _ _ _ us hl => match us, hl with | [_, _], _ => rfl), F.kp, m⟩
  · obtain ⟨w, n, rfl, _⟩ := h; rfl
  obtain ⟨wl, n, rfl, hw, hN, q⟩ := h
  refine ⟨_, (pss_cons (ps_set (i := 2) sc_law_kind.nd rfl (by first | exact Or.inl rfl | exact Or.inr rfl) (pe_calC C_law_draw (hr.mono (by first | decide | omega)) pass0 (pa_cons (pv 0) (pa_cons pe_int pa_nil))))
  (pss_cons (ps_if (PW.pt (pw_or (pt_cmpR (op_eqA (room200 hr)) (pv 1) pe_int (nomark _)) (pw_or1 (pt_cmpR op_lt (pv 2) pe_int (nomark _)))))
   (pss_one (ps_ret (pe_tup (pa_cons pe_str (pa_cons (pe_calC C_law_draw (hr.mono (by first | decide | omega)) pass0 (pa_cons (pv 0) (pa_cons (pe_ix ix_B (pe_lst (pa_cons pe_int (pa_cons pe_int (pa_cons pe_int pa_nil)))) (pe_calC C_law_draw (hr.mono (by first | decide | omega)) pass0 (pa_cons (pv 0) (pa_cons pe_int pa_nil))) (fun _ _ => rfl)) pa_nil))) pa_nil)))))
   pss_nil)
  (pss_cons (ps_if (pt_cmpR (op_eqA (room200 hr)) (pv 2) pe_int (nomark _))
   (pss_one (ps_ret (pe_tup (pa_cons pe_str pa_nil))))
   pss_nil)
  (pss_cons (ps_if (pt_cmpR op_lt (pv 2) pe_int (nomark _))
   (pss_one (ps_ret (pe_tup (pa_cons pe_str (pa_cons (pe_calC C_law_kind (hr.mono (by first | decide | omega)) pass0 (pa_cons (pv 0) (pa_cons (pe_op op_sub (pv 1) pe_int) pa_nil))) (pa_cons (pe_calC C_law_kind (hr.mono (by first | decide | omega)) pass0 (pa_cons (pv 0) (pa_cons (pe_op op_sub (pv 1) pe_int) pa_nil))) pa_nil))))))
   pss_nil)
  (pss_one (ps_ret (pe_tup (pa_cons pe_str (pa_cons (pe_calC C_law_kind (hr.mono (by first | decide | omega)) pass0 (pa_cons (pv 0) (pa_cons (pe_op op_sub (pv 1) pe_int) pa_nil))) (pa_cons (pe_calC C_law_kind (hr.mono (by first | decide | omega)) pass0 (pa_cons (pv 0) (pa_cons (pe_op op_sub (pv 1) pe_int) pa_nil))) pa_nil)))))))))), ?_⟩
  refine ⟨_, rfl, wl, 7, rfl, hw, by decide, by decide, fun d0 H0 d00 d01 a0 => ?_⟩
  refine ⟨_, rfl, .inl ⟨rfl, _, rfl, ?_⟩⟩
  by_cases c : n = 0 ∨ d0 < 2
  · by_cases c0 : n = 0
    refine iteT' (by simp [c0]) (iteT' rfl ?_)
    rotate_left
    refine iteF' (by simpa using c0) ⟨_, rfl, _, _, rfl, rfl, _, rfl, iteT' (by simp; omega) ?_⟩
    all_goals
      refine ⟨_, rfl, (by show 3 ≤ sizeLine; decide), fun l hl => ?_⟩
      have a1 := a0.new hl (.lst [.int 3, .int 3, .int 8])
      have nl := a0.well.ne hl
      refine ⟨_, rfl, wl, 3, rfl, a1.well, by decide, by decide, fun d1 H1 d10 d11 a2 => ?_⟩
      have el := a2.at_ nl (upd_same (H := H0) (a := l) (o := .lst [.int 3, .int 3, .int 8]))
      obtain ⟨z, ez, z0, z8⟩ : ∃ z : Int, atI [V.int 3, V.int 3, V.int 8] d1 = some (.int z) ∧ 0 < z ∧ z ≤ 8 := by
        have h : d1 = 0 ∨ d1 = 1 ∨ d1 = 2 := by omega
        rcases h with rfl | rfl | rfl
        · exact ⟨3, rfl, by decide, by decide⟩
        · exact ⟨3, rfl, by decide, by decide⟩
        · exact ⟨8, rfl, by decide, by decide⟩
      refine .inl (.inl ⟨l, _, d1, .int z, rfl, rfl, .of el, ez, wl, z, rfl, a2.well, z0, by omega, fun d H2 d20 d21 a3 => ⟨(by show 2 ≤ sizeLine; decide), fun p hp => ?_⟩⟩)
      exact q (.b d.toNat) _ _ (by show d.toNat < 8; omega) (by simp only [Kd.deep]; omega) (base_at (a3.well.laid hp _) d20) ((a1.trans (a2.trans a3)).new hp _)
  · have n0 : n ≠ 0 := fun z => c (.inl z)
    have d2 : ¬ d0 < 2 := fun z => c (.inr z)
    refine iteF' (by simp; omega) ⟨_, rfl, _, _, rfl, rfl, _, rfl, iteF' (by simpa using d2) ?_⟩
    refine ⟨_, rfl, .inl ⟨rfl, _, rfl, ?_⟩⟩
    by_cases c2 : d0 = 2
    · exact iteT' (by simp [c2]) ⟨(by show 1 ≤ sizeLine; decide), fun p hp => q .u _ _ trivial (by simp only [Kd.deep]; omega) (unit_at (a0.well.laid hp _)) (a0.new hp _)⟩
    refine iteF' (by simpa using c2) ⟨_, rfl, _, _, rfl, rfl, _, rfl, ?_⟩
    have en : ((n : Nat) : Int) - 1 = ((n - 1 : Nat) : Int) := by omega
    have two : ∀ {mk : Kd → Kd → Kd} {wd : Str}, ((mk = Kd.p ∧ wd = "both") ∨ (mk = Kd.f ∧ wd = "from")) → ∀ (k1 k2 : Kd) (v1 v2 : V) (H1 H2 : Hp) (p : Addr), k1.ok → k1.deep ≤ n - 1 + 1 → Dq K (out wl H1) v1 k1.dat → Aft wl H0 H1 → k2.ok → k2.deep ≤ n - 1 + 1 → Dq K (out wl H2) v2 k2.dat → Aft wl H1 H2 → H2 p = none → Q (.ref p) (upd H2 p (.tup [.str wd, v1, v2])) := fun h k1 k2 v1 v2 H1 H2 p o1 l1 q1 a1 o2 l2 q2 a2 hp => by
      rename_i mk wd
      have s4 := out_new (w := wl) hp (.tup [.str wd, v1, v2])
      have en := a2.well.laid hp (.tup [.str wd, v1, v2])
      rcases h with ⟨rfl, rfl⟩ | ⟨rfl, rfl⟩
      · exact q (.p k1 k2) _ _ ⟨o1, o2⟩ (by simp only [Kd.deep]; omega) (.tup (.of en) (.cons (.str _) (.cons (q1.same (a2.but.trans s4)) (.cons (q2.same s4) .nil)))) (((a0.trans a1).trans a2).new hp _)
      · exact q (.f k1 k2) _ _ ⟨o1, o2⟩ (by simp only [Kd.deep]; omega) (.tup (.of en) (.cons (.str _) (.cons (q1.same (a2.but.trans s4)) (.cons (q2.same s4) .nil)))) (((a0.trans a1).trans a2).new hp _)
    refine ite2 (fun _ => ?_) (fun _ => ?_)
    · refine ⟨_, rfl, _, rfl, _, _, rfl, rfl, wl, n - 1, by rw [← en]; rfl, a0.well, by omega, fun k1 v1 H1 o1 l1 q1 a1 => ⟨_, rfl, _, rfl, _, _, rfl, rfl, wl, n - 1, by rw [← en]; rfl, a1.well, by omega, fun k2 v2 H2 o2 l2 q2 a2 => ⟨(by show 3 ≤ sizeLine; decide), fun p hp => two (.inl ⟨rfl, rfl⟩) k1 k2 v1 v2 H1 H2 p o1 l1 q1 a1 o2 l2 q2 a2 hp⟩⟩⟩
    · refine ⟨_, rfl, _, rfl, _, _, rfl, rfl, wl, n - 1, by rw [← en]; rfl, a0.well, by omega, fun k1 v1 H1 o1 l1 q1 a1 => ⟨_, rfl, _, rfl, _, _, rfl, rfl, wl, n - 1, by rw [← en]; rfl, a1.well, by omega, fun k2 v2 H2 o2 l2 q2 a2 => ⟨(by show 3 ≤ sizeLine; decide), fun p hp => two (.inr ⟨rfl, rfl⟩) k1 k2 v1 v2 H1 H2 p o1 l1 q1 a1 o2 l2 q2 a2 hp⟩⟩⟩
theorem ok_kind (A : At K mg "_law_kind" s_law_kind) (T : Txt K mg w CN CT) (C_law_draw : Cal P w K mg base CX0 1 "_law_draw" ["well", "width"] spDraw) : ∀ N : Nat, Cal P w K mg base CX0 (N + 1) "_law_kind" ["well", "deep"] (spKind51 K N)
  | 0 => cal_vac A (fun f fd F => F.binds (ps := ["well", "deep"]) (fun _ _ _ _ _ _ us hl => match us, hl with | [_, _], _ => rfl)) fun vs H Q E ⟨w, n, _, _, h, _⟩ => absurd h (Nat.not_lt_zero _)
  | N + 1 => ok_kind1 A T C_law_draw (ok_kind A T C_law_draw N)
end

/-! ## whether a thing is a kind, by the law's own -/
def spGk (K : PySem.W.Frag) (N : Nat) : Sp := fun vs H Q _ => ∃ v d, vs = [v] ∧ Dq K H v d ∧ d.depth < N ∧ ∀ H', Same H H' → Q (.bl (isKd d)) H'
theorem isKd1 (w : Str) : isKd (.tuple [.str w]) = decide (w = "unit") := by simp only [isKd]
theorem isKd2 (w : Str) (x : PyData) : isKd (.tuple [.str w, x]) = (decide (w = "base") && isBn x) := by simp only [isKd]
theorem isKd3 (w : Str) (x y : PyData) : isKd (.tuple [.str w, x, y]) = ((decide (w = "both") || decide (w = "from")) && (isKd x && isKd y)) := by simp only [isKd]
theorem isKd4 (w : Str) (x y z : PyData) (r : List PyData) : isKd (.tuple (.str w :: x :: y :: z :: r)) = false := by simp only [isKd]
theorem hd_q {K : PySem.W.Frag} {W : World} {σ : L2.St} {H : Hp} {i : Nat} {v : V} {d : PyData} {Q : Bool → Hp → Prop} (ei : σ[i]? = some (some v)) (hd : Dq K H v d) (q1 : (∀ w r, d ≠ .tuple (.str w :: r)) → ∀ H', Same H H' → Q true H')
    (q2 : ∀ w r a xs H', d = .tuple (.str w :: r) → v = .ref a → Same H H' → SqT K H' a (.str w :: xs) → DqAll K H' xs r → Q false H') :
    tOr (tNot (tB (tCB (rIsiD K) (tCons (tVar i) (tCons (tC (.ty "tuple")) tNil))))) (tOr (tTest (tOp (rEqU K) (tVar i) (tTup tNil))) (tNot (tB (tCB (rIsiD K) (tCons (tOp (rIxB K W) (tVar i) (tC (.int 0))) (tCons (tC (.ty "str")) tNil)))))) σ H Q := by
  refine ⟨_, ei, v, "tuple", d, rfl, hd, rfl, _, rfl, ?_⟩
  by_cases ht : tyN d = "tuple"
  · rw [ht]
    refine iteF' (by decide) ?_
    cases hd <;> simp [tyN] at ht
    rename_i a xs ds hs ha
    refine ⟨_, ei, Nat.zero_le _, fun t0 h0 => ?_⟩
    have s0 := same_new h0 (.tup [])
    refine ⟨a, t0, xs, rfl, rfl, KB.Same.tup s0 hs, .of upd_same, _, rfl, ?_⟩
    cases ha with
    | nil => exact iteT' (by simp) (q1 (fun w r e => by cases e) _ s0)
    | cons h1 h2 =>
      rename_i v1 vs1 d1 ds1
      refine iteF' (by simp) ?_
      refine ⟨_, ei, .inl (.inr (.inl ⟨a, _, 0, v1, rfl, rfl, KB.Same.tup s0 hs, at0 _ _, v1, "str", d1, rfl, h1.same s0, rfl, _, rfl, ?_⟩))⟩
      by_cases ht1 : tyN d1 = "str"
      · cases h1 <;> simp [tyN] at ht1
        rename_i z
        exact q2 z ds1 a vs1 _ rfl rfl s0 (KB.Same.tup s0 hs) (h2.same s0)
      · have e : isiN (tyN d1) "str" = false := by cases d1 <;> first | rfl | (simp [tyN] at ht1)
        rw [e]
        exact q1 (fun w r e => by cases e; exact ht1 rfl) _ s0
  · have e : isiN (tyN d) "tuple" = false := by cases d <;> first | rfl | (simp [tyN] at ht)
    rw [e]
    exact iteT' rfl (q1 (fun w r e => by subst e; exact ht rfl) _ (Same.refl _))
abbrev s_law_good_kind : Stmt := top 38
theorem sc_law_good_kind : FnScope ["thing"] ["thing"] (defScope s_law_good_kind) := ⟨rfl, rfl, rfl, by decide +kernel, rfl, by decide +kernel, by decide +kernel⟩
section
variable {P : Program} {w : World} {K : PySem.W.Frag} {mg : Str → Option Value} {base : Heap} {CN CT : Addr}
theorem ok_gk1 {N : Nat} (A : At K mg "_law_good_kind" s_law_good_kind) (T : Txt K mg w CN CT) (C_law_good_kind : Cal P w K mg base CX0 N "_law_good_kind" ["thing"] (spGk K N)) : Cal P w K mg base CX0 (N + 1) "_law_good_kind" ["thing"] (spGk K (N + 1)) := by
  obtain ⟨f, fd, F, m⟩ := A
  refine ⟨f, fd, F.ok sc_law_good_kind (fun vs H Q E h => ?_) (fun cdv A outer s H vs Q E hr h => ?_), F.binds (ps := ["thing"]) (fun _ _ _ _ _ _ us hl => match us, hl with | [_], _ => rfl), F.kp, m⟩
  · obtain ⟨v, d, rfl, _⟩ := h; rfl
  obtain ⟨v, d, rfl, hd, hN, q⟩ := h
  refine ⟨_, (pss_cons (ps_if (PW.pt (pw_or (pt_not (pt_val (pe_callB call_isiD (by rfl) T.z_isinstance (by decide +kernel) (pa_cons (pv 0) (pa_cons (pe_bltn (v := .ty "tuple") (by rfl) T.z_tuple (by decide +kernel) rfl) pa_nil))))) (pw_or (pt_cmpR (op_eqU (room200 hr)) (pv 0) (pe_tup pa_nil) (nomark _)) (pw_or1 (pt_not (pt_val (pe_callB call_isiD (by rfl) T.z_isinstance (by decide +kernel) (pa_cons (pe_ix ix_B (pv 0) pe_int (fun _ _ => rfl)) (pa_cons (pe_bltn (v := .ty "str") (by rfl) T.z_str (by decide +kernel) rfl) pa_nil)))))))))
   (pss_one (ps_ret pe_bl))
   pss_nil)
  (pss_cons (ps_if (pt_cmpR (op_eqA (room200 hr)) (pe_ix ix_B (pv 0) pe_int (fun _ _ => rfl)) pe_str (nomark _))
   (pss_one (ps_ret (pe_and (pe_cmpR (op_eqA (room200 hr)) (pe_callB call_len (by rfl) T.z_len (by decide +kernel) (pa_cons (pv 0) pa_nil)) pe_int (nomark _)) (pe_and (pe_callB call_isiD (by rfl) T.z_isinstance (by decide +kernel) (pa_cons (pe_ix ix_B (pv 0) pe_int (fun _ _ => rfl)) (pa_cons (pe_bltn (v := .ty "int") (by rfl) T.z_int (by decide +kernel) rfl) pa_nil))) (pe_and (pe_not (pe_callB call_isiD (by rfl) T.z_isinstance (by decide +kernel) (pa_cons (pe_ix ix_B (pv 0) pe_int (fun _ _ => rfl)) (pa_cons (pe_bltn (v := .ty "bool") (by rfl) T.z_bool (by decide +kernel) rfl) pa_nil)))) (pe_one (pe_chain op_le op_lt pe_int (pe_ix ix_B (pv 0) pe_int (fun _ _ => rfl)) pe_int)))))))
   pss_nil)
  (pss_cons (ps_if (pt_cmpR (op_eqA (room200 hr)) (pe_ix ix_B (pv 0) pe_int (fun _ _ => rfl)) pe_str (nomark _))
   (pss_one (ps_ret (pe_cmpR (op_eqA (room200 hr)) (pe_callB call_len (by rfl) T.z_len (by decide +kernel) (pa_cons (pv 0) pa_nil)) pe_int (nomark _))))
   pss_nil)
  (pss_cons (ps_if (PW.pt (pw_or (pt_cmpR (r := rIn K true) op_notIn_seq (pe_ix ix_B (pv 0) pe_int (fun _ _ => rfl)) (pe_lst (pa_cons pe_str (pa_cons pe_str pa_nil))) rfl) (pw_or1 (pt_cmpR (op_neA (room200 hr)) (pe_callB call_len (by rfl) T.z_len (by decide +kernel) (pa_cons (pv 0) pa_nil)) pe_int (nomark _)))))
   (pss_one (ps_ret pe_bl))
   pss_nil)
  (pss_one (ps_ret (pe_and (pe_calC C_law_good_kind (hr.mono (by first | decide | omega)) pass0 (pa_cons (pe_ix ix_B (pv 0) pe_int (fun _ _ => rfl)) pa_nil)) (pe_one (pe_calC C_law_good_kind (hr.mono (by first | decide | omega)) pass0 (pa_cons (pe_ix ix_B (pv 0) pe_int (fun _ _ => rfl)) pa_nil)))))))))), ?_⟩
  refine hd_q (i := 0) rfl hd (fun h H' s' => ?_) (fun z r a xs H1 e ev s1 hT hA => ?_)
  · have e : isKd d = false := by
      cases c : isKd d with
      | false => rfl
      | true =>
        obtain ⟨k, _, rfl⟩ := kd_of d c
        cases k <;> exact absurd rfl (h _ _)
    exact qbl (q _ s') e
  subst e ev
  have hlen := hA.length
  refine ⟨_, rfl, ix0_seq (.inr hT) (.inl ⟨rfl, _, rfl, ?_⟩)⟩
  by_cases hb : z = "base"
  · subst hb
    refine iteT' (by simp) ⟨_, rfl, _, _, rfl, .inr ⟨_, hT, rfl⟩, .inl ⟨rfl, _, rfl, ?_⟩⟩
    cases hA with
    | nil => exact iteF' (by decide) (qbl (q _ s1) (by rw [isKd1]; decide))
    | cons h3 h4 =>
      rename_i v2 vs2 d2 ds2
      cases h4 with
      | cons h5 h6 =>
        refine iteF' (decide_eq_false (by intro z; have z' := V.int.inj z; simp only [List.length_cons] at z'; omega)) (qbl (q _ s1) ?_)
        cases h6 with
        | nil => rw [isKd3]; simp; intro h; exact absurd h (by decide)
        | cons _ _ => rw [isKd4]
      | nil =>
        refine iteT' (decide_eq_true rfl) ?_
        have q : Q (.bl (isBn d2)) H1 := by
          have q := q H1 s1
          rw [isKd2, decide_eq_true rfl, Bool.true_and] at q
          exact q
        refine ⟨_, rfl, .inl (.inr (.inl ⟨a, _, 1, v2, rfl, rfl, hT, at1 _ _ _, v2, "int", d2, rfl, h3, rfl, _, rfl, ?_⟩))⟩
        cases h3 with
        | int n =>
          refine iteT' (by simp [isiN, tyN]) ⟨_, rfl, .inl (.inr (.inl ⟨a, _, 1, _, rfl, rfl, hT, at1 _ _ _, _, "bool", _, rfl, .int n, rfl, _, rfl, ?_⟩))⟩
          refine ⟨_, rfl, iteT' (by simp [isiN, tyN]) ⟨_, rfl, .inl (.inr (.inl ⟨a, _, 1, _, rfl, rfl, hT, at1 _ _ _, _, _, rfl, rfl, _, rfl, ?_⟩))⟩⟩
          have q : Q (.bl (decide (0 ≤ n) && decide (n < 8))) H1 := q
          refine ite2 (fun c => ?_) (fun c => ?_)
          · rw [c, Bool.true_and] at q
            exact ⟨_, _, rfl, rfl, q⟩
          · rw [Bool.eq_false_iff.mpr c, Bool.false_and] at q
            exact q
        | bl b => exact iteT' (by simp [isiN, tyN]) ⟨_, rfl, .inl (.inr (.inl ⟨a, _, 1, _, rfl, rfl, hT, at1 _ _ _, _, "bool", _, rfl, .bl b, rfl, _, rfl, ⟨_, rfl, iteF' (by simp [isiN, tyN]) q⟩⟩))⟩
        | non => exact iteF' (by simp [isiN, tyN]) q
        | str _ => exact iteF' (by simp [isiN, tyN]) q
        | tup _ _ => exact iteF' (by simp [isiN, tyN]) q
        | lst _ _ => exact iteF' (by simp [isiN, tyN]) q
        | dct _ => exact iteF' (by simp [isiN, tyN]) q
  refine iteF' (by simpa using hb) ⟨_, rfl, ix0_seq (.inr hT) (.inl ⟨rfl, _, rfl, ?_⟩)⟩
  by_cases hu : z = "unit"
  · subst hu
    refine iteT' (by simp) ⟨_, rfl, _, _, rfl, .inr ⟨_, hT, rfl⟩, .inl ⟨rfl, qbl (q _ s1) ?_⟩⟩
    cases hA with
    | nil => rw [isKd1]; decide
    | cons h3 h4 =>
      rw [show decide (V.int ((((V.str "unit" :: _ :: _ : List V)).length : Nat) : Int) = V.int 1) = false from decide_eq_false (by intro z; have z' := V.int.inj z; simp only [List.length_cons] at z'; omega)]
      cases h4 with
      | nil => rw [isKd2]; simp; intro h; exact absurd h (by decide)
      | cons _ h6 => cases h6 with
        | nil => rw [isKd3]; simp; intro h; rcases h with h | h <;> exact absurd h (by decide)
        | cons _ _ => rw [isKd4]
  have inb : inV (V.str z) [V.str "both", V.str "from"] = (decide (z = "both") || decide (z = "from")) := by
    simp only [inV, List.any_cons, List.any_nil, Bool.or_false]
    have h : ∀ a b : Str, eqV (V.str a) (V.str b) = decide (a = b) := fun a b => by
      by_cases c : a = b
      · subst c; simp [eqV]
      · simp [eqV, c]
    rw [h, h]
    simp [eq_comm]
  refine iteF' (by simpa using hu) ⟨_, rfl, ix0_seq (.inr hT) ⟨(by show 2 ≤ sizeLine; decide), fun p hp => ⟨p, _, rfl, .inl (.of upd_same), rfl, rfl, _, rfl, ?_⟩⟩⟩
  have s2 := s1.trans (same_new hp (.lst [.str "both", .str "from"]))
  replace hT := KB.Same.tup (same_new hp (.lst [.str "both", .str "from"])) hT
  replace hA := hA.same (same_new hp (.lst [.str "both", .str "from"]))
  generalize upd H1 p (.lst [.str "both", .str "from"]) = H2 at s2 hT hA ⊢
  rw [if_pos rfl, inb]
  have bad : isKd (.tuple (.str z :: r)) = false → Q (.bl false) H2 := fun e => e ▸ q _ s2
  by_cases c : (decide (z = "both") || decide (z = "from")) = true
  · refine iteF' (by rw [c]; rfl) ⟨_, rfl, _, _, rfl, .inr ⟨_, hT, rfl⟩, .inl ⟨rfl, _, rfl, ?_⟩⟩
    cases hA with
    | nil => exact iteT' (by simp) (bad (by rw [isKd1]; simp [hu]))
    | cons h3 h4 =>
      rename_i v2 vs2 d2 ds2
      cases h4 with
      | nil => exact iteT' (by simp) (bad (by rw [isKd2]; simp [hb]))
      | cons h5 h6 =>
        rename_i v3 vs3 d3 ds3
        cases h6 with
        | cons _ _ => exact iteT' (by simp; omega) (bad (isKd4 _ _ _ _ _))
        | nil =>
          refine iteF' (by simp) ?_
          have e3 : isKd (.tuple [.str z, d2, d3]) = (isKd d2 && isKd d3) := by rw [isKd3, c, Bool.true_and]
          have q : ∀ H', Same H2 H' → Q (.bl (isKd d2 && isKd d3)) H' := fun H' s' => e3 ▸ q H' (s2.trans s')
          simp only [PyData.depth, PyData.depthAll] at hN
          refine ⟨_, rfl, .inl (.inr (.inl ⟨a, _, 1, v2, rfl, rfl, hT, at1 _ _ _, v2, d2, rfl, h3, by omega, fun H3 s3 => ⟨_, rfl, ite2 (fun c2 => ?_) (fun c2 => ?_)⟩⟩))⟩
          · refine ⟨_, rfl, .inl (.inr (.inl ⟨a, _, 2, v3, rfl, rfl, KB.Same.tup s3 hT, at2 _ _ _ _, v3, d3, rfl, h5.same s3, by omega, fun H4 s4 => ?_⟩))⟩
            have q := q H4 (s3.trans s4)
            rw [c2, Bool.true_and] at q
            exact q
          · have q := q H3 s3
            rw [Bool.eq_false_iff.mpr c2, Bool.false_and] at q
            exact q
  · refine iteT' (by rw [Bool.eq_false_iff.mpr c]; rfl) (bad ?_)
    match r with
    | [] => rw [isKd1]; simp [hu]
    | [x] => rw [isKd2]; simp [hb]
    | [x, y] => rw [isKd3, Bool.eq_false_iff.mpr c]; rfl
    | _ :: _ :: _ :: _ => exact isKd4 _ _ _ _ _
theorem ok_gk (A : At K mg "_law_good_kind" s_law_good_kind) (T : Txt K mg w CN CT) : ∀ N : Nat, Cal P w K mg base CX0 N "_law_good_kind" ["thing"] (spGk K N)
  | 0 => cal_vac A (fun f fd F => F.binds (ps := ["thing"]) (fun _ _ _ _ _ _ us hl => match us, hl with | [_], _ => rfl)) fun vs H Q E ⟨v, d, _, _, h, _⟩ => absurd h (Nat.not_lt_zero _)
  | N + 1 => ok_gk1 A T (ok_gk A T N)
end

/-! ## the kind of a thing as a term, by the law's own -/
theorem pc2 {w : Str} (x : PyData) (h : lenOf w = some 2) (n : w ≠ "make") : pcB (.tuple [.str w, x]) = true := by
  simp only [pcB, Bool.and_eq_true, decide_eq_true_eq, Bool.or_eq_true, Bool.not_eq_true', decide_eq_false_iff_not]
  exact ⟨h, .inl n⟩
theorem pc3 {w : Str} (x y : PyData) (h : lenOf w = some 3) (n : w ≠ "make") : pcB (.tuple [.str w, x, y]) = true := by
  simp only [pcB, Bool.and_eq_true, decide_eq_true_eq, Bool.or_eq_true, Bool.not_eq_true', decide_eq_false_iff_not]
  exact ⟨h, .inl n⟩
theorem pcm {x y : PyData} (h : isKd x = true) : pcB (.tuple [.str "make", x, y]) = true := by
  simp only [pcB, Bool.and_eq_true, decide_eq_true_eq, Bool.or_eq_true, Bool.not_eq_true', decide_eq_false_iff_not]
  exact ⟨show lenOf "make" = some 3 by decide +kernel, .inr h⟩
theorem w_inj {a b : Str} {r s : List PyData} (h : PyData.tuple (.str a :: r) = .tuple (.str b :: s)) : a = b ∧ r = s := by
  injection h with h
  injection h with h1 h2
  injection h1 with h1
  exact ⟨h1, h2⟩
theorem jd_bad {t : Trm} {ks : List Kd} (w : t.wf) (h : pcB t.dat = false) : t.jd ks = none := by
  cases e : t.isBad with
  | false => rw [RdX.pc_true t w e] at h; cases h
  | true => cases t <;> first | rfl | cases e
/-- a term of a word -/
theorem t_word {t : Trm} (w : t.wf) {z : Str} {r : List PyData} (h : t.dat = .tuple (.str z :: r)) (p : pcB t.dat = true) :
    (∃ x, t = .giv x ∧ z = "given" ∧ r = [x]) ∨ (∃ u, t = .fst u ∧ z = "first" ∧ r = [u.dat]) ∨ (∃ u, t = .snd u ∧ z = "second" ∧ r = [u.dat]) ∨ (∃ c u, t = .mk c u ∧ z = "make" ∧ r = [c.dat, u.dat]) ∨
      (∃ x y, t = .doo x y ∧ z = "do" ∧ r = [x.dat, y.dat]) ∨ (∃ x y, t = .both x y ∧ z = "both" ∧ r = [x.dat, y.dat]) ∨ (t = .unit ∧ z = "unit" ∧ r = []) := by
  cases t with
  | giv x => have := w_inj h; exact .inl ⟨x, rfl, this.1.symm, this.2.symm⟩
  | fst u => have := w_inj h; exact .inr (.inl ⟨u, rfl, this.1.symm, this.2.symm⟩)
  | snd u => have := w_inj h; exact .inr (.inr (.inl ⟨u, rfl, this.1.symm, this.2.symm⟩))
  | mk c u => have := w_inj h; exact .inr (.inr (.inr (.inl ⟨c, u, rfl, this.1.symm, this.2.symm⟩)))
  | doo x y => have := w_inj h; exact .inr (.inr (.inr (.inr (.inl ⟨x, y, rfl, this.1.symm, this.2.symm⟩))))
  | both x y => have := w_inj h; exact .inr (.inr (.inr (.inr (.inr (.inl ⟨x, y, rfl, this.1.symm, this.2.symm⟩)))))
  | unit => have := w_inj h; exact .inr (.inr (.inr (.inr (.inr (.inr ⟨rfl, this.1.symm, this.2.symm⟩)))))
  | bad d => have h2 : pcB d = false := w; rw [show pcB (Trm.bad d).dat = pcB d from rfl, h2] at p; cases p
theorem inV_strs (z : Str) : ∀ ws : List Str, inV (V.str z) (ws.map V.str) = decide (z ∈ ws)
  | [] => by simp [inV]
  | u :: r => by
    have h := inV_strs z r
    simp only [inV, List.map_cons, List.any_cons, List.mem_cons] at h ⊢
    rw [h]
    have e : eqV (V.str u) (V.str z) = decide (z = u) := by
      by_cases c : z = u
      · subst c; simp [eqV]
      · simp [eqV, c, Ne.symm c]
    rw [e]
    by_cases c : z = u <;> simp [c]
theorem wl_q {K : PySem.W.Frag} {W : World} {σ : L2.St} {H : Hp} {i : Nat} {a : Addr} {z w : Str} {xs : List V} {n : Nat} {Q : Bool → Hp → Prop} (ei : σ[i]? = some (some (.ref a))) (hT : SqT K H a (.str z :: xs)) (q : Q (decide (z = w) && decide (xs.length + 1 = n)) H) :
    tAnd (tTest (tOp (rEqA K) (tOp (rIxB K W) (tVar i) (tC (.int 0))) (tC (.str w)))) (tTest (tOp (rEqA K) (tCB (rLen K) (tCons (tVar i) tNil)) (tC (.int (n : Nat))))) σ H Q := by
  refine ⟨_, ei, ix0_seq (.inr hT) (.inl ⟨rfl, _, rfl, ?_⟩)⟩
  by_cases c : z = w
  · rw [decide_eq_true c, Bool.true_and] at q
    refine iteT' (by simp [c]) ⟨_, ei, _, _, rfl, .inr ⟨_, hT, rfl⟩, .inl ⟨rfl, _, rfl, ?_⟩⟩
    have e : decide (V.int (((V.str z :: xs : List V).length : Nat) : Int) = V.int (n : Nat)) = decide (xs.length + 1 = n) := by
      refine decide_eq_decide.mpr ⟨fun h => ?_, fun h => by rw [← h]; rfl⟩
      have h' := V.int.inj h
      simp only [List.length_cons] at h'
      omega
    rw [e]
    exact q
  · rw [decide_eq_false c, Bool.false_and] at q
    exact iteF' (by simpa using c) q
theorem in2_q {K : PySem.W.Frag} {W : World} {σ : L2.St} {H : Hp} {i : Nat} {a : Addr} {z w1 w2 : Str} {xs : List V} {n : Nat} {Q : Bool → Hp → Prop} (ei : σ[i]? = some (some (.ref a))) (hT : SqT K H a (.str z :: xs)) (q : ∀ H', Same H H' → Q (decide (z ∈ [w1, w2]) && decide (xs.length + 1 = n)) H') :
    tAnd (tTest (tOp (rIn K false) (tOp (rIxB K W) (tVar i) (tC (.int 0))) (tLst (tCons (tC (.str w1)) (tCons (tC (.str w2)) tNil))))) (tTest (tOp (rEqA K) (tCB (rLen K) (tCons (tVar i) tNil)) (tC (.int (n : Nat))))) σ H Q := by
  refine ⟨_, ei, ix0_seq (.inr hT) ⟨(by show 2 ≤ sizeLine; decide), fun p hp => ⟨p, _, rfl, .inl (.of upd_same), rfl, rfl, _, rfl, ?_⟩⟩⟩
  have s1 := same_new hp (.lst [.str w1, .str w2])
  have q := q _ s1
  rw [if_neg Bool.false_ne_true, show inV (V.str z) [V.str w1, V.str w2] = _ from inV_strs z [w1, w2]]
  by_cases c : z ∈ [w1, w2]
  · rw [decide_eq_true c, Bool.true_and] at q
    refine iteT' (decide_eq_true c) ⟨_, ei, _, _, rfl, .inr ⟨_, KB.Same.tup s1 hT, rfl⟩, .inl ⟨rfl, _, rfl, ?_⟩⟩
    have e : decide (V.int (((V.str z :: xs : List V).length : Nat) : Int) = V.int (n : Nat)) = decide (xs.length + 1 = n) := by
      refine decide_eq_decide.mpr ⟨fun h => ?_, fun h => by rw [← h]; rfl⟩
      have h' := V.int.inj h
      simp only [List.length_cons] at h'
      omega
    rw [e]
    exact q
  · rw [decide_eq_false c, Bool.false_and] at q
    exact iteF' (decide_eq_false c) q
theorem n3_q {K : PySem.W.Frag} {W : World} {σ : L2.St} {H : Hp} {i : Nat} {a : Addr} {z w1 w2 w3 : Str} {xs : List V} {n : Nat} {Q : Bool → Hp → Prop} (ei : σ[i]? = some (some (.ref a))) (hT : SqT K H a (.str z :: xs)) (q : ∀ H', Same H H' → Q (!decide (xs.length + 1 = n) || !decide (z ∈ [w1, w2, w3])) H') :
    tOr (tTest (tOp (rNeA K) (tCB (rLen K) (tCons (tVar i) tNil)) (tC (.int (n : Nat))))) (tTest (tOp (rIn K true) (tOp (rIxB K W) (tVar i) (tC (.int 0))) (tLst (tCons (tC (.str w1)) (tCons (tC (.str w2)) (tCons (tC (.str w3)) tNil)))))) σ H Q := by
  refine ⟨_, ei, _, _, rfl, .inr ⟨_, hT, rfl⟩, .inl ⟨rfl, _, rfl, ?_⟩⟩
  have e : decide (V.int (((V.str z :: xs : List V).length : Nat) : Int) = V.int (n : Nat)) = decide (xs.length + 1 = n) := by
    refine decide_eq_decide.mpr ⟨fun h => ?_, fun h => by rw [← h]; rfl⟩
    have h' := V.int.inj h
    simp only [List.length_cons] at h'
    omega
  rw [e]
  by_cases c : xs.length + 1 = n
  · refine iteF' (by rw [decide_eq_true c]; rfl) ⟨_, ei, ix0_seq (.inr hT) ⟨(by show 3 ≤ sizeLine; decide), fun p hp => ⟨p, _, rfl, .inl (.of upd_same), rfl, rfl, _, rfl, ?_⟩⟩⟩
    have q := q _ (same_new hp (.lst [.str w1, .str w2, .str w3]))
    rw [if_pos rfl, show inV (V.str z) [V.str w1, V.str w2, V.str w3] = _ from inV_strs z [w1, w2, w3]]
    rw [decide_eq_true c, Bool.not_true, Bool.false_or] at q
    exact q
  · have q := q _ (Same.refl _)
    rw [decide_eq_false c, Bool.not_false, Bool.true_or] at q
    exact iteT' (by rw [decide_eq_false c]; rfl) q
theorem eq_kd {K : PySem.W.Frag} {H : Hp} {v u : V} {a b : Kd} {Q : VK} (h1 : Dq K H v a.dat) (h2 : Dq K H u b.dat) (hd : a.dat.depth ≤ 180) (q : Q (.bl (decide (a = b))) H) : rEqA K v u H Q := by
  refine .inr ⟨a.dat, b.dat, h1.dp (Kd.dat_lay a), h2.dp (Kd.dat_lay b), Kd.dat_lay a, Kd.dat_lay b, by omega, ?_⟩
  rw [Kd.eqv]
  exact q
def spJd (K : PySem.W.Frag) (N : Nat) : Sp := fun vs H Q _ => ∃ (v : V) (g : Addr) (t : Trm) (ks : List Kd), vs = [v, .ref g] ∧ Dq K H v t.dat ∧ t.wf ∧ t.Few ks ∧ t.dat.depth < N ∧ N ≤ 100 ∧ KsAt K H g ks ∧ ks.length + N ≤ 3000000 ∧
  (t.jd ks = none → ∀ H', Same H H' → Q .non H') ∧ ∀ k, t.jd ks = some k → ∀ kv H', Same H H' → Dq K H' kv k.dat → Q kv H'
abbrev s_law_judged : Stmt := top 39
theorem sc_law_judged : FnScope ["term", "given", "one", "body", "other"] ["term", "given"] (defScope s_law_judged) := ⟨rfl, rfl, rfl, by decide +kernel, rfl, by decide +kernel, by decide +kernel⟩
section
variable {P : Program} {w : World} {K : PySem.W.Frag} {mg : Str → Option Value} {base : Heap} {CN CT : Addr}
theorem ok_jd1 {N : Nat} (A : At K mg "_law_judged" s_law_judged) (T : Txt K mg w CN CT) (C_law_good_kind : Cal P w K mg base CX0 100 "_law_good_kind" ["thing"] (spGk K 100)) (C_law_judged : Cal P w K mg base CX0 (N + 101) "_law_judged" ["term", "given"] (spJd K N)) : Cal P w K mg base CX0 (N + 102) "_law_judged" ["term", "given"] (spJd K (N + 1)) := by
  obtain ⟨f, fd, F, m⟩ := A
  refine ⟨f, fd, F.ok sc_law_judged (fun vs H Q E h => ?_) (fun cdv A outer s H vs Q E hr h => ?_), F.binds (ps := ["term", "given"]) (fun _ _ _ _ _ _ us hl => match us, hl with | [_, _], _ => rfl), F.kp, m⟩
  · obtain ⟨v, g, t, ks, rfl, _⟩ := h; rfl
  obtain ⟨v, g, t, ks, rfl, hd, wf, few, hN, h4, hG, hkl, q1, q2⟩ := h
  refine ⟨_, (pss_cons (ps_if (PW.pt (pw_or (pt_not (pt_val (pe_callB call_isiD (by rfl) T.z_isinstance (by decide +kernel) (pa_cons (pv 0) (pa_cons (pe_bltn (v := .ty "tuple") (by rfl) T.z_tuple (by decide +kernel) rfl) pa_nil))))) (pw_or (pt_cmpR (op_eqU (room200 hr)) (pv 0) (pe_tup pa_nil) (nomark _)) (pw_or1 (pt_not (pt_val (pe_callB call_isiD (by rfl) T.z_isinstance (by decide +kernel) (pa_cons (pe_ix ix_B (pv 0) pe_int (fun _ _ => rfl)) (pa_cons (pe_bltn (v := .ty "str") (by rfl) T.z_str (by decide +kernel) rfl) pa_nil)))))))))
   (pss_one (ps_ret pe_non))
   pss_nil)
  (pss_cons (ps_if (pt_cmpR (op_eqA (room200 hr)) (pe_ix ix_B (pv 0) pe_int (fun _ _ => rfl)) pe_str (nomark _))
   (pss_one (ps_ret (pe_ix ix_B (pe_lst (pa_cons pe_non (pa_cons (pe_tup (pa_cons pe_str pa_nil)) pa_nil))) (pe_callTy call_int1 (by rfl) T.z_int (by decide +kernel) (pa_cons (pe_cmpR (op_eqA (room200 hr)) (pe_callB call_len (by rfl) T.z_len (by decide +kernel) (pa_cons (pv 0) pa_nil)) pe_int (nomark _)) pa_nil)) (fun _ _ => rfl))))
   pss_nil)
  (pss_cons (ps_if (PW.pt (pw_and (pt_cmpR (op_eqA (room200 hr)) (pe_ix ix_B (pv 0) pe_int (fun _ _ => rfl)) pe_str (nomark _)) (pw_and1 (pt_cmpR (op_eqA (room200 hr)) (pe_callB call_len (by rfl) T.z_len (by decide +kernel) (pa_cons (pv 0) pa_nil)) pe_int (nomark _)))))
   (pss_cons (ps_if (PW.pt (pw_and (pt_val (pe_callB call_isiD (by rfl) T.z_isinstance (by decide +kernel) (pa_cons (pe_ix ix_B (pv 0) pe_int (fun _ _ => rfl)) (pa_cons (pe_bltn (v := .ty "int") (by rfl) T.z_int (by decide +kernel) rfl) pa_nil)))) (pw_and (pt_not (pt_val (pe_callB call_isiD (by rfl) T.z_isinstance (by decide +kernel) (pa_cons (pe_ix ix_B (pv 0) pe_int (fun _ _ => rfl)) (pa_cons (pe_bltn (v := .ty "bool") (by rfl) T.z_bool (by decide +kernel) rfl) pa_nil))))) (pw_and1 (pt_chain op_le op_lt pe_int (pe_ix ix_B (pv 0) pe_int (fun _ _ => rfl)) (pe_callB call_len (by rfl) T.z_len (by decide +kernel) (pa_cons (pv 1) pa_nil)))))))
   (pss_one (ps_ret (pe_ix ix_B (pv 1) (pe_ix ix_B (pv 0) pe_int (fun _ _ => rfl)) (fun _ _ => rfl))))
   pss_nil)
  (pss_one (ps_ret pe_non)))
   pss_nil)
  (pss_cons (ps_if (PW.pt (pw_and (pt_cmpR (r := rIn K false) op_in_seq (pe_ix ix_B (pv 0) pe_int (fun _ _ => rfl)) (pe_lst (pa_cons pe_str (pa_cons pe_str pa_nil))) rfl) (pw_and1 (pt_cmpR (op_eqA (room200 hr)) (pe_callB call_len (by rfl) T.z_len (by decide +kernel) (pa_cons (pv 0) pa_nil)) pe_int (nomark _)))))
   (pss_cons (ps_set (i := 2) sc_law_judged.nd rfl (by first | exact Or.inl rfl | exact Or.inr rfl) (pe_calC C_law_judged (hr.mono (by first | decide | omega)) pass0 (pa_cons (pe_ix ix_B (pv 0) pe_int (fun _ _ => rfl)) (pa_cons (pv 1) pa_nil))))
  (pss_cons (ps_if (PW.pt (pw_or (pt_cmpR op_isN (pv 2) pe_non (nomark _)) (pw_or1 (pt_cmpR (op_neA (room200 hr)) (pe_ix ix_B (pv 2) pe_int (fun _ _ => rfl)) pe_str (nomark _)))))
   (pss_one (ps_ret pe_non))
   pss_nil)
  (pss_one (ps_ret (pe_ix ix_B (pv 2) (pe_op op_addA pe_int (pe_callTy call_int1 (by rfl) T.z_int (by decide +kernel) (pa_cons (pe_cmpR (op_eqA (room200 hr)) (pe_ix ix_B (pv 0) pe_int (fun _ _ => rfl)) pe_str (nomark _)) pa_nil))) (fun _ _ => rfl))))))
   pss_nil)
  (pss_cons (ps_if (PW.pt (pw_or (pt_cmpR (op_neA (room200 hr)) (pe_callB call_len (by rfl) T.z_len (by decide +kernel) (pa_cons (pv 0) pa_nil)) pe_int (nomark _)) (pw_or1 (pt_cmpR (r := rIn K true) op_notIn_seq (pe_ix ix_B (pv 0) pe_int (fun _ _ => rfl)) (pe_lst (pa_cons pe_str (pa_cons pe_str (pa_cons pe_str pa_nil)))) rfl))))
   (pss_one (ps_ret pe_non))
   pss_nil)
  (pss_cons (ps_if (pt_cmpR (op_eqA (room200 hr)) (pe_ix ix_B (pv 0) pe_int (fun _ _ => rfl)) pe_str (nomark _))
   (pss_cons (ps_if (pt_not (pt_val (pe_calC C_law_good_kind (hr.mono (by first | decide | omega)) pass0 (pa_cons (pe_ix ix_B (pv 0) pe_int (fun _ _ => rfl)) pa_nil))))
   (pss_one (ps_ret pe_non))
   pss_nil)
  (pss_cons (ps_set (i := 3) sc_law_judged.nd rfl (by first | exact Or.inl rfl | exact Or.inr rfl) (pe_calC C_law_judged (hr.mono (by first | decide | omega)) pass0 (pa_cons (pe_ix ix_B (pv 0) pe_int (fun _ _ => rfl)) (pa_cons (pe_op op_addA (pv 1) (pe_lst (pa_cons (pe_ix ix_B (pv 0) pe_int (fun _ _ => rfl)) pa_nil))) pa_nil))))
  (pss_one (ps_ret (pe_ix ix_B (pe_lst (pa_cons pe_non (pa_cons (pe_tup (pa_cons pe_str (pa_cons (pe_ix ix_B (pv 0) pe_int (fun _ _ => rfl)) (pa_cons (pv 3) pa_nil)))) pa_nil))) (pe_callTy call_int1 (by rfl) T.z_int (by decide +kernel) (pa_cons (pe_cmpR op_notN (pv 3) pe_non (nomark _)) pa_nil)) (fun _ _ => rfl))))))
   pss_nil)
  (pss_cons (ps_set (i := 2) sc_law_judged.nd rfl (by first | exact Or.inl rfl | exact Or.inr rfl) (pe_calC C_law_judged (hr.mono (by first | decide | omega)) pass0 (pa_cons (pe_ix ix_B (pv 0) pe_int (fun _ _ => rfl)) (pa_cons (pv 1) pa_nil))))
  (pss_cons (ps_set (i := 4) sc_law_judged.nd rfl (by first | exact Or.inl rfl | exact Or.inr rfl) (pe_calC C_law_judged (hr.mono (by first | decide | omega)) pass0 (pa_cons (pe_ix ix_B (pv 0) pe_int (fun _ _ => rfl)) (pa_cons (pv 1) pa_nil))))
  (pss_cons (ps_if (PW.pt (pw_or (pt_cmpR op_isN (pv 2) pe_non (nomark _)) (pw_or1 (pt_cmpR op_isN (pv 4) pe_non (nomark _)))))
   (pss_one (ps_ret pe_non))
   pss_nil)
  (pss_cons (ps_if (pt_cmpR (op_eqA (room200 hr)) (pe_ix ix_B (pv 0) pe_int (fun _ _ => rfl)) pe_str (nomark _))
   (pss_one (ps_ret (pe_tup (pa_cons pe_str (pa_cons (pv 2) (pa_cons (pv 4) pa_nil))))))
   pss_nil)
  (pss_one (ps_ret (pe_ix ix_B (pe_lst (pa_cons pe_non (pa_cons (pe_ix ix_B (pv 2) (pe_un un_neg pe_int) (fun _ _ => rfl)) pa_nil))) (pe_callTy call_int1 (by rfl) T.z_int (by decide +kernel) (pa_cons (pe_and (pe_cmpR (op_eqA (room200 hr)) (pe_ix ix_B (pv 2) pe_int (fun _ _ => rfl)) pe_str (nomark _)) (pe_one (pe_cmpR (op_eqA (room200 hr)) (pe_ix ix_B (pv 2) pe_int (fun _ _ => rfl)) (pv 4) (nomark _)))) pa_nil)) (fun _ _ => rfl)))))))))))))), ?_⟩
  refine hd_q (i := 0) rfl hd (fun h H' s' => ?_) (fun z r a xs H1 e ev s1 hT hA => ?_)
  · refine q1 (jd_bad wf ?_) _ s'
    cases c : pcB t.dat with
    | false => rfl
    | true =>
      cases hx : t.dat with
      | tuple l =>
        cases l with
        | nil => rw [hx] at c; cases c
        | cons x r => cases x with
          | str w => exact absurd hx (h w r)
          | _ => rw [hx] at c; cases c
      | _ => rw [hx] at c; cases c
  subst ev
  have hlen := hA.length
  have none_q : pcB (.tuple (.str z :: r)) = false → ∀ H', Same H H' → Q .non H' := fun h => q1 (jd_bad wf (by rw [e]; exact h))
  have dN : (PyData.tuple (.str z :: r)).depth < N + 1 := e ▸ hN
  refine ⟨_, rfl, ix0_seq (.inr hT) (.inl ⟨rfl, _, rfl, ?_⟩)⟩
  by_cases hu : z = "unit"
  · subst hu
    refine iteT' (by simp) ⟨(by show 1 ≤ sizeLine; decide), fun tp htp => ⟨(by show 2 ≤ sizeLine; decide), fun l hl => ?_⟩⟩
    have s2 := same_new htp (.tup [.str "unit"])
    have s3 := same_new hl (.lst [.non, .ref tp])
    have s13 := s1.trans (s2.trans s3)
    refine ⟨_, rfl, _, _, rfl, .inr ⟨_, KB.Same.tup (s2.trans s3) hT, rfl⟩, .inl ⟨rfl, .inr ⟨_, rfl, ?_⟩⟩⟩
    cases r with
    | nil =>
      cases hA
      rw [show (if decide (V.int ((([V.str "unit"] : List V).length : Nat) : Int) = V.int 1) = true then (1 : Int) else 0) = 1 from by simp]
      refine .inl (.inl ⟨l, _, 1, .ref tp, rfl, rfl, .of upd_same, at1 _ _ _, ?_⟩)
      have et : t = .unit := by
        rcases t_word wf e (by rw [e]; decide +kernel) with ⟨x, rfl, h, _⟩ | ⟨x, rfl, h, _⟩ | ⟨x, rfl, h, _⟩ | ⟨c, x, rfl, h, _⟩ | ⟨x, y, rfl, h, _⟩ | ⟨x, y, rfl, h, _⟩ | ⟨rfl, _, _⟩
        · exact absurd h (by decide)
        · exact absurd h (by decide)
        · exact absurd h (by decide)
        · exact absurd h (by decide)
        · exact absurd h (by decide)
        · exact absurd h (by decide)
        · rfl
      subst et
      exact q2 .u rfl _ _ s13 (.tup (.of (s3 _ _ upd_same)) (.cons (.str _) .nil))
    | cons x r =>
      rw [show (if decide (V.int (((V.str "unit" :: xs : List V).length : Nat) : Int) = V.int 1) = true then (1 : Int) else 0) = 0 from by rw [decide_eq_false (by intro h; have h' := V.int.inj h; simp only [List.length_cons] at h' hlen; omega)]; rfl]
      refine .inl (.inl ⟨l, _, 0, .non, rfl, rfl, .of upd_same, at0 _ _, none_q ?_ _ s13⟩)
      simp only [pcB, Bool.and_eq_false_iff, decide_eq_false_iff_not]
      refine .inl fun h => ?_
      rw [show lenOf "unit" = some 1 by decide +kernel] at h
      have := Option.some.inj h
      simp only [List.length_cons] at this
      omega
  refine iteF' (by simpa using hu) ?_
  refine wl_q (i := 0) (n := 2) rfl hT ?_
  refine ite2 (fun cg => ?_) (fun cg => ?_)
  · rw [Bool.and_eq_true, decide_eq_true_eq, decide_eq_true_eq] at cg
    obtain ⟨rfl, l1⟩ := cg
    cases hA with
    | nil => cases l1
    | cons hx h4 =>
      rename_i u vs2 x ds2
      cases h4 with
      | cons _ _ => simp only [List.length_cons] at l1; omega
      | nil =>
        have et : t = .giv x := by
          rcases t_word wf e (by rw [e]; exact pc2 x (by decide +kernel) (by decide)) with ⟨y, rfl, _, h⟩ | ⟨y, rfl, h, _⟩ | ⟨y, rfl, h, _⟩ | ⟨c, y, rfl, h, _⟩ | ⟨y, y', rfl, h, _⟩ | ⟨y, y', rfl, h, _⟩ | ⟨rfl, h, _⟩
          · cases h; rfl
          all_goals exact absurd h (by decide)
        subst et
        have gi : ∀ n : Int, giv (.int n) ks = if 0 ≤ n ∧ n < (ks.length : Nat) then ks[n.toNat]? else none := fun _ => rfl
        refine ⟨_, rfl, .inl (.inr (.inl ⟨a, _, 1, u, rfl, rfl, hT, at1 _ _ _, u, "int", x, rfl, hx, rfl, _, rfl, ?_⟩))⟩
        cases hx with
        | int n =>
          refine iteT' (by simp [isiN, tyN]) ⟨_, rfl, .inl (.inr (.inl ⟨a, _, 1, _, rfl, rfl, hT, at1 _ _ _, _, "bool", _, rfl, .int n, rfl, _, rfl, ?_⟩))⟩
          refine iteT' (by simp [isiN, tyN]) ⟨_, rfl, .inl (.inr (.inl ⟨a, _, 1, _, rfl, rfl, hT, at1 _ _ _, _, _, rfl, rfl, _, rfl, ?_⟩))⟩
          obtain ⟨us, eg, hU⟩ := hG.same s1
          have ul := hU.length
          rw [List.length_map] at ul
          refine ite2 (fun c => ?_) (fun c => ?_)
          · have c0 := of_decide_eq_true c
            refine ⟨_, rfl, _, _, rfl, .inl ⟨_, .of eg, rfl⟩, _, _, rfl, rfl, _, rfl, ?_⟩
            rw [ul]
            by_cases c1 : n < (ks.length : Nat)
            · obtain ⟨j, rfl⟩ : ∃ j : Nat, n = (j : Nat) := ⟨n.toNat, by omega⟩
              have jl : j < ks.length := by omega
              have ju : j < us.length := by omega
              have ek : giv (.int (j : Nat)) ks = some ks[j] := by rw [gi, if_pos ⟨c0, c1⟩, Int.toNat_natCast, List.getElem?_eq_getElem jl]
              have dk : Dq K H1 us[j] ks[j].dat := by
                obtain ⟨d, e1, d1⟩ := hU.get (List.getElem?_eq_getElem ju)
                rw [List.getElem?_map, List.getElem?_eq_getElem jl] at e1
                cases e1
                exact d1
              exact iteT' (by simp [c1]) ⟨_, rfl, _, rfl, .inl (.inr (.inl ⟨a, _, 1, _, rfl, rfl, hT, at1 _ _ _, ixLi (.of eg) (List.getElem?_eq_getElem ju) (q2 _ ek _ _ s1 dk)⟩))⟩
            · exact iteF' (by simp [c1]) (q1 (by show giv _ _ = none; rw [gi, if_neg fun z => c1 z.2]) _ s1)
          · have c0 : ¬ 0 ≤ n := of_decide_eq_false (Bool.eq_false_iff.mpr c)
            exact ⟨_, rfl, iteF' rfl (q1 (by show giv _ _ = none; rw [gi, if_neg fun z => c0 z.1]) _ s1)⟩
        | bl b => exact iteT' (by simp [isiN, tyN]) ⟨_, rfl, .inl (.inr (.inl ⟨a, _, 1, _, rfl, rfl, hT, at1 _ _ _, _, "bool", _, rfl, .bl b, rfl, _, rfl, iteF' (by simp [isiN, tyN]) (q1 rfl _ s1)⟩))⟩
        | non => exact iteF' (by simp [isiN, tyN]) (q1 rfl _ s1)
        | str _ => exact iteF' (by simp [isiN, tyN]) (q1 rfl _ s1)
        | tup _ _ => exact iteF' (by simp [isiN, tyN]) (q1 rfl _ s1)
        | lst _ _ => exact iteF' (by simp [isiN, tyN]) (q1 rfl _ s1)
        | dct _ => exact iteF' (by simp [isiN, tyN]) (q1 rfl _ s1)
  refine in2_q (i := 0) (n := 2) rfl hT fun H2 s2 => ?_
  replace hT := KB.Same.tup s2 hT
  replace hA := hA.same s2
  refine ite2 (fun cf => ?_) (fun cf => ?_)
  · rw [Bool.and_eq_true, decide_eq_true_eq, decide_eq_true_eq] at cf
    obtain ⟨zm, l1⟩ := cf
    have s12 := s1.trans s2
    cases hA with
    | nil => cases l1
    | cons hx h4 =>
      rename_i u vs2 x ds2
      cases h4 with
      | cons _ _ => simp only [List.length_cons] at l1; omega
      | nil =>
        obtain ⟨t', b, rfl, ez, ej, fw', wf'⟩ : ∃ (t' : Trm) (b : Bool), x = t'.dat ∧ z = (if b = true then "second" else "first") ∧ t.jd ks = (t'.jd ks).bind (half b) ∧ t'.Few ks ∧ t'.wf := by
          rcases pair_mem zm with rfl | rfl
          · rcases t_word wf e (by rw [e]; exact pc2 x (by decide +kernel) (by decide)) with ⟨y, rfl, h, _⟩ | ⟨y, rfl, _, h⟩ | ⟨y, rfl, h, _⟩ | ⟨c, y, rfl, h, _⟩ | ⟨y, y', rfl, h, _⟩ | ⟨y, y', rfl, h, _⟩ | ⟨rfl, h, _⟩
            · exact absurd h (by decide)
            · cases h; exact ⟨y, false, rfl, rfl, rfl, few.1, wf⟩
            all_goals exact absurd h (by decide)
          · rcases t_word wf e (by rw [e]; exact pc2 x (by decide +kernel) (by decide)) with ⟨y, rfl, h, _⟩ | ⟨y, rfl, h, _⟩ | ⟨y, rfl, _, h⟩ | ⟨c, y, rfl, h, _⟩ | ⟨y, y', rfl, h, _⟩ | ⟨y, y', rfl, h, _⟩ | ⟨rfl, h, _⟩
            · exact absurd h (by decide)
            · exact absurd h (by decide)
            · cases h; exact ⟨y, true, rfl, rfl, rfl, few.1, wf⟩
            all_goals exact absurd h (by decide)
        simp only [PyData.depth, PyData.depthAll] at dN
        refine ⟨_, rfl, .inl (.inr (.inl ⟨a, _, 1, u, rfl, rfl, hT, at1 _ _ _, _, rfl, u, g, t', ks, rfl, hx, wf', fw', by omega, by omega, hG.same s12, by omega, fun hn H3 s3 => ?_, fun k hk kv H3 s3 dk => ?_⟩))⟩
        · exact ⟨_, rfl, rfl, _, rfl, iteT' rfl (q1 (by rw [ej, hn]; rfl) _ (s12.trans s3))⟩
        · have nn : ∀ h, q1 = h → True := fun _ _ => trivial
          have s13 := s12.trans s3
          rcases kd_split k dk with ⟨b0, n, rfl, rfl, hK⟩ | ⟨b0, rfl, rfl, hK⟩ | ⟨mk, ww, x1, y1, b0, v1, v2, rfl, M, hm, rfl, hK, d1, d2⟩
          · exact ⟨_, rfl, rfl, _, rfl, iteF' rfl ⟨_, rfl, ix0_seq (.inr hK) (.inl ⟨rfl, _, rfl, iteT' (by decide) (q1 (by rw [ej, hk]; rfl) _ s13)⟩)⟩⟩
          · exact ⟨_, rfl, rfl, _, rfl, iteF' rfl ⟨_, rfl, ix0_seq (.inr hK) (.inl ⟨rfl, _, rfl, iteT' (by decide) (q1 (by rw [ej, hk]; rfl) _ s13)⟩)⟩⟩
          · rcases hm with ⟨rfl, rfl⟩ | ⟨rfl, rfl⟩
            · refine ⟨_, rfl, rfl, _, rfl, iteF' rfl ⟨_, rfl, ix0_seq (.inr hK) (.inl ⟨rfl, _, rfl, iteF' (by decide) ?_⟩)⟩⟩
              refine ⟨_, rfl, _, rfl, ix0_seq (.inr (KB.Same.tup s3 hT)) (.inl ⟨rfl, .inr ⟨_, rfl, .inl ⟨_, _, rfl, rfl, ?_⟩⟩⟩)⟩
              cases b with
              | false =>
                have e0 : (if decide (V.str z = V.str "second") = true then (1 : Int) else 0) = 0 := by rw [ez]; rw [decide_eq_false (by decide)]; rfl
                dsimp only
                rw [e0]
                exact .inl (.inr (.inl ⟨b0, _, 1, v1, rfl, rfl, hK, at1 _ _ _, q2 x1 (by rw [ej, hk]; rfl) _ _ s13 d1⟩))
              | true =>
                have e0 : (if decide (V.str z = V.str "second") = true then (1 : Int) else 0) = 1 := by rw [ez]; rw [decide_eq_true (by rfl)]; rfl
                dsimp only
                rw [e0]
                exact .inl (.inr (.inl ⟨b0, _, 2, v2, rfl, rfl, hK, at2 _ _ _ _, q2 y1 (by rw [ej, hk]; rfl) _ _ s13 d2⟩))
            · exact ⟨_, rfl, rfl, _, rfl, iteF' rfl ⟨_, rfl, ix0_seq (.inr hK) (.inl ⟨rfl, _, rfl, iteT' (by decide) (q1 (by rw [ej, hk]; rfl) _ s13)⟩)⟩⟩
  refine n3_q (i := 0) (n := 3) rfl hT fun H3 s3 => ?_
  replace hT := KB.Same.tup s3 hT
  replace hA := hA.same s3
  refine ite2 (fun c3 => ?_) (fun c3 => ?_)
  · refine none_q ?_ _ ((s1.trans s2).trans s3)
    cases hp : pcB (.tuple (.str z :: r)) with
    | false => rfl
    | true =>
      exfalso
      rw [Bool.or_eq_true, Bool.not_eq_true', Bool.not_eq_true', decide_eq_false_iff_not, decide_eq_false_iff_not] at c3
      rw [Bool.and_eq_true, decide_eq_true_eq, decide_eq_true_eq] at cg cf
      rcases t_word wf e (by rw [e]; exact hp) with ⟨y, rfl, rfl, rfl⟩ | ⟨y, rfl, rfl, rfl⟩ | ⟨y, rfl, rfl, rfl⟩ | ⟨c, y, rfl, rfl, rfl⟩ | ⟨y, y', rfl, rfl, rfl⟩ | ⟨y, y', rfl, rfl, rfl⟩ | ⟨rfl, rfl, rfl⟩
      · exact cg ⟨rfl, by simpa using hlen⟩
      · exact cf ⟨by simp, by simpa using hlen⟩
      · exact cf ⟨by simp, by simpa using hlen⟩
      · exact c3.elim (fun h => h (by simpa using hlen)) (fun h => h (by simp))
      · exact c3.elim (fun h => h (by simpa using hlen)) (fun h => h (by simp))
      · exact c3.elim (fun h => h (by simpa using hlen)) (fun h => h (by simp))
      · exact hu rfl
  have s13 := (s1.trans s2).trans s3
  have c3' : xs.length + 1 = 3 ∧ z ∈ [("make" : Str), "do", "both"] := by
    by_cases h1 : xs.length + 1 = 3
    · by_cases h2 : z ∈ [("make" : Str), "do", "both"]
      · exact ⟨h1, h2⟩
      · exact absurd (by rw [decide_eq_false h2]; simp) c3
    · exact absurd (by rw [decide_eq_false h1]; simp) c3
  obtain ⟨l3, zm⟩ := c3'
  cases hA with
  | nil => cases l3
  | cons hx h4 =>
  rename_i u1 vs2 x ds2
  cases h4 with
  | nil => cases l3
  | cons hy h6 =>
  rename_i u2 vs3 y ds3
  cases h6 with
  | cons _ _ => simp only [List.length_cons] at l3; omega
  | nil =>
  simp only [PyData.depth, PyData.depthAll] at dN
  have i1 : ∀ {Q : VK} {G : Hp}, Same H3 G → Q u1 G → rIxB K w (.ref a) (.int 1) G Q := fun sg q => .inl (.inr (.inl ⟨a, _, 1, u1, rfl, rfl, KB.Same.tup sg hT, at1 _ _ _, q⟩))
  have i2 : ∀ {Q : VK} {G : Hp}, Same H3 G → Q u2 G → rIxB K w (.ref a) (.int 2) G Q := fun sg q => .inl (.inr (.inl ⟨a, _, 2, u2, rfl, rfl, KB.Same.tup sg hT, at2 _ _ _ _, q⟩))
  refine ⟨_, rfl, ix0_seq (.inr hT) (.inl ⟨rfl, _, rfl, ?_⟩)⟩
  by_cases cm : z = "make"
  · subst cm
    refine iteT' (by simp) ⟨_, rfl, i1 (Same.refl _) ⟨u1, x, rfl, hx, by omega, fun H4 s4 => ⟨_, rfl, ?_⟩⟩⟩
    cases hk : isKd x with
    | false =>
      refine iteT' rfl (none_q ?_ _ (s13.trans s4))
      simp only [pcB, hdK, hk]
      simp
    | true =>
      refine iteF' rfl ?_
      obtain ⟨c, t', et, rfl, rfl⟩ : ∃ c t', t = .mk c t' ∧ x = c.dat ∧ y = t'.dat := by
        rcases t_word wf e (by rw [e]; exact pcm hk) with ⟨y, rfl, h, _⟩ | ⟨y, rfl, h, _⟩ | ⟨y, rfl, h, _⟩ | ⟨c, y, rfl, _, h⟩ | ⟨y, y', rfl, h, _⟩ | ⟨y, y', rfl, h, _⟩ | ⟨rfl, h, _⟩
        · exact absurd h (by decide)
        · exact absurd h (by decide)
        · exact absurd h (by decide)
        · injection h with h1 h2
          injection h2 with h2 _
          exact ⟨c, y, rfl, h1, h2⟩
        all_goals exact absurd h (by decide)
      subst et
      obtain ⟨us, eg, hU⟩ := hG.same (s13.trans s4)
      have ul := hU.length
      rw [List.length_map] at ul
      refine ⟨_, rfl, i2 s4 ⟨_, rfl, _, rfl, i1 s4 ⟨(by show 1 ≤ sizeLine; decide), fun p hp => ?_⟩⟩⟩
      have s5 := same_new hp (.lst [u1])
      refine .inr (.inr (.inl ⟨g, p, _, _, rfl, rfl, s5 _ _ eg, upd_same, fits (by rw [ul]; simp only [List.length_cons, List.length_nil]; omega), fun l hl => ?_⟩))
      have s6 := s5.trans (same_new hl (.lst (us ++ [u1])))
      have s46 := s4.trans s6
      refine ⟨u2, l, t', ks ++ [c], rfl, hy.same s46, wf.2, few.1, by omega, by omega, ⟨_, upd_same, ?_⟩, by rw [List.length_append, List.length_singleton]; omega, fun hn H7 s7 => ?_, fun k hkk kv H7 s7 dk => ?_⟩
      · rw [List.map_append]
        exact (hU.same s6).append (.cons (hx.same s46) .nil)
      · refine ⟨_, rfl, i1 (s46.trans s7) ⟨_, rfl, (by show 3 ≤ sizeLine; decide), fun tp htp => ⟨(by show 2 ≤ sizeLine; decide), fun lp hlp => ?_⟩⟩⟩
        have s8 := (same_new htp (.tup [.str "from", u1, .non])).trans (same_new hlp (.lst [.non, .ref tp]))
        exact ⟨_, rfl, rfl, .inr ⟨_, rfl, .inl (.inl ⟨lp, _, 0, .non, rfl, rfl, .of upd_same, at0 _ _, q1 (by simp [Trm.jd, hn]) _ ((s13.trans s46).trans (s7.trans s8))⟩)⟩⟩
      · refine ⟨_, rfl, i1 (s46.trans s7) ⟨_, rfl, (by show 3 ≤ sizeLine; decide), fun tp htp => ⟨(by show 2 ≤ sizeLine; decide), fun lp hlp => ?_⟩⟩⟩
        have s8a := same_new htp (.tup [.str "from", u1, kv])
        have s8b := same_new hlp (.lst [.non, .ref tp])
        have s8 := s8a.trans s8b
        have nk : decide (kv = V.non) = false := decide_eq_false (by
          rcases kd_split k dk with ⟨_, _, _, rfl, _⟩ | ⟨_, _, rfl, _⟩ | ⟨_, _, _, _, _, _, _, _, _, _, rfl, _⟩ <;> exact fun h => by cases h)
        refine ⟨_, rfl, rfl, .inr ⟨_, rfl, ?_⟩⟩
        rw [nk]
        exact .inl (.inl ⟨lp, _, 1, .ref tp, rfl, rfl, .of upd_same, at1 _ _ _, q2 (.f c k) (by simp [Trm.jd, hkk]) _ _ ((s13.trans s46).trans (s7.trans s8)) (.tup (.of (s8b _ _ upd_same)) (.cons (.str _) (.cons (hx.same ((s46.trans s7).trans s8)) (.cons (dk.same s8) .nil))))⟩)
  refine iteF' (by simpa using cm) ?_
  obtain ⟨t1, t2, rfl, rfl, wf1, wf2, fw1, fw2, dp1, dp2, ed, eb⟩ : ∃ t1 t2 : Trm, x = t1.dat ∧ y = t2.dat ∧ t1.wf ∧ t2.wf ∧ t1.Few ks ∧ t2.Few ks ∧ (∀ k, t1.jd ks = some k → k.deep ≤ 150) ∧ (∀ k, t2.jd ks = some k → k.deep ≤ 150) ∧
      (z = "do" → t.jd ks = (t1.jd ks).bind fun f => (t2.jd ks).bind fun x => hand f x) ∧ (z = "both" → t.jd ks = (t1.jd ks).bind fun x => (t2.jd ks).map (Kd.p x)) := by
    have zm2 : z = "do" ∨ z = "both" := by
      rcases List.mem_cons.mp zm with h | h
      · exact absurd h cm
      · exact pair_mem h
    have lz : lenOf z = some 3 := by rcases zm2 with rfl | rfl <;> decide +kernel
    rcases t_word wf e (by rw [e]; exact pc3 x y lz cm) with ⟨y, rfl, rfl, _⟩ | ⟨y, rfl, rfl, _⟩ | ⟨y, rfl, rfl, _⟩ | ⟨c, y, rfl, rfl, _⟩ | ⟨y, y', rfl, rfl, h⟩ | ⟨y, y', rfl, rfl, h⟩ | ⟨rfl, rfl, _⟩
    · rcases zm2 with h | h <;> exact absurd h (by decide)
    · rcases zm2 with h | h <;> exact absurd h (by decide)
    · rcases zm2 with h | h <;> exact absurd h (by decide)
    · rcases zm2 with h | h <;> exact absurd h (by decide)
    · injection h with h1 h2
      injection h2 with h2 _
      exact ⟨y, y', h1, h2, wf.1, wf.2, few.1.1, few.1.2, few.2.1, few.2.2.1, fun _ => rfl, fun h => absurd h (by decide)⟩
    · injection h with h1 h2
      injection h2 with h2 _
      exact ⟨y, y', h1, h2, wf.1, wf.2, few.1.1, few.1.2, few.2.1, few.2.2.1, fun h => absurd h (by decide), fun _ => rfl⟩
    · rcases zm2 with h | h <;> exact absurd h (by decide)
  have zm2 : z = "do" ∨ z = "both" := by
    rcases List.mem_cons.mp zm with h | h
    · exact absurd h cm
    · exact pair_mem h
  have jn : (t1.jd ks = none ∨ t2.jd ks = none) → t.jd ks = none := fun h => by
    rcases zm2 with hz | hz
    · rw [ed hz]; rcases h with h | h <;> simp [h]
    · rw [eb hz]; rcases h with h | h <;> simp [h]
  refine ⟨_, rfl, i1 (Same.refl _) ⟨_, rfl, u1, g, t1, ks, rfl, hx, wf1, fw1, by omega, by omega, hG.same s13, by omega, fun hn H4 s4 => ?_, fun k1 hk1 v1 H4 s4 dk1 => ?_⟩⟩
  · refine ⟨_, rfl, i2 s4 ⟨_, rfl, u2, g, t2, ks, rfl, hy.same s4, wf2, fw2, by omega, by omega, hG.same (s13.trans s4), by omega, fun hn2 H5 s5 => ?_, fun k2 hk2 v2 H5 s5 dk2 => ?_⟩⟩
    · exact ⟨_, rfl, rfl, _, rfl, iteT' rfl (iteT' rfl (q1 (jn (.inl hn)) _ (s13.trans (s4.trans s5))))⟩
    · exact ⟨_, rfl, rfl, _, rfl, iteT' rfl (iteT' rfl (q1 (jn (.inl hn)) _ (s13.trans (s4.trans s5))))⟩
  have nk1 : decide (v1 = V.non) = false := decide_eq_false (by
    rcases kd_split k1 dk1 with ⟨_, _, _, rfl, _⟩ | ⟨_, _, rfl, _⟩ | ⟨_, _, _, _, _, _, _, _, _, _, rfl, _⟩ <;> exact fun h => by cases h)
  refine ⟨_, rfl, i2 s4 ⟨_, rfl, u2, g, t2, ks, rfl, hy.same s4, wf2, fw2, by omega, by omega, hG.same (s13.trans s4), by omega, fun hn2 H5 s5 => ?_, fun k2 hk2 v2 H5 s5 dk2 => ?_⟩⟩
  · exact ⟨_, rfl, rfl, _, rfl, iteF' nk1 ⟨_, rfl, rfl, _, rfl, iteT' rfl (q1 (jn (.inr hn2)) _ (s13.trans (s4.trans s5)))⟩⟩
  have nk2 : decide (v2 = V.non) = false := decide_eq_false (by
    rcases kd_split k2 dk2 with ⟨_, _, _, rfl, _⟩ | ⟨_, _, rfl, _⟩ | ⟨_, _, _, _, _, _, _, _, _, _, rfl, _⟩ <;> exact fun h => by cases h)
  have s15 := s13.trans (s4.trans s5)
  have dk1' := dk1.same s5
  refine ⟨_, rfl, rfl, _, rfl, iteF' nk1 ⟨_, rfl, rfl, _, rfl, iteF' nk2 ?_⟩⟩
  refine ⟨_, rfl, ix0_seq (.inr (KB.Same.tup (s4.trans s5) hT)) (.inl ⟨rfl, _, rfl, ?_⟩)⟩
  rcases zm2 with rfl | rfl
  · refine iteF' (by decide) ?_
    have ej : t.jd ks = hand k1 k2 := by rw [ed rfl, hk1, hk2]; rfl
    rcases kd_split k1 dk1' with ⟨b0, n, rfl, rfl, hK⟩ | ⟨b0, rfl, rfl, hK⟩ | ⟨mk, ww, x1, y1, b0, w1, w2, rfl, M, hm, rfl, hK, c1, c2⟩
    · refine ⟨_, rfl, _, rfl, .inl (.inr (.inl ⟨b0, _, -1, _, rfl, rfl, hK, rfl, (by show 2 ≤ sizeLine; decide), fun l hl => ?_⟩))⟩
      have s6 := same_new hl (.lst [.non, .int (n : Nat)])
      refine ⟨_, rfl, ix0_seq (.inr (KB.Same.tup s6 hK)) (.inl ⟨rfl, _, rfl, iteF' (by decide) (.inr ⟨_, rfl, ?_⟩)⟩)⟩
      exact .inl (.inl ⟨l, _, 0, .non, rfl, rfl, .of upd_same, at0 _ _, q1 (by rw [ej]; rfl) _ (s15.trans s6)⟩)
    · refine ⟨_, rfl, _, rfl, .inl (.inr (.inl ⟨b0, _, -1, _, rfl, rfl, hK, rfl, (by show 2 ≤ sizeLine; decide), fun l hl => ?_⟩))⟩
      have s6 := same_new hl (.lst [.non, .str "unit"])
      refine ⟨_, rfl, ix0_seq (.inr (KB.Same.tup s6 hK)) (.inl ⟨rfl, _, rfl, iteF' (by decide) (.inr ⟨_, rfl, ?_⟩)⟩)⟩
      exact .inl (.inl ⟨l, _, 0, .non, rfl, rfl, .of upd_same, at0 _ _, q1 (by rw [ej]; rfl) _ (s15.trans s6)⟩)
    · refine ⟨_, rfl, _, rfl, .inl (.inr (.inl ⟨b0, _, -1, _, rfl, rfl, hK, rfl, (by show 2 ≤ sizeLine; decide), fun l hl => ?_⟩))⟩
      have s6 := same_new hl (.lst [.non, w2])
      refine ⟨_, rfl, ix0_seq (.inr (KB.Same.tup s6 hK)) (.inl ⟨rfl, _, rfl, ?_⟩)⟩
      rcases hm with ⟨rfl, rfl⟩ | ⟨rfl, rfl⟩
      · refine iteF' (by decide) (.inr ⟨_, rfl, ?_⟩)
        exact .inl (.inl ⟨l, _, 0, .non, rfl, rfl, .of upd_same, at0 _ _, q1 (by rw [ej]; rfl) _ (s15.trans s6)⟩)
      · have dx1 : x1.dat.depth ≤ 180 := by
          have := dp1 _ hk1
          simp only [Kd.deep] at this
          rw [Kd.dat_depth]
          omega
        refine iteT' (by decide) ⟨_, rfl, .inl (.inr (.inl ⟨b0, _, 1, w1, rfl, rfl, KB.Same.tup s6 hK, at1 _ _ _, _, rfl, ?_⟩))⟩
        refine eq_kd (c1.same s6) (dk2.same s6) dx1 (.inr ⟨_, rfl, ?_⟩)
        by_cases c : x1 = k2
        · rw [decide_eq_true c]
          exact .inl (.inl ⟨l, _, 1, w2, rfl, rfl, .of upd_same, at1 _ _ _, q2 y1 (by rw [ej]; simp [hand, c]) _ _ (s15.trans s6) (c2.same s6)⟩)
        · rw [decide_eq_false c]
          exact .inl (.inl ⟨l, _, 0, .non, rfl, rfl, .of upd_same, at0 _ _, q1 (by rw [ej]; simp [hand, c]) _ (s15.trans s6)⟩)
  · refine iteT' (by decide) ⟨_, rfl, _, rfl, (by show 3 ≤ sizeLine; decide), fun tp htp => ?_⟩
    have s6 := same_new htp (.tup [.str "both", v1, v2])
    exact q2 (.p k1 k2) (by rw [eb rfl, hk1, hk2]; rfl) _ _ (s15.trans s6) (.tup (.of upd_same) (.cons (.str _) (.cons (dk1'.same s6) (.cons (dk2.same s6) .nil))))
theorem ok_jd (A : At K mg "_law_judged" s_law_judged) (T : Txt K mg w CN CT) (C_law_good_kind : Cal P w K mg base CX0 100 "_law_good_kind" ["thing"] (spGk K 100)) : ∀ N : Nat, Cal P w K mg base CX0 (N + 101) "_law_judged" ["term", "given"] (spJd K N)
  | 0 => cal_vac A (fun f fd F => F.binds (ps := ["term", "given"]) (fun _ _ _ _ _ _ us hl => match us, hl with | [_, _], _ => rfl)) fun vs H Q E ⟨v, g, t, ks, _, _, _, _, h, _⟩ => absurd h (Nat.not_lt_zero _)
  | N + 1 => ok_jd1 A T C_law_good_kind (ok_jd A T C_law_good_kind N)
end

/-! ## what is told, or why not; what is due -/
structure TxE (K : PySem.W.Frag) (mg : Str → Option Value) (CN CE CO CW : Addr) : Prop where
  z_isinstance : mg "isinstance" = none
  g_NoTerm : mg "NoTerm" = some (.ref CE)
  g_NoKind : mg "NoKind" = some (.ref CN)
  g_NoWorth : mg "NoWorth" = some (.ref CO)
  g_SwapError : mg "SwapError" = some (.ref CW)
  x0 : ExcC K CE
  x1 : ExcC K CN
  kk : kitsB K [CE, CN, CO] 2 3 = true
  sw : exmB K [CE, CN] 2 (.ref CW) = true
/-- one of the two -/
def Oth (CE CN : Addr) (D : Addr) : Prop := D = CE ∨ D = CN
theorem TxE.x {K : PySem.W.Frag} {mg : Str → Option Value} {CN CE CO CW : Addr} (E : TxE K mg CN CE CO CW) (D : Addr) (h : Oth CE CN D) : ExcC K D := by
  rcases h with rfl | rfl
  · exact E.x0
  · exact E.x1
def spTold51 (K : PySem.W.Frag) : Sp := fun vs H Q _ => ∃ v u d e, vs = [v, u] ∧ Dq K H v d ∧ Dq K H u e ∧ sz d ≤ 1000000 ∧ sz e ≤ 1000000 ∧ (isKs e = false → ∀ H', Same H H' → Q (.str "kind") H') ∧
  ∀ (ks : List Kd), e = .list (ks.map Kd.dat) → (∀ k ∈ ks, k.ok) → ∃ t : Trm, t.dat = d ∧ t.wf ∧ t.Few ks ∧ (∃ g, u = .ref g ∧ KsAt K H g ks) ∧ (t.jd ks = none → ∀ H', Same H H' → Q (.str "term") H') ∧ ∀ k, t.jd ks = some k → ∀ kv H', Same H H' → Dq K H' kv k.dat → Q kv H'
def spDue51 (K : PySem.W.Frag) : Sp := fun vs H Q _ => ∃ (v : V) (g : Addr) (t : Trm) (ks : List Kd), vs = [v, .ref g] ∧ Dq K H v t.dat ∧ t.wf ∧ t.Few ks ∧ t.dat.depth < 100 ∧ KsAt K H g ks ∧ ks.length ≤ 1000 ∧
  (t.jd ks = none → ∀ H', Same H H' → Q (.str "term") H') ∧ ∀ k, t.jd ks = some k → ∀ kv H', Same H H' → Dq K H' kv k.dat → Q kv H'
abbrev s_law_told : Stmt := top 43
theorem sc_law_told : FnScope ["term", "given", "kind", "e", "words"] ["term", "given"] (defScope s_law_told) := ⟨rfl, rfl, rfl, by decide +kernel, rfl, by decide +kernel, by decide +kernel⟩
abbrev s_law_due : Stmt := top 44
theorem sc_law_due : FnScope ["term", "given", "kind"] ["term", "given"] (defScope s_law_due) := ⟨rfl, rfl, rfl, by decide +kernel, rfl, by decide +kernel, by decide +kernel⟩
def mk3 (i : Nat) : List Bool := [decide (i = 0), decide (i = 1), decide (i = 2)]
section
variable {P : Program} {w : World} {K : PySem.W.Frag} {mg : Str → Option Value} {base : Heap} {CN CT CE CO CW : Addr}
theorem ok_told (A : At K mg "_law_told" s_law_told) (T : TxE K mg CN CE CO CW) (C_term_kind : Cal P w K mg base (L2.CX P w) 6 "term_kind" ["term", "given"] (spTk K CN CE)) : Cal P w K mg base CX0 7 "_law_told" ["term", "given"] (spTold51 K) := by
  obtain ⟨f, fd, F, m⟩ := A
  have gS := T.g_SwapError
  refine ⟨f, fd, F.ok sc_law_told (fun vs H Q E h => ?_) (fun cdv A outer s H vs Q E hr h => ?_), F.binds (ps := ["term", "given"]) (fun _ _ _ _ _ _ us hl => match us, hl with | [_, _], _ => rfl), F.kp, m⟩
  · obtain ⟨v, u, d, e, rfl, _⟩ := h; rfl
  obtain ⟨v, u, d, e, rfl, hd, he, zd, ze, q1, q2⟩ := h
  refine ⟨_, (pss_cons (ps_try_hits (i := 3) (S := Oth CE CN) (c := .ref CW) rfl rfl sc_law_told.nd rfl rfl ⟨by rfl, by decide, .inl gS⟩ (fun W pn xe tk _ => (pss_one (ps_set (i := 2) sc_law_told.nd rfl (by first | exact Or.inl rfl | exact Or.inr rfl) (pe_calS C_term_kind (hr.mono (by first | decide | omega)) (fun z => passAt tk z) (pa_cons (pv 0) (pa_cons (pv 1) pa_nil))))))
  (fun D hD a oe pn hz hf => (pss_cons (ps_set (i := 4) sc_law_told.nd rfl (by first | exact Or.inl rfl | exact Or.inr rfl) (pe_lst (pa_cons (pe_callB (call_caught (T.x D hD) hz hf) (by rfl) T.z_isinstance (by decide +kernel) (pa_cons (pv 3) (pa_cons (pe_glob (v := V.ref CE) (by rfl) T.g_NoTerm (by exact rfl)) pa_nil))) (pa_cons (pe_callB (call_caught (T.x D hD) hz hf) (by rfl) T.z_isinstance (by decide +kernel) (pa_cons (pv 3) (pa_cons (pe_glob (v := V.ref CN) (by rfl) T.g_NoKind (by exact rfl)) pa_nil))) (pa_cons (pe_callB (call_caught (T.x D hD) hz hf) (by rfl) T.z_isinstance (by decide +kernel) (pa_cons (pv 3) (pa_cons (pe_glob (v := V.ref CO) (by rfl) T.g_NoWorth (by exact rfl)) pa_nil))) pa_nil)))))
  (pss_cons (ps_if (pt_cmpR op_ne (pe_bmK (K := K) rfl PySem.F.plainAttrs_list PySem.F.slot_list_count PySem.F.type_list_count (r := rCntB K) mt_lcountB (pv 4) (pa_cons pe_bl pa_nil)) pe_int (nomark _))
   (pss_one (ps_ret pe_str))
   pss_nil)
  (pss_one (ps_ret (pe_ix ix_BS (pe_lst (pa_cons pe_str (pa_cons pe_str (pa_cons pe_str pa_nil)))) (pe_bmK (K := K) rfl PySem.F.plainAttrs_list PySem.F.slot_list_index PySem.F.type_list_index (r := rIndex K) mt_index (pv 4) (pa_cons pe_bl pa_nil)) (fun _ _ => rfl))))))))
  (pss_one (ps_ret (pv 2)))), ?_⟩
  refine ⟨_, rfl, _, rfl, v, u, d, e, rfl, hd, he, zd, ze, fun hk H1 t1 => ?_, fun ks ed ok => ?_⟩
  · refine ⟨CN, .inr rfl, rfl, rfl, exm_ok T.sw 1 (by decide), fun a ha => ?_⟩
    refine ⟨_, rfl, .inl ⟨.ref CE, .ref CE, false, rfl, fun u h => h, kits_ok T.kk 1 0 (by decide) (by decide), _, rfl, .inl ⟨.ref CN, .ref CN, true, rfl, fun u h => h, kits_ok T.kk 1 1 (by decide) (by decide), _, rfl, .inl ⟨.ref CO, .ref CO, false, rfl, fun u h => h, kits_ok T.kk 1 2 (by decide) (by decide), (by show 3 ≤ sizeLine; decide), fun l hl => ?_⟩⟩⟩⟩
    refine ⟨_, rfl, .inl ⟨rfl, _, .of upd_same⟩, l, mk3 1, true, rfl, rfl, .of upd_same, rfl, _, rfl, iteF' (by decide) ?_⟩
    refine ⟨(by show 3 ≤ sizeLine; decide), fun l2 hl2 => ?_⟩
    have el := same_new hl2 (.lst [.str "term", .str "kind", .str "other"]) _ _ (upd_same (H := H1) (a := l) (o := .lst ((mk3 1).map V.bl)))
    have no : ∀ (m : Nat) (z' : V), m < 1 → ((mk3 1).map V.bl)[m]? = some z' → eqV z' (.bl true) = false := fun m z' hm hz => by
      match m, hm with
      | 0, _ => cases hz; rfl
    refine ⟨_, rfl, .inl ⟨rfl, _, .of el⟩, l, (mk3 1).map V.bl, .bl true, 1, .bl true, rfl, rfl, .of el, rfl, rfl, rfl, rfl, no, .inl (.inl ⟨l2, _, _, .str "kind", rfl, rfl, .of upd_same, rfl, ?_⟩)⟩
    exact q1 hk _ (t1.trans ((same_new hl _).trans (same_new hl2 _)))
  · obtain ⟨t, et, wf, few, hg, r1, r2⟩ := q2 ks ed ok
    refine ⟨t, et, wf, few, hg, fun hn H1 t1 => ?_, fun k hk kv H1 t1 dk => ?_⟩
    · refine ⟨CE, .inl rfl, rfl, rfl, exm_ok T.sw 0 (by decide), fun a ha => ?_⟩
      refine ⟨_, rfl, .inl ⟨.ref CE, .ref CE, true, rfl, fun u h => h, kits_ok T.kk 0 0 (by decide) (by decide), _, rfl, .inl ⟨.ref CN, .ref CN, false, rfl, fun u h => h, kits_ok T.kk 0 1 (by decide) (by decide), _, rfl, .inl ⟨.ref CO, .ref CO, false, rfl, fun u h => h, kits_ok T.kk 0 2 (by decide) (by decide), (by show 3 ≤ sizeLine; decide), fun l hl => ?_⟩⟩⟩⟩
      refine ⟨_, rfl, .inl ⟨rfl, _, .of upd_same⟩, l, mk3 0, true, rfl, rfl, .of upd_same, rfl, _, rfl, iteF' (by decide) ?_⟩
      refine ⟨(by show 3 ≤ sizeLine; decide), fun l2 hl2 => ?_⟩
      have el := same_new hl2 (.lst [.str "term", .str "kind", .str "other"]) _ _ (upd_same (H := H1) (a := l) (o := .lst ((mk3 0).map V.bl)))
      have no : ∀ (m : Nat) (z' : V), m < 0 → ((mk3 0).map V.bl)[m]? = some z' → eqV z' (.bl true) = false := fun m z' hm hz => by
        exact absurd hm (Nat.not_lt_zero _)
      refine ⟨_, rfl, .inl ⟨rfl, _, .of el⟩, l, (mk3 0).map V.bl, .bl true, 0, .bl true, rfl, rfl, .of el, rfl, rfl, rfl, rfl, no, .inl (.inl ⟨l2, _, _, .str "term", rfl, rfl, .of upd_same, rfl, ?_⟩)⟩
      exact r1 hn _ (t1.trans ((same_new hl _).trans (same_new hl2 _)))
    · exact ⟨_, rfl, r2 k hk kv H1 t1 dk⟩
theorem ok_due (A : At K mg "_law_due" s_law_due) (T : Txt K mg w CN CT) (C_law_judged : Cal P w K mg base CX0 201 "_law_judged" ["term", "given"] (spJd K 100)) : Cal P w K mg base CX0 202 "_law_due" ["term", "given"] (spDue51 K) := by
  obtain ⟨f, fd, F, m⟩ := A
  refine ⟨f, fd, F.ok sc_law_due (fun vs H Q E h => ?_) (fun cdv A outer s H vs Q E hr h => ?_), F.binds (ps := ["term", "given"]) (fun _ _ _ _ _ _ us hl => match us, hl with | [_, _], _ => rfl), F.kp, m⟩
  · obtain ⟨v, g, t, ks, rfl, _⟩ := h; rfl
  obtain ⟨v, g, t, ks, rfl, hd, wf, few, dp, hG, hl, q1, q2⟩ := h
  refine ⟨_, (pss_cons (ps_set (i := 2) sc_law_due.nd rfl (by first | exact Or.inl rfl | exact Or.inr rfl) (pe_calC C_law_judged (hr.mono (by first | decide | omega)) pass0 (pa_cons (pv 0) (pa_cons (pv 1) pa_nil))))
  (pss_one (ps_ret (pe_ix ix_B (pe_lst (pa_cons pe_str (pa_cons (pv 2) pa_nil))) (pe_callTy call_int1 (by rfl) T.z_int (by decide +kernel) (pa_cons (pe_cmpR op_notN (pv 2) pe_non (nomark _)) pa_nil)) (fun _ _ => rfl))))), ?_⟩
  refine ⟨_, rfl, _, rfl, v, g, t, ks, rfl, hd, wf, few, dp, by decide, hG, by omega, fun hn H1 s1 => ?_, fun k hk kv H1 s1 dk => ?_⟩
  · refine ⟨_, rfl, (by show 2 ≤ sizeLine; decide), fun l hl => ⟨_, rfl, rfl, .inr ⟨_, rfl, .inl (.inl ⟨l, _, 0, .str "term", rfl, rfl, .of upd_same, at0 _ _, q1 hn _ (s1.trans (same_new hl _))⟩)⟩⟩⟩
  · have nk : decide (kv = V.non) = false := decide_eq_false (by
      rcases kd_split k dk with ⟨_, _, _, rfl, _⟩ | ⟨_, _, rfl, _⟩ | ⟨_, _, _, _, _, _, _, _, _, _, rfl, _⟩ <;> exact fun h => by cases h)
    refine ⟨_, rfl, (by show 2 ≤ sizeLine; decide), fun l hl => ⟨_, rfl, rfl, .inr ⟨_, rfl, ?_⟩⟩⟩
    rw [nk]
    exact .inl (.inl ⟨l, _, 1, kv, rfl, rfl, .of upd_same, at1 _ _ _, q2 k hk _ _ (s1.trans (same_new hl _)) (dk.same (same_new hl _))⟩)
end

/-! ## the kind of a good term; a term within one more given -/
def liftT (m : Nat) : Trm → Trm
  | .giv (.int n) => .giv (.int (n + if (m : Int) ≤ n then 1 else 0))
  | .giv x => .giv x
  | .fst t => .fst (liftT m t)
  | .snd t => .snd (liftT m t)
  | .mk c t => .mk c (liftT m t)
  | .doo a b => .doo (liftT m a) (liftT m b)
  | .both a b => .both (liftT m a) (liftT m b)
  | .unit => .unit
  | .bad d => .bad d
theorem lift_jd {A : List Kd} {c : Kd} : ∀ (t : Trm) (B : List Kd) (k : Kd), t.jd (A ++ B) = some k → (liftT A.length t).jd (A ++ c :: B) = some k
  | .giv x, B, k, h => by
    obtain ⟨n, rfl, e, lt⟩ := Trm.giv_some h
    rw [List.length_append] at lt
    show giv (.int (((n : Nat) : Int) + if ((A.length : Nat) : Int) ≤ ((n : Nat) : Int) then 1 else 0)) (A ++ c :: B) = some k
    have gi : ∀ n : Int, giv (.int n) (A ++ c :: B) = if 0 ≤ n ∧ n < ((A ++ c :: B).length : Nat) then (A ++ c :: B)[n.toNat]? else none := fun _ => rfl
    rw [gi, List.length_append, List.length_cons]
    by_cases le : A.length ≤ n
    · rw [if_pos (by omega : ((A.length : Nat) : Int) ≤ ((n : Nat) : Int)), if_pos (by omega)]
      rw [show (((n : Nat) : Int) + 1).toNat = n + 1 by omega, List.getElem?_append_right (by omega), show n + 1 - A.length = (n - A.length) + 1 by omega, List.getElem?_cons_succ]
      rw [List.getElem?_append_right le] at e
      exact e
    · rw [if_neg (by omega : ¬ ((A.length : Nat) : Int) ≤ ((n : Nat) : Int)), if_pos (by omega)]
      rw [show (((n : Nat) : Int) + 0).toNat = n by omega, List.getElem?_append_left (by omega)]
      rw [List.getElem?_append_left (by omega)] at e
      exact e
  | .fst t, B, k, h => by
    cases e : t.jd (A ++ B) with
    | none => simp [Trm.jd, e] at h
    | some x => simp only [Trm.jd, e, Option.bind_some] at h; simp only [liftT, Trm.jd, lift_jd t B x e, Option.bind_some]; exact h
  | .snd t, B, k, h => by
    cases e : t.jd (A ++ B) with
    | none => simp [Trm.jd, e] at h
    | some x => simp only [Trm.jd, e, Option.bind_some] at h; simp only [liftT, Trm.jd, lift_jd t B x e, Option.bind_some]; exact h
  | .mk d t, B, k, h => by
    cases e : t.jd ((A ++ B) ++ [d]) with
    | none => simp only [Trm.jd, e, Option.map_none] at h; cases h
    | some x =>
      simp only [Trm.jd, e, Option.map_some] at h
      have e2 := lift_jd (c := c) t (B ++ [d]) x (by rw [← List.append_assoc]; exact e)
      have e3 : (A ++ c :: B) ++ [d] = A ++ c :: (B ++ [d]) := by simp
      simp only [liftT, Trm.jd, e3, e2, Option.map_some]
      exact h
  | .doo a b, B, k, h => by
    cases e : a.jd (A ++ B) with
    | none => simp [Trm.jd, e] at h
    | some x => cases e2 : b.jd (A ++ B) with
      | none => simp [Trm.jd, e, e2] at h
      | some y => simp only [Trm.jd, e, e2, Option.bind_some] at h; simp only [liftT, Trm.jd, lift_jd a B x e, lift_jd b B y e2, Option.bind_some]; exact h
  | .both a b, B, k, h => by
    cases e : a.jd (A ++ B) with
    | none => simp [Trm.jd, e] at h
    | some x => cases e2 : b.jd (A ++ B) with
      | none => simp [Trm.jd, e, e2] at h
      | some y => simp only [Trm.jd, e, e2, Option.bind_some, Option.map_some] at h; simp only [liftT, Trm.jd, lift_jd a B x e, lift_jd b B y e2, Option.bind_some, Option.map_some]; exact h
  | .unit, B, k, h => h
  | .bad d, B, k, h => by cases h
/-- what a lift leaves -/
theorem lift_wf (m : Nat) : ∀ t : Trm, t.wf → (liftT m t).wf
  | .giv (.int _), _ => trivial
  | .giv .none, _ => trivial
  | .giv (.bool _), _ => trivial
  | .giv (.str _), _ => trivial
  | .giv (.list _), _ => trivial
  | .giv (.tuple _), _ => trivial
  | .giv (.dict _), _ => trivial
  | .fst t, h => lift_wf m t h
  | .snd t, h => lift_wf m t h
  | .mk c t, h => ⟨h.1, lift_wf m t h.2⟩
  | .doo a b, h => ⟨lift_wf m a h.1, lift_wf m b h.2⟩
  | .both a b, h => ⟨lift_wf m a h.1, lift_wf m b h.2⟩
  | .unit, _ => trivial
  | .bad _, h => h
theorem half_p {b : Bool} {k k' : Kd} (h : half b k' = some k) : ∃ x y, k' = .p x y ∧ k = if b = true then y else x := by
  cases k' with
  | p x y => simp only [half] at h; exact ⟨x, y, rfl, (Option.some.inj h).symm⟩
  | _ => cases h
theorem hand_f {k1 k2 k : Kd} (h : hand k1 k2 = some k) : ∃ x, k1 = .f x k := by
  cases k1 with
  | f x y =>
    simp only [hand] at h
    split at h
    · cases h; exact ⟨x, rfl⟩
    · cases h
  | _ => cases h
def spKo (K : PySem.W.Frag) (N : Nat) : Sp := fun vs H Q _ => ∃ (v : V) (g : Addr) (t : Trm) (ks : List Kd) (k : Kd), vs = [v, .ref g] ∧ Dq K H v t.dat ∧ t.ht < N ∧ KsAt K H g ks ∧ ks.length + N ≤ 3000000 ∧ t.jd ks = some k ∧ ∀ kv H', Same H H' → Dq K H' kv k.dat → Q kv H'
def spLift (K : PySem.W.Frag) (N : Nat) : Sp := fun vs H Q _ => ∃ (v : V) (m : Nat) (t : Trm) (ks : List Kd) (k : Kd), vs = [v, .int (m : Nat)] ∧ Dq K H v t.dat ∧ t.ht < N ∧ t.jd ks = some k ∧ ∀ v' H', Same H H' → Dq K H' v' (liftT m t).dat → Q v' H'
abbrev s_law_kind_of : Stmt := top 31
theorem sc_law_kind_of : FnScope ["term", "given", "one"] ["term", "given"] (defScope s_law_kind_of) := ⟨rfl, rfl, rfl, by decide +kernel, rfl, by decide +kernel, by decide +kernel⟩
abbrev s_law_lift : Stmt := top 30
theorem sc_law_lift : FnScope ["term", "at", "part"] ["term", "at"] (defScope s_law_lift) := ⟨rfl, rfl, rfl, by decide +kernel, rfl, by decide +kernel, by decide +kernel⟩
section
variable {P : Program} {w : World} {K : PySem.W.Frag} {mg : Str → Option Value} {base : Heap} {CN CT : Addr}
theorem ok_ko1 {N : Nat} (A : At K mg "_law_kind_of" s_law_kind_of) (T : Txt K mg w CN CT) (C_law_kind_of : Cal P w K mg base CX0 N "_law_kind_of" ["term", "given"] (spKo K N)) : Cal P w K mg base CX0 (N + 1) "_law_kind_of" ["term", "given"] (spKo K (N + 1)) := by
  obtain ⟨f, fd, F, m⟩ := A
  refine ⟨f, fd, F.ok sc_law_kind_of (fun vs H Q E h => ?_) (fun cdv A outer s H vs Q E hr h => ?_), F.binds (ps := ["term", "given"]) (fun _ _ _ _ _ _ us hl => match us, hl with | [_, _], _ => rfl), F.kp, m⟩
  · obtain ⟨v, g, t, ks, k, rfl, _⟩ := h; rfl
  obtain ⟨v, g, t, ks, k, rfl, hd, hN, hG, hkl, hk, q⟩ := h
  refine ⟨_, (pss_cons (ps_if (pt_cmpR (op_eqA (room200 hr)) (pe_ix ix_B (pv 0) pe_int (fun _ _ => rfl)) pe_str (nomark _))
   (pss_one (ps_ret (pe_tup (pa_cons pe_str pa_nil))))
   pss_nil)
  (pss_cons (ps_if (pt_cmpR (op_eqA (room200 hr)) (pe_ix ix_B (pv 0) pe_int (fun _ _ => rfl)) pe_str (nomark _))
   (pss_one (ps_ret (pe_ix ix_B (pv 1) (pe_ix ix_B (pv 0) pe_int (fun _ _ => rfl)) (fun _ _ => rfl))))
   pss_nil)
  (pss_cons (ps_if (pt_cmpR (op_eqA (room200 hr)) (pe_ix ix_B (pv 0) pe_int (fun _ _ => rfl)) pe_str (nomark _))
   (pss_one (ps_ret (pe_tup (pa_cons pe_str (pa_cons (pe_ix ix_B (pv 0) pe_int (fun _ _ => rfl)) (pa_cons (pe_calC C_law_kind_of (hr.mono (by first | decide | omega)) pass0 (pa_cons (pe_ix ix_B (pv 0) pe_int (fun _ _ => rfl)) (pa_cons (pe_op op_addA (pv 1) (pe_lst (pa_cons (pe_ix ix_B (pv 0) pe_int (fun _ _ => rfl)) pa_nil))) pa_nil))) pa_nil))))))
   pss_nil)
  (pss_cons (ps_set (i := 2) sc_law_kind_of.nd rfl (by first | exact Or.inl rfl | exact Or.inr rfl) (pe_calC C_law_kind_of (hr.mono (by first | decide | omega)) pass0 (pa_cons (pe_ix ix_B (pv 0) pe_int (fun _ _ => rfl)) (pa_cons (pv 1) pa_nil))))
  (pss_cons (ps_if (pt_cmpR (op_eqA (room200 hr)) (pe_ix ix_B (pv 0) pe_int (fun _ _ => rfl)) pe_str (nomark _))
   (pss_one (ps_ret (pe_tup (pa_cons pe_str (pa_cons (pv 2) (pa_cons (pe_calC C_law_kind_of (hr.mono (by first | decide | omega)) pass0 (pa_cons (pe_ix ix_B (pv 0) pe_int (fun _ _ => rfl)) (pa_cons (pv 1) pa_nil))) pa_nil))))))
   pss_nil)
  (pss_one (ps_ret (pe_ix ix_B (pv 2) (pe_ix ix_B (pe_lst (pa_cons pe_int (pa_cons pe_int pa_nil))) (pe_callTy call_int1 (by rfl) T.z_int (by decide +kernel) (pa_cons (pe_cmpR (op_eqA (room200 hr)) (pe_ix ix_B (pv 0) pe_int (fun _ _ => rfl)) pe_str (nomark _)) pa_nil)) (fun _ _ => rfl)) (fun _ _ => rfl))))))))), ?_⟩
  cases t with
  | bad d => cases hk
  | unit =>
    obtain ⟨a, rfl, hT⟩ := dq_tup1 hd
    cases hk
    exact ⟨_, rfl, ix0_seq (.inr hT) (.inl ⟨rfl, _, rfl, iteT' (by decide) ⟨(by show 1 ≤ sizeLine; decide), fun p hp => q _ _ (same_new hp _) (unit_at upd_same)⟩⟩)⟩
  | giv x =>
    obtain ⟨a, u, rfl, hT, hx⟩ := dq_tup2 hd
    obtain ⟨n, rfl, e, lt⟩ := Trm.giv_some hk
    cases hx
    obtain ⟨us, eg, hU⟩ := hG
    have ul := hU.length
    rw [List.length_map] at ul
    have ju : n < us.length := by omega
    have dk : Dq K H us[n] k.dat := by
      obtain ⟨d, e1, d1⟩ := hU.get (List.getElem?_eq_getElem ju)
      rw [List.getElem?_map, e] at e1
      cases e1
      exact d1
    refine ⟨_, rfl, ix0_seq (.inr hT) (.inl ⟨rfl, _, rfl, iteF' (by decide) ⟨_, rfl, ix0_seq (.inr hT) (.inl ⟨rfl, _, rfl, iteT' (by decide) ?_⟩)⟩⟩)⟩
    exact ⟨_, rfl, _, rfl, .inl (.inr (.inl ⟨a, _, 1, _, rfl, rfl, hT, at1 _ _ _, ixLi (.of eg) (List.getElem?_eq_getElem ju) (q _ _ (Same.refl _) dk)⟩))⟩
  | mk c t' =>
    obtain ⟨a, u1, u2, rfl, hT, hx, hy⟩ := dq_tup3 hd
    cases e : t'.jd (ks ++ [c]) with
    | none => simp only [Trm.jd, e, Option.map_none] at hk; cases hk
    | some k' =>
      simp only [Trm.jd, e, Option.map_some] at hk
      cases hk
      obtain ⟨us, eg, hU⟩ := hG
      have ul := hU.length
      rw [List.length_map] at ul
      simp only [Trm.ht] at hN
      refine ⟨_, rfl, ix0_seq (.inr hT) (.inl ⟨rfl, _, rfl, iteF' (by decide) ⟨_, rfl, ix0_seq (.inr hT) (.inl ⟨rfl, _, rfl, iteF' (by decide) ⟨_, rfl, ix0_seq (.inr hT) (.inl ⟨rfl, _, rfl, iteT' (by decide) ?_⟩)⟩⟩)⟩⟩)⟩
      refine ⟨_, rfl, .inl (.inr (.inl ⟨a, _, 1, _, rfl, rfl, hT, at1 _ _ _, _, rfl, .inl (.inr (.inl ⟨a, _, 2, _, rfl, rfl, hT, at2 _ _ _ _, _, rfl, _, rfl, .inl (.inr (.inl ⟨a, _, 1, _, rfl, rfl, hT, at1 _ _ _, (by show 1 ≤ sizeLine; decide), fun p hp => ?_⟩))⟩))⟩))⟩
      have s5 := same_new hp (.lst [u1])
      refine .inr (.inr (.inl ⟨g, p, _, _, rfl, rfl, s5 _ _ eg, upd_same, fits (by rw [ul]; simp only [List.length_cons, List.length_nil]; omega), fun l hl => ?_⟩))
      have s6 := s5.trans (same_new hl (.lst (us ++ [u1])))
      refine ⟨u2, l, t', ks ++ [c], k', rfl, hy.same s6, by omega, ⟨_, upd_same, ?_⟩, by rw [List.length_append, List.length_singleton]; omega, e, fun kv H7 s7 dk => ⟨(by show 3 ≤ sizeLine; decide), fun tp htp => ?_⟩⟩
      · rw [List.map_append]
        exact (hU.same s6).append (.cons (hx.same s6) .nil)
      · have s8 := same_new htp (.tup [.str "from", u1, kv])
        exact q _ _ ((s6.trans s7).trans s8) (.tup (.of upd_same) (.cons (.str _) (.cons (hx.same ((s6.trans s7).trans s8)) (.cons (dk.same s8) .nil))))
  | fst t' =>
    obtain ⟨a, u, rfl, hT, hx⟩ := dq_tup2 hd
    simp only [Trm.ht] at hN
    cases e : t'.jd ks with
    | none => simp [Trm.jd, e] at hk
    | some k' =>
      simp only [Trm.jd, e, Option.bind_some] at hk
      refine ⟨_, rfl, ix0_seq (.inr hT) (.inl ⟨rfl, _, rfl, iteF' (by decide) ⟨_, rfl, ix0_seq (.inr hT) (.inl ⟨rfl, _, rfl, iteF' (by decide) ⟨_, rfl, ix0_seq (.inr hT) (.inl ⟨rfl, _, rfl, iteF' (by decide) ?_⟩)⟩⟩)⟩⟩)⟩
      refine ⟨_, rfl, .inl (.inr (.inl ⟨a, _, 1, _, rfl, rfl, hT, at1 _ _ _, _, rfl, u, g, t', ks, k', rfl, hx, by omega, hG, by omega, e, fun kv H1 s1 dk => ?_⟩))⟩
      refine ⟨_, rfl, ix0_seq (.inr (KB.Same.tup s1 hT)) (.inl ⟨rfl, _, rfl, iteF' (by decide) ?_⟩)⟩
      refine ⟨_, rfl, (by show 2 ≤ sizeLine; decide), fun l hl => ⟨_, rfl, ix0_seq (.inr (KB.Same.tup (s1.trans (same_new hl _)) hT)) (.inl ⟨rfl, .inr ⟨_, rfl, .inl (.inl ⟨l, _, _, .int 1, rfl, rfl, .of upd_same, rfl, ?_⟩)⟩⟩)⟩⟩
      obtain ⟨x, y, rfl, rfl⟩ := half_p hk
      obtain ⟨b, w1, w2, rfl, hK, d1, d2⟩ := dq_tup3 (dk.same (same_new hl (.lst [.int 2, .int 1])))
      exact .inl (.inr (.inl ⟨b, _, 1, w1, rfl, rfl, hK, at1 _ _ _, q _ _ (s1.trans (same_new hl _)) d1⟩))
  | snd t' =>
    obtain ⟨a, u, rfl, hT, hx⟩ := dq_tup2 hd
    simp only [Trm.ht] at hN
    cases e : t'.jd ks with
    | none => simp [Trm.jd, e] at hk
    | some k' =>
      simp only [Trm.jd, e, Option.bind_some] at hk
      refine ⟨_, rfl, ix0_seq (.inr hT) (.inl ⟨rfl, _, rfl, iteF' (by decide) ⟨_, rfl, ix0_seq (.inr hT) (.inl ⟨rfl, _, rfl, iteF' (by decide) ⟨_, rfl, ix0_seq (.inr hT) (.inl ⟨rfl, _, rfl, iteF' (by decide) ?_⟩)⟩⟩)⟩⟩)⟩
      refine ⟨_, rfl, .inl (.inr (.inl ⟨a, _, 1, _, rfl, rfl, hT, at1 _ _ _, _, rfl, u, g, t', ks, k', rfl, hx, by omega, hG, by omega, e, fun kv H1 s1 dk => ?_⟩))⟩
      refine ⟨_, rfl, ix0_seq (.inr (KB.Same.tup s1 hT)) (.inl ⟨rfl, _, rfl, iteF' (by decide) ?_⟩)⟩
      refine ⟨_, rfl, (by show 2 ≤ sizeLine; decide), fun l hl => ⟨_, rfl, ix0_seq (.inr (KB.Same.tup (s1.trans (same_new hl _)) hT)) (.inl ⟨rfl, .inr ⟨_, rfl, .inl (.inl ⟨l, _, _, .int 2, rfl, rfl, .of upd_same, rfl, ?_⟩)⟩⟩)⟩⟩
      obtain ⟨x, y, rfl, rfl⟩ := half_p hk
      obtain ⟨b, w1, w2, rfl, hK, d1, d2⟩ := dq_tup3 (dk.same (same_new hl (.lst [.int 2, .int 1])))
      exact .inl (.inr (.inl ⟨b, _, 2, w2, rfl, rfl, hK, at2 _ _ _ _, q _ _ (s1.trans (same_new hl _)) d2⟩))
  | doo t1 t2 =>
    obtain ⟨a, u1, u2, rfl, hT, hx, hy⟩ := dq_tup3 hd
    simp only [Trm.ht] at hN
    cases e : t1.jd ks with
    | none => simp [Trm.jd, e] at hk
    | some k1 => cases e2 : t2.jd ks with
      | none => simp [Trm.jd, e, e2] at hk
      | some k2 =>
        simp only [Trm.jd, e, e2, Option.bind_some] at hk
        refine ⟨_, rfl, ix0_seq (.inr hT) (.inl ⟨rfl, _, rfl, iteF' (by decide) ⟨_, rfl, ix0_seq (.inr hT) (.inl ⟨rfl, _, rfl, iteF' (by decide) ⟨_, rfl, ix0_seq (.inr hT) (.inl ⟨rfl, _, rfl, iteF' (by decide) ?_⟩)⟩⟩)⟩⟩)⟩
        refine ⟨_, rfl, .inl (.inr (.inl ⟨a, _, 1, _, rfl, rfl, hT, at1 _ _ _, _, rfl, u1, g, t1, ks, k1, rfl, hx, by omega, hG, by omega, e, fun kv H1 s1 dk => ?_⟩))⟩
        refine ⟨_, rfl, ix0_seq (.inr (KB.Same.tup s1 hT)) (.inl ⟨rfl, _, rfl, iteF' (by decide) ?_⟩)⟩
        refine ⟨_, rfl, (by show 2 ≤ sizeLine; decide), fun l hl => ⟨_, rfl, ix0_seq (.inr (KB.Same.tup (s1.trans (same_new hl _)) hT)) (.inl ⟨rfl, .inr ⟨_, rfl, .inl (.inl ⟨l, _, _, .int 2, rfl, rfl, .of upd_same, rfl, ?_⟩)⟩⟩)⟩⟩
        obtain ⟨x, rfl⟩ := hand_f hk
        obtain ⟨b, w1, w2, rfl, hK, d1, d2⟩ := dq_tup3 (dk.same (same_new hl (.lst [.int 2, .int 1])))
        exact .inl (.inr (.inl ⟨b, _, 2, w2, rfl, rfl, hK, at2 _ _ _ _, q _ _ (s1.trans (same_new hl _)) d2⟩))
  | both t1 t2 =>
    obtain ⟨a, u1, u2, rfl, hT, hx, hy⟩ := dq_tup3 hd
    simp only [Trm.ht] at hN
    cases e : t1.jd ks with
    | none => simp [Trm.jd, e] at hk
    | some k1 => cases e2 : t2.jd ks with
      | none => simp [Trm.jd, e, e2] at hk
      | some k2 =>
        simp only [Trm.jd, e, e2, Option.bind_some, Option.map_some] at hk
        cases hk
        refine ⟨_, rfl, ix0_seq (.inr hT) (.inl ⟨rfl, _, rfl, iteF' (by decide) ⟨_, rfl, ix0_seq (.inr hT) (.inl ⟨rfl, _, rfl, iteF' (by decide) ⟨_, rfl, ix0_seq (.inr hT) (.inl ⟨rfl, _, rfl, iteF' (by decide) ?_⟩)⟩⟩)⟩⟩)⟩
        refine ⟨_, rfl, .inl (.inr (.inl ⟨a, _, 1, _, rfl, rfl, hT, at1 _ _ _, _, rfl, u1, g, t1, ks, k1, rfl, hx, by omega, hG, by omega, e, fun kv H1 s1 dk => ?_⟩))⟩
        refine ⟨_, rfl, ix0_seq (.inr (KB.Same.tup s1 hT)) (.inl ⟨rfl, _, rfl, iteT' (by decide) ?_⟩)⟩
        refine ⟨_, rfl, _, rfl, .inl (.inr (.inl ⟨a, _, 2, _, rfl, rfl, KB.Same.tup s1 hT, at2 _ _ _ _, _, rfl, u2, g, t2, ks, k2, rfl, hy.same s1, by omega, hG.same s1, by omega, e2, fun kv2 H2 s2 dk2 => ⟨(by show 3 ≤ sizeLine; decide), fun tp htp => ?_⟩⟩))⟩
        have s8 := same_new htp (.tup [.str "both", kv, kv2])
        exact q _ _ ((s1.trans s2).trans s8) (.tup (.of upd_same) (.cons (.str _) (.cons (dk.same (s2.trans s8)) (.cons (dk2.same s8) .nil))))
theorem ok_ko (A : At K mg "_law_kind_of" s_law_kind_of) (T : Txt K mg w CN CT) : ∀ N : Nat, Cal P w K mg base CX0 N "_law_kind_of" ["term", "given"] (spKo K N)
  | 0 => cal_vac A (fun f fd F => F.binds (ps := ["term", "given"]) (fun _ _ _ _ _ _ us hl => match us, hl with | [_, _], _ => rfl)) fun vs H Q E ⟨v, g, t, ks, k, _, _, h, _⟩ => absurd h (Nat.not_lt_zero _)
  | N + 1 => ok_ko1 A T (ok_ko A T N)
end

/-- a term with a kind is made of tuples, texts and numbers -/
theorem pure_jd : ∀ (t : Trm) (ks : List Kd) (k : Kd), t.jd ks = some k → pureT t.dat = true
  | .giv x, ks, k, h => by obtain ⟨n, rfl, _⟩ := Trm.giv_some h; simp [Trm.dat, pureT, pureTs]
  | .fst t, ks, k, h => by
    cases e : t.jd ks with
    | none => simp [Trm.jd, e] at h
    | some x => simp [Trm.dat, pureT, pureTs, pure_jd t ks x e]
  | .snd t, ks, k, h => by
    cases e : t.jd ks with
    | none => simp [Trm.jd, e] at h
    | some x => simp [Trm.dat, pureT, pureTs, pure_jd t ks x e]
  | .mk c t, ks, k, h => by
    cases e : t.jd (ks ++ [c]) with
    | none => simp [Trm.jd, e] at h
    | some x => simp [Trm.dat, pureT, pureTs, pure_jd t _ x e, c.pure]
  | .doo a b, ks, k, h => by
    cases e : a.jd ks with
    | none => simp [Trm.jd, e] at h
    | some x => cases e2 : b.jd ks with
      | none => simp [Trm.jd, e, e2] at h
      | some y => simp [Trm.dat, pureT, pureTs, pure_jd a ks x e, pure_jd b ks y e2]
  | .both a b, ks, k, h => by
    cases e : a.jd ks with
    | none => simp [Trm.jd, e] at h
    | some x => cases e2 : b.jd ks with
      | none => simp [Trm.jd, e, e2] at h
      | some y => simp [Trm.dat, pureT, pureTs, pure_jd a ks x e, pure_jd b ks y e2]
  | .unit, ks, k, h => by simp [Trm.dat, pureT, pureTs]
  | .bad d, ks, k, h => by cases h
theorem pure_lift (m : Nat) : ∀ t : Trm, pureT t.dat = true → pureT (liftT m t).dat = true
  | .giv (.int _), _ => by simp [liftT, Trm.dat, pureT, pureTs]
  | .giv .none, h => h
  | .giv (.bool _), h => h
  | .giv (.str _), h => h
  | .giv (.list _), h => h
  | .giv (.tuple _), h => h
  | .giv (.dict _), h => h
  | .fst t, h => by
    simp only [Trm.dat, pureT, pureTs, Bool.and_true, Bool.true_and] at h
    simp [liftT, Trm.dat, pureT, pureTs, pure_lift m t h]
  | .snd t, h => by
    simp only [Trm.dat, pureT, pureTs, Bool.and_true, Bool.true_and] at h
    simp [liftT, Trm.dat, pureT, pureTs, pure_lift m t h]
  | .mk c t, h => by
    simp only [Trm.dat, pureT, pureTs, Bool.and_true, Bool.true_and, Bool.and_eq_true] at h
    simp [liftT, Trm.dat, pureT, pureTs, pure_lift m t h.2, c.pure]
  | .doo a b, h => by
    simp only [Trm.dat, pureT, pureTs, Bool.and_true, Bool.true_and, Bool.and_eq_true] at h
    simp [liftT, Trm.dat, pureT, pureTs, pure_lift m a h.1, pure_lift m b h.2]
  | .both a b, h => by
    simp only [Trm.dat, pureT, pureTs, Bool.and_true, Bool.true_and, Bool.and_eq_true] at h
    simp [liftT, Trm.dat, pureT, pureTs, pure_lift m a h.1, pure_lift m b h.2]
  | .unit, h => by simp [liftT, Trm.dat, pureT, pureTs]
  | .bad _, h => h
/-- a term of other words: its word and its parts -/
theorem parts_of {K : PySem.W.Frag} {H : Hp} {v : V} {t : Trm} {ks : List Kd} {k : Kd} (hd : Dq K H v t.dat) (hk : t.jd ks = some k) : (∃ n : Nat, t = .giv (.int (n : Nat))) ∨ (∃ c t', t = .mk c t') ∨
    ∃ (a : Addr) (wd : Str) (us : List V) (ps : List Trm), v = .ref a ∧ wd ≠ "given" ∧ wd ≠ "make" ∧ SqT K H a (.str wd :: us) ∧ DqAll K H us (ps.map Trm.dat) ∧ (∀ p ∈ ps, p.ht < t.ht ∧ ∃ k', p.jd ks = some k') ∧ ps.length ≤ 2 ∧
      (∀ m, (liftT m t).dat = .tuple (.str wd :: ps.map fun p => (liftT m p).dat)) ∧ t.dat = .tuple (.str wd :: ps.map Trm.dat) := by
  cases t with
  | bad d => cases hk
  | giv x => obtain ⟨n, rfl, _⟩ := Trm.giv_some hk; exact .inl ⟨n, rfl⟩
  | mk c t' => exact .inr (.inl ⟨c, t', rfl⟩)
  | unit =>
    obtain ⟨a, rfl, hT⟩ := dq_tup1 hd
    exact .inr (.inr ⟨a, _, [], [], rfl, by decide, by decide, hT, .nil, (fun p h => by cases h), by simp, fun m => rfl, rfl⟩)
  | fst t' =>
    obtain ⟨a, u, rfl, hT, hx⟩ := dq_tup2 hd
    refine .inr (.inr ⟨a, _, [u], [t'], rfl, by decide, by decide, hT, .cons hx .nil, fun p h => ?_, by simp, fun m => rfl, rfl⟩)
    rw [List.mem_singleton.mp h]
    cases e : t'.jd ks with
    | none => simp [Trm.jd, e] at hk
    | some k' => exact ⟨by simp only [Trm.ht]; omega, k', rfl⟩
  | snd t' =>
    obtain ⟨a, u, rfl, hT, hx⟩ := dq_tup2 hd
    refine .inr (.inr ⟨a, _, [u], [t'], rfl, by decide, by decide, hT, .cons hx .nil, fun p h => ?_, by simp, fun m => rfl, rfl⟩)
    rw [List.mem_singleton.mp h]
    cases e : t'.jd ks with
    | none => simp [Trm.jd, e] at hk
    | some k' => exact ⟨by simp only [Trm.ht]; omega, k', rfl⟩
  | doo t1 t2 =>
    obtain ⟨a, u1, u2, rfl, hT, hx, hy⟩ := dq_tup3 hd
    refine .inr (.inr ⟨a, _, [u1, u2], [t1, t2], rfl, by decide, by decide, hT, .cons hx (.cons hy .nil), fun p h => ?_, by simp, fun m => rfl, rfl⟩)
    cases e : t1.jd ks with
    | none => simp [Trm.jd, e] at hk
    | some k1 => cases e2 : t2.jd ks with
      | none => simp [Trm.jd, e, e2] at hk
      | some k2 =>
        rcases pair_mem h with rfl | rfl
        · exact ⟨by simp only [Trm.ht]; omega, k1, e⟩
        · exact ⟨by simp only [Trm.ht]; omega, k2, e2⟩
  | both t1 t2 =>
    obtain ⟨a, u1, u2, rfl, hT, hx, hy⟩ := dq_tup3 hd
    refine .inr (.inr ⟨a, _, [u1, u2], [t1, t2], rfl, by decide, by decide, hT, .cons hx (.cons hy .nil), fun p h => ?_, by simp, fun m => rfl, rfl⟩)
    cases e : t1.jd ks with
    | none => simp [Trm.jd, e] at hk
    | some k1 => cases e2 : t2.jd ks with
      | none => simp [Trm.jd, e, e2] at hk
      | some k2 =>
        rcases pair_mem h with rfl | rfl
        · exact ⟨by simp only [Trm.ht]; omega, k1, e⟩
        · exact ⟨by simp only [Trm.ht]; omega, k2, e2⟩
section
variable {P : Program} {w : World} {K : PySem.W.Frag} {mg : Str → Option Value} {base : Heap} {CN CT : Addr}
theorem ok_lift1 {N : Nat} (A : At K mg "_law_lift" s_law_lift) (T : Txt K mg w CN CT) (C_law_lift : Cal P w K mg base CX0 N "_law_lift" ["term", "at"] (spLift K N)) : Cal P w K mg base CX0 (N + 1) "_law_lift" ["term", "at"] (spLift K (N + 1)) := by
  obtain ⟨f, fd, F, m⟩ := A
  refine ⟨f, fd, F.ok sc_law_lift (fun vs H Q E h => ?_) (fun cdv A outer s H vs Q E hr h => ?_), F.binds (ps := ["term", "at"]) (fun _ _ _ _ _ _ us hl => match us, hl with | [_, _], _ => rfl), F.kp, m⟩
  · obtain ⟨v, m, t, ks, k, rfl, _⟩ := h; rfl
  obtain ⟨v, m, t, ks, k, rfl, hd, hN, hk, q⟩ := h
  refine ⟨_, (pss_cons (ps_if (pt_cmpR (op_eqA (room200 hr)) (pe_ix ix_B (pv 0) pe_int (fun _ _ => rfl)) pe_str (nomark _))
   (pss_one (ps_ret (pe_tup (pa_cons pe_str (pa_cons (pe_op op_addA (pe_ix ix_B (pv 0) pe_int (fun _ _ => rfl)) (pe_callTy call_int1 (by rfl) T.z_int (by decide +kernel) (pa_cons (pe_cmpR op_ge (pe_ix ix_B (pv 0) pe_int (fun _ _ => rfl)) (pv 1) (nomark _)) pa_nil))) pa_nil)))))
   pss_nil)
  (pss_cons (ps_if (pt_cmpR (op_eqA (room200 hr)) (pe_ix ix_B (pv 0) pe_int (fun _ _ => rfl)) pe_str (nomark _))
   (pss_one (ps_ret (pe_tup (pa_cons pe_str (pa_cons (pe_ix ix_B (pv 0) pe_int (fun _ _ => rfl)) (pa_cons (pe_calC C_law_lift (hr.mono (by first | decide | omega)) pass0 (pa_cons (pe_ix ix_B (pv 0) pe_int (fun _ _ => rfl)) (pa_cons (pv 1) pa_nil))) pa_nil))))))
   pss_nil)
  (pss_one (ps_ret (pe_callTy call_tuple_of (by rfl) T.z_tuple (by decide +kernel) (pa_cons (pe_op op_addA (pe_lst (pa_cons (pe_ix ix_B (pv 0) pe_int (fun _ _ => rfl)) pa_nil)) (pe_lc (own := [("part", 2)]) (g := gName 2) (tt := tYes) (by rfl) sc_law_lift.nd (pi_tup (pe_slice sl_A (pv 0) (po_some pe_int) po_none)) (blkOk_by (own := [("part", 2)]) (N := ["term", "at", "part"]) (sc := defScope s_law_lift) (by decide +kernel)) (fun _ _ _ _ _ => (pg_name (i := 2) sc_law_lift.nd rfl (by first | exact Or.inl rfl | exact Or.inr rfl))) (fun _ _ _ _ _ => pts_nil) (fun _ _ _ _ _ => (pe_calC C_law_lift (hr.mono (by first | decide | omega)) pass0 (pa_cons (pv 2) (pa_cons (pv 1) pa_nil)))))) pa_nil)))))), ?_⟩
  rcases parts_of hd hk with ⟨n, rfl⟩ | ⟨c, t', rfl⟩ | ⟨a, wd, us, ps, rfl, ng, nm, hT, hA, hp, l2, el, et⟩
  · obtain ⟨a, u, rfl, hT, hx⟩ := dq_tup2 hd
    cases hx
    refine ⟨_, rfl, ix0_seq (.inr hT) (.inl ⟨rfl, _, rfl, iteT' (by decide) ?_⟩)⟩
    refine ⟨_, rfl, .inl (.inr (.inl ⟨a, _, 1, _, rfl, rfl, hT, at1 _ _ _, _, rfl, .inl (.inr (.inl ⟨a, _, 1, _, rfl, rfl, hT, at1 _ _ _, _, rfl, _, _, rfl, rfl, .inr ⟨_, rfl, .inl ⟨_, _, rfl, rfl, (by show 2 ≤ sizeLine; decide), fun p hp => ?_⟩⟩⟩))⟩))⟩
    refine q _ _ (same_new hp _) (.tup (.of upd_same) (.cons (.str _) (.cons ?_ .nil)))
    have e : (if decide (((m : Nat) : Int) ≤ ((n : Nat) : Int)) = true then (1 : Int) else 0) = if ((m : Nat) : Int) ≤ ((n : Nat) : Int) then 1 else 0 := by
      by_cases c : ((m : Nat) : Int) ≤ ((n : Nat) : Int) <;> simp [c]
    show Dq K _ (.int (((n : Nat) : Int) + if decide (((m : Nat) : Int) ≤ ((n : Nat) : Int)) = true then (1 : Int) else 0)) (.int (((n : Nat) : Int) + if ((m : Nat) : Int) ≤ ((n : Nat) : Int) then 1 else 0))
    rw [e]
    exact .int _
  · obtain ⟨a, u1, u2, rfl, hT, hx, hy⟩ := dq_tup3 hd
    simp only [Trm.ht] at hN
    cases e : t'.jd (ks ++ [c]) with
    | none => simp only [Trm.jd, e, Option.map_none] at hk; cases hk
    | some k' =>
      refine ⟨_, rfl, ix0_seq (.inr hT) (.inl ⟨rfl, _, rfl, iteF' (by decide) ⟨_, rfl, ix0_seq (.inr hT) (.inl ⟨rfl, _, rfl, iteT' (by decide) ?_⟩)⟩⟩)⟩
      refine ⟨_, rfl, .inl (.inr (.inl ⟨a, _, 1, _, rfl, rfl, hT, at1 _ _ _, _, rfl, .inl (.inr (.inl ⟨a, _, 2, _, rfl, rfl, hT, at2 _ _ _ _, _, rfl, u2, m, t', ks ++ [c], k', rfl, hy, by omega, e, fun v' H1 s1 dv => ⟨(by show 3 ≤ sizeLine; decide), fun tp htp => ?_⟩⟩))⟩))⟩
      have s2 := same_new htp (.tup [.str "make", u1, v'])
      exact q _ _ (s1.trans s2) (.tup (.of upd_same) (.cons (.str _) (.cons (hx.same (s1.trans s2)) (.cons (dv.same s2) .nil))))
  · have lus := hA.length
    rw [List.length_map] at lus
    refine ⟨_, rfl, ix0_seq (.inr hT) (.inl ⟨rfl, _, rfl, iteF' (by simpa using ng) ⟨_, rfl, ix0_seq (.inr hT) (.inl ⟨rfl, _, rfl, iteF' (by simpa using nm) ?_⟩)⟩⟩)⟩
    refine ⟨_, rfl, ix0_seq (.inr hT) ⟨(by show 1 ≤ sizeLine; decide), fun p0 hp0 => ?_⟩⟩
    have s0 := same_new hp0 (.lst [.str wd])
    have e0 : upd H p0 (.lst [.str wd]) p0 = some (.lst [.str wd]) := upd_same
    generalize upd H p0 (.lst [.str wd]) = H0 at s0 e0 ⊢
    refine ⟨_, rfl, 1, rfl, .inr (.inl ⟨a, _, rfl, KB.Same.tup s0 hT, cut1_not _ _, fun p1 hp1 => ?_⟩)⟩
    rw [cut1]
    have s1 := s0.trans (same_new hp1 (.tup us))
    have e01 := same_new hp1 (.tup us) _ _ e0
    have e1 : upd H0 p1 (.tup us) p1 = some (.tup us) := upd_same
    generalize upd H0 p1 (.tup us) = H1 at s1 e01 e1 ⊢
    refine ⟨p1, rfl, ⟨_, .of e1⟩, fun D hD => ?_⟩
    refine lc_tup (K := K) (a := p1) (xs := us) (fun j H' => ∃ acc, H' D = some (.lst acc) ∧ DqAll K (out D H') acc ((ps.take j).map fun p => (liftT m p).dat) ∧ Same H1 (out D H')) ⟨[], upd_same, .nil, same_out hD (same_new hD _)⟩ (fun j H' _ ⟨_, _, _, h⟩ => .of (of_out h _ _ e1)) ?_ ?_
    · rintro j x H2 hx ⟨acc, eD, da, sm⟩
      have jl : j < ps.length := by rw [← lus]; exact (List.getElem?_eq_some_iff.mp hx).1
      have h12 := of_out sm
      obtain ⟨dd, ed, dx⟩ := (hA.same (s1.trans h12)).get hx
      rw [List.getElem?_map, List.getElem?_eq_getElem jl] at ed
      cases ed
      obtain ⟨hh, k', ek⟩ := hp ps[j] (List.getElem_mem jl)
      have al := da.length
      rw [List.length_map, List.length_take] at al
      refine ⟨rfl, _, rfl, _, rfl, x, m, ps[j], ks, k', rfl, dx, by omega, ek, fun v' H3 s3 dv => ⟨acc, s3 _ _ eD, fits_lt (by omega), acc ++ [v'], upd_same, ?_, sm.trans ((out_same s3).trans (out_set _))⟩⟩
      rw [List.take_succ, List.getElem?_eq_getElem jl, List.map_append]
      refine ((da.same (out_same s3)).same (out_set _)).append (.cons ((Dq.outp (s3 _ _ eD) (pure_lift m _ (pure_jd _ _ _ ek)) dv).same (out_set _)) .nil)
    · rintro H2 ⟨acc, eD, da, sm⟩
      rw [lus, List.take_length] at da
      have h12 := of_out sm
      have e2 := h12 _ _ e01
      have al := da.length
      rw [List.length_map] at al
      refine .inr (.inr (.inl ⟨p0, D, _, _, rfl, rfl, e2, eD, fits (by simp only [List.length_cons, List.length_nil]; omega), fun l hl => ⟨l, _, rfl, .inl ⟨.of upd_same, fun tp htp => ?_⟩⟩⟩))
      have s3 := (same_new hl (.lst ([V.str wd] ++ acc))).trans (same_new htp (.tup ([V.str wd] ++ acc)))
      refine q _ _ ((s1.trans h12).trans s3) ?_
      rw [el]
      exact .tup (.of upd_same) (.cons (.str _) ((da.same (out_sub _ _)).same s3))
theorem ok_lift (A : At K mg "_law_lift" s_law_lift) (T : Txt K mg w CN CT) : ∀ N : Nat, Cal P w K mg base CX0 N "_law_lift" ["term", "at"] (spLift K N)
  | 0 => cal_vac A (fun f fd F => F.binds (ps := ["term", "at"]) (fun _ _ _ _ _ _ us hl => match us, hl with | [_, _], _ => rfl)) fun vs H Q E ⟨v, m, t, ks, k, _, _, h, _⟩ => absurd h (Nat.not_lt_zero _)
  | N + 1 => ok_lift1 A T (ok_lift A T N)
end

/-! ## the ways from a thing of a kind to a base -/
inductive Stp where
  | arg (k : Kd) | half (b : Bool)
def wys : Kd → Nat → List (List Stp)
  | .b i, n => if i = n then [[]] else []
  | .u, _ => []
  | .f x y, n => (wys y n).map (Stp.arg x :: ·)
  | .p x y, n => (wys x n).map (Stp.half false :: ·) ++ (wys y n).map (Stp.half true :: ·)
def wdOf (b : Bool) : Str := if b = true then "second" else "first"
def StV (K : PySem.W.Frag) (H : Hp) (v : V) : Stp → Prop
  | .arg k => Dq K H v k.dat
  | .half b => v = .str (wdOf b)
inductive StsV (K : PySem.W.Frag) (H : Hp) : List V → List Stp → Prop where
  | nil : StsV K H [] []
  | cons {v : V} {s : Stp} {vs : List V} {r : List Stp} : StV K H v s → StsV K H vs r → StsV K H (v :: vs) (s :: r)
inductive WysV (K : PySem.W.Frag) (H : Hp) : List V → List (List Stp) → Prop where
  | nil : WysV K H [] []
  | cons {q : Addr} {us : List V} {vs : List V} {w : List Stp} {r : List (List Stp)} : H q = some (.lst us) → StsV K H us w → WysV K H vs r → WysV K H (.ref q :: vs) (w :: r)
section
variable {K : PySem.W.Frag} {H H' : Hp}
theorem StV.same (s : Same H H') {v : V} : ∀ {x : Stp}, StV K H v x → StV K H' v x
  | .arg _, h => Dq.same s h
  | .half _, h => h
theorem StsV.same (s : Same H H') : ∀ {vs : List V} {r : List Stp}, StsV K H vs r → StsV K H' vs r
  | _, _, .nil => .nil
  | _, _, .cons a b => .cons (a.same s) (StsV.same s b)
theorem WysV.same (s : Same H H') : ∀ {vs : List V} {r : List (List Stp)}, WysV K H vs r → WysV K H' vs r
  | _, _, .nil => .nil
  | _, _, .cons e a b => .cons (s _ _ e) (a.same s) (WysV.same s b)
theorem WysV.length : ∀ {vs : List V} {r : List (List Stp)}, WysV K H vs r → vs.length = r.length
  | _, _, .nil => rfl
  | _, _, .cons _ _ b => by rw [List.length_cons, List.length_cons, WysV.length b]
theorem WysV.append : ∀ {vs us : List V} {r s : List (List Stp)}, WysV K H vs r → WysV K H us s → WysV K H (vs ++ us) (r ++ s)
  | _, _, _, _, .nil, c => c
  | _, _, _, _, .cons e a b, c => .cons e a (WysV.append b c)
theorem WysV.at : ∀ {vs : List V} {r : List (List Stp)}, WysV K H vs r → ∀ {i : Nat} {x : V}, vs[i]? = some x → ∃ q us w, x = .ref q ∧ r[i]? = some w ∧ H q = some (.lst us) ∧ StsV K H us w
  | _, _, .nil, i, x, h => by cases h
  | _, _, .cons e a b, 0, x, h => by cases h; exact ⟨_, _, _, rfl, rfl, e, a⟩
  | _, _, .cons e a b, i + 1, x, h => WysV.at b h
end
theorem wys_len : ∀ (k : Kd) (n : Nat), (wys k n).length ≤ k.leaves
  | .b i, n => by simp only [wys, Kd.leaves]; split <;> simp
  | .u, n => by simp [wys]
  | .f x y, n => by have := wys_len y n; simp only [wys, Kd.leaves, List.length_map]; omega
  | .p x y, n => by have := wys_len x n; have := wys_len y n; simp only [wys, Kd.leaves, List.length_map, List.length_append]; omega
theorem wys_each : ∀ (k : Kd) (n : Nat) (w : List Stp), w ∈ wys k n → w.length ≤ k.deep
  | .b i, n, w, h => by simp only [wys] at h; split at h <;> simp at h; subst h; simp
  | .u, n, w, h => by simp [wys] at h
  | .f x y, n, w, h => by
    simp only [wys] at h
    obtain ⟨u, hu, rfl⟩ := List.mem_map.mp h
    have := wys_each y n u hu
    simp only [List.length_cons, Kd.deep]; omega
  | .p x y, n, w, h => by
    simp only [wys] at h
    rcases List.mem_append.mp h with h | h
    · obtain ⟨u, hu, rfl⟩ := List.mem_map.mp h
      have := wys_each x n u hu
      simp only [List.length_cons, Kd.deep]; omega
    · obtain ⟨u, hu, rfl⟩ := List.mem_map.mp h
      have := wys_each y n u hu
      simp only [List.length_cons, Kd.deep]; omega
theorem StsV.length {K : PySem.W.Frag} {H : Hp} : ∀ {vs : List V} {r : List Stp}, StsV K H vs r → vs.length = r.length
  | _, _, .nil => rfl
  | _, _, .cons a b => by rw [List.length_cons, List.length_cons, StsV.length b]
/-- a step ahead of each way -/
theorem lc_pre {K : PySem.W.Frag} {σ : L2.St} {H1 : Hp} {D p z : Addr} {us : List V} {W : List (List Stp)} {s : Stp} {hv : V} {te0 : TE} {Qd : Hp → Prop} (l2 : 2 < σ.length) (hD : H1 D = none) (ez : ∃ o, H1 z = some o) (ep : H1 p = some (.lst us)) (hW : WysV K (out z H1) us W) (hs : StV K (out z H1) hv s) (len : us.length ≤ 1000) (each : ∀ w ∈ W, w.length ≤ 1000)
    (he : ∀ x H' (Q : VK), Same H1 H' → Q hv H' → te0 ((wipe σ [2]).set 2 (some x)) H' Q) (q : ∀ acc H', Same H1 (out D H') → H' D = some (.lst acc) → WysV K (out D (out z H')) acc (W.map (s :: ·)) → Qd H') :
    ∃ Wf : Nat → Nat → Hp → Prop, (∃ m, Wf 0 m (upd H1 D (.lst []))) ∧ ∀ i m H, Wf i m H →
      ((Itl K p).stop i H ∧ Qd H) ∨ ((Itl K p).go i H ∧ ∃ Nx : Hp → Prop, (∀ H', Nx H' → ∃ m', m' < m ∧ Wf (i + 1) m' H') ∧ ∀ x H', (Itl K p).yld i H x H' → gName 2 x (wipe σ [2]) H' fun σ2 H2 => wipe σ2 [2] = wipe σ [2] ∧ tYes σ2 H2 fun b H3 =>
        if b = true then tOp (rAddB K) (tLst (tCons te0 tNil)) (tVar 2) σ2 H3 fun y H4 => ∃ acc, H4 D = some (.lst acc) ∧ acc.length < sizeLine ∧ Nx (upd H4 D (.lst (acc ++ [y]))) else Nx H3) := by
  obtain ⟨oz, ez⟩ := ez
  have wlen := hW.length
  refine lc_list (K := K) (a := p) (xs := us) (fun j H' => ∃ acc, H' D = some (.lst acc) ∧ WysV K (out D (out z H')) acc ((W.take j).map (s :: ·)) ∧ Same H1 (out D H')) ⟨[], upd_same, .nil, same_out hD (same_new hD _)⟩ (fun j H' _ ⟨_, _, _, h⟩ => .of (of_out h _ _ ep)) ?_ ?_
  · rintro j x H2 hx ⟨acc, eD, ha, sm⟩
    have jl : j < W.length := by rw [← wlen]; exact (List.getElem?_eq_some_iff.mp hx).1
    have h12 := of_out sm
    obtain ⟨qa, vs, w, rfl, ew, eq, hv'⟩ := hW.at hx
    have al := ha.length
    rw [List.length_map, List.length_take] at al
    have vl := hv'.length
    have wb := each w (List.mem_of_getElem? ew)
    refine ⟨by simp [wipe], he _ _ _ h12 ⟨(by show 1 ≤ sizeLine; decide), fun l hl => ⟨_, List.getElem?_set_self (by rw [wipe_length]; exact l2), ?_⟩⟩⟩
    have s3 := same_new hl (.lst [hv])
    have eq2 := s3 _ _ (h12 _ _ (out_some eq).2)
    refine .inl (.inr (.inr (.inl ⟨l, qa, _, _, rfl, rfl, upd_same, eq2, fits (by rw [vl]; simp only [List.length_cons, List.length_nil]; omega), fun r hr => ?_⟩)))
    have s4 := s3.trans (same_new hr (.lst ([hv] ++ vs)))
    have nrD : r ≠ D := (ne_of_none (s3 _ _ eD) hr).symm
    have nrz : r ≠ z := (ne_of_none (s3 _ _ (h12 _ _ ez)) hr).symm
    have sO : Same (out D (out z H2)) (out D (out z (upd (upd (upd H2 l (.lst [hv])) r (.lst ([hv] ++ vs))) D (.lst (acc ++ [.ref r]))))) := by
      refine (out_same (out_same s4)).trans fun b o h => ?_
      have h1 := out_some h
      have h2 := out_some h1.2
      exact out_at h1.1 (out_at h2.1 ((upd_ne h1.1).trans h2.2))
    have s1O : Same (out z H1) (out D (out z (upd (upd (upd H2 l (.lst [hv])) r (.lst ([hv] ++ vs))) D (.lst (acc ++ [.ref r]))))) := by
      refine Same.trans (fun b o h => ?_) sO
      have h1 := out_some h
      have h2 := out_some (sm b o h1.2)
      exact out_at h2.1 (out_at h1.1 h2.2)
    refine ⟨acc, s4 _ _ eD, fits_lt (by omega), acc ++ [.ref r], upd_same, ?_, sm.trans ((out_same s4).trans (out_set _))⟩
    rw [List.take_succ, ew, List.map_append]
    refine (ha.same sO).append (.cons (us := hv :: vs) (out_at nrD (out_at nrz ((upd_ne nrD).trans upd_same))) (.cons (hs.same s1O) (hv'.same s1O)) .nil)
  · rintro H2 ⟨acc, eD, ha, sm⟩
    rw [wlen, List.take_length] at ha
    exact q acc H2 sm eD ha
def spWays (K : PySem.W.Frag) (N : Nat) : Sp := fun vs H Q _ => ∃ (v : V) (n : Nat) (k : Kd) (z : Addr), vs = [v, .int (n : Nat)] ∧ (∃ o, H z = some o) ∧ Dq K (out z H) v k.dat ∧ k.deep < N ∧ k.leaves ≤ 1000 ∧ ∀ p us H', Same H H' → H p = none → H' p = some (.lst us) → WysV K (out z H') us (wys k n) → Q (.ref p) H'
abbrev s_law_ways : Stmt := top 28
theorem sc_law_ways : FnScope ["kind", "n", "way", "first"] ["kind", "n"] (defScope s_law_ways) := ⟨rfl, rfl, rfl, by decide +kernel, rfl, by decide +kernel, by decide +kernel⟩
section
variable {P : Program} {w : World} {K : PySem.W.Frag} {mg : Str → Option Value} {base : Heap} {CN CT : Addr}
theorem ok_ways1 {N : Nat} (A : At K mg "_law_ways" s_law_ways) (T : Txt K mg w CN CT) (C_law_ways : Cal P w K mg base CX0 N "_law_ways" ["kind", "n"] (spWays K N)) : Cal P w K mg base CX0 (N + 1) "_law_ways" ["kind", "n"] (spWays K (N + 1)) := by
  obtain ⟨f, fd, F, m⟩ := A
  refine ⟨f, fd, F.ok sc_law_ways (fun vs H Q E h => ?_) (fun cdv A outer s H vs Q E hr h => ?_), F.binds (ps := ["kind", "n"]) (fun _ _ _ _ _ _ us hl => match us, hl with | [_, _], _ => rfl), F.kp, m⟩
  · obtain ⟨v, n, k, z, rfl, _⟩ := h; rfl
  obtain ⟨v, n, k, z, rfl, ⟨oz, ez⟩, hd, hN, hlv, q⟩ := h
  refine ⟨_, (pss_cons (ps_if (pt_cmpR (op_eqA (room200 hr)) (pe_ix ix_B (pv 0) pe_int (fun _ _ => rfl)) pe_str (nomark _))
   (pss_one (ps_ret (pe_op op_mulA (pe_lst (pa_cons (pe_lst pa_nil) pa_nil)) (pe_callTy call_int1 (by rfl) T.z_int (by decide +kernel) (pa_cons (pe_cmpR (op_eqA (room200 hr)) (pe_ix ix_B (pv 0) pe_int (fun _ _ => rfl)) (pv 1) (nomark _)) pa_nil)))))
   pss_nil)
  (pss_cons (ps_if (pt_cmpR (op_eqA (room200 hr)) (pe_ix ix_B (pv 0) pe_int (fun _ _ => rfl)) pe_str (nomark _))
   (pss_one (ps_ret (pe_lst pa_nil)))
   pss_nil)
  (pss_cons (ps_if (pt_cmpR (op_eqA (room200 hr)) (pe_ix ix_B (pv 0) pe_int (fun _ _ => rfl)) pe_str (nomark _))
   (pss_one (ps_ret (pe_lc (own := [("way", 2)]) (g := gName 2) (tt := tYes) (by rfl) sc_law_ways.nd (pi_list (pe_calC C_law_ways (hr.mono (by first | decide | omega)) pass0 (pa_cons (pe_ix ix_B (pv 0) pe_int (fun _ _ => rfl)) (pa_cons (pv 1) pa_nil)))) (blkOk_by (own := [("way", 2)]) (N := ["kind", "n", "way", "first"]) (sc := defScope s_law_ways) (by decide +kernel)) (fun _ _ _ _ _ => (pg_name (i := 2) sc_law_ways.nd rfl (by first | exact Or.inl rfl | exact Or.inr rfl))) (fun _ _ _ _ _ => pts_nil) (fun _ _ _ _ _ => (pe_op (r := rAddB K) op_addB (pe_lst (pa_cons (pe_ix (r := rIxB K w) ix_B (pv 0) pe_int (fun _ _ => rfl)) pa_nil)) (pv 2))))))
   pss_nil)
  (pss_cons (ps_setLc (i := 3) (own := [("way", 2)]) (g := gName 2) (tt := tYes) (by rfl) sc_law_ways.nd rfl rfl (sw_true rfl rfl rfl (by decide +kernel)) (pi_list (pe_calC C_law_ways (hr.mono (by first | decide | omega)) pass0 (pa_cons (pe_ix ix_B (pv 0) pe_int (fun _ _ => rfl)) (pa_cons (pv 1) pa_nil)))) (blkOk_by (own := [("way", 2)]) (N := ["kind", "n", "way", "first"]) (sc := defScope s_law_ways) (by decide +kernel)) (fun _ _ _ _ _ => (pg_name (i := 2) sc_law_ways.nd rfl (by first | exact Or.inl rfl | exact Or.inr rfl))) (fun _ _ _ _ _ => pts_nil) (fun _ _ _ _ _ => (pe_op (r := rAddB K) op_addB (pe_lst (pa_cons pe_str pa_nil)) (pv 2))))
  (pss_one (ps_ret (pe_op op_addA (pv 3) (pe_lc (own := [("way", 2)]) (g := gName 2) (tt := tYes) (by rfl) sc_law_ways.nd (pi_list (pe_calC C_law_ways (hr.mono (by first | decide | omega)) pass0 (pa_cons (pe_ix ix_B (pv 0) pe_int (fun _ _ => rfl)) (pa_cons (pv 1) pa_nil)))) (blkOk_by (own := [("way", 2)]) (N := ["kind", "n", "way", "first"]) (sc := defScope s_law_ways) (by decide +kernel)) (fun _ _ _ _ _ => (pg_name (i := 2) sc_law_ways.nd rfl (by first | exact Or.inl rfl | exact Or.inr rfl))) (fun _ _ _ _ _ => pts_nil) (fun _ _ _ _ _ => (pe_op (r := rAddB K) op_addB (pe_lst (pa_cons pe_str pa_nil)) (pv 2))))))))))), ?_⟩
  rcases kd_split k hd with ⟨a, i, rfl, rfl, hK⟩ | ⟨a, rfl, rfl, hK⟩ | ⟨mk, ww, x, y, a, v1, v2, rfl, M, hm, rfl, hK, d1, d2⟩
  · replace hK := KB.Same.tup (out_sub z H) hK
    refine ⟨_, rfl, ix0_seq (.inr hK) (.inl ⟨rfl, _, rfl, iteT' (by decide) ⟨Nat.zero_le _, fun l0 hl0 => ⟨(by show 1 ≤ sizeLine; decide), fun l1 hl1 => ?_⟩⟩⟩)⟩
    have s0 := same_new hl0 (.lst [])
    have s1 := same_new hl1 (.lst [.ref l0])
    have s01 := s0.trans s1
    refine ⟨_, rfl, .inl (.inr (.inl ⟨a, _, 1, _, rfl, rfl, KB.Same.tup s01 hK, at1 _ _ _, _, rfl, .inl ⟨rfl, .inr ⟨_, rfl, .inr ⟨l1, _, _, rfl, rfl, upd_same, ?_, ?_, ?_, fun p hp => ?_⟩⟩⟩⟩))⟩
    · split <;> decide
    · split <;> decide
    · split <;> (show 1 * _ ≤ sizeLine; decide)
    have sp := s01.trans (same_new hp (.lst (List.replicate ((if decide (V.int (i : Nat) = V.int (n : Nat)) = true then (1 : Int) else 0)).toNat [V.ref l0]).flatten))
    have hpn : H p = none := by
      cases e : H p with
      | none => rfl
      | some o => rw [s01 _ _ e] at hp; cases hp
    refine q p _ _ sp hpn upd_same ?_
    simp only [wys]
    by_cases c : i = n
    · subst c
      rw [if_pos rfl, decide_eq_true rfl]
      have nz : l0 ≠ z := fun h => by rw [h, ez] at hl0; cases hl0
      exact .cons (out_at nz ((same_new hp _) _ _ (s1 _ _ upd_same))) .nil .nil
    · rw [if_neg c, decide_eq_false (fun h => c (by have := V.int.inj h; omega))]
      exact .nil
  · replace hK := KB.Same.tup (out_sub z H) hK
    exact ⟨_, rfl, ix0_seq (.inr hK) (.inl ⟨rfl, _, rfl, iteF' (by decide) ⟨_, rfl, ix0_seq (.inr hK) (.inl ⟨rfl, _, rfl, iteT' (by decide) ⟨Nat.zero_le _, fun p hp => q p [] _ (same_new hp _) hp upd_same .nil⟩⟩)⟩⟩)⟩
  · replace hK := KB.Same.tup (out_sub z H) hK
    rcases hm with ⟨rfl, rfl⟩ | ⟨rfl, rfl⟩
    · simp only [Kd.deep] at hN
      simp only [Kd.leaves] at hlv
      refine ⟨_, rfl, ix0_seq (.inr hK) (.inl ⟨rfl, _, rfl, iteF' (by decide) ⟨_, rfl, ix0_seq (.inr hK) (.inl ⟨rfl, _, rfl, iteF' (by decide) ⟨_, rfl, ix0_seq (.inr hK) (.inl ⟨rfl, _, rfl, iteF' (by decide) ?_⟩)⟩⟩)⟩⟩)⟩
      refine ⟨_, rfl, .inl (.inr (.inl ⟨a, _, 1, _, rfl, rfl, hK, at1 _ _ _, _, rfl, v1, n, x, z, rfl, ⟨oz, ez⟩, d1, by omega, by omega, fun p us H1 s1 np ep hW => ⟨p, rfl, ⟨_, .of ep⟩, fun D hD => ?_⟩⟩))⟩
      have lx := wys_len x n
      refine lc_pre (s := .half false) (hv := .str "first") (by simp [L2.start]) hD ⟨oz, s1 _ _ ez⟩ ep hW rfl (by rw [hW.length]; omega) (fun w hw => by have := wys_each x n w hw; have := x.deep_le; omega) (fun _ _ _ _ h => h) fun acc H2 sm eD hA => ?_
      have s2 := of_out sm
      have s12 := s1.trans s2
      refine ⟨_, rfl, _, rfl, .inl (.inr (.inl ⟨a, _, 2, _, rfl, rfl, KB.Same.tup s12 hK, at2 _ _ _ _, _, rfl, v2, n, y, z, rfl, ⟨oz, s12 _ _ ez⟩, d2.same (out_same s12), by omega, by omega, fun p2 us2 H3 s3 np2 ep2 hW2 => ⟨p2, rfl, ⟨_, .of ep2⟩, fun D2 hD2 => ?_⟩⟩))⟩
      have ly := wys_len y n
      refine lc_pre (s := .half true) (hv := .str "second") (by simp [L2.start]) hD2 ⟨oz, s3 _ _ (s12 _ _ ez)⟩ ep2 hW2 rfl (by rw [hW2.length]; omega) (fun w hw => by have := wys_each y n w hw; have := y.deep_le; omega) (fun _ _ _ _ h => h) fun acc2 H4 sm4 eD4 hA4 => ?_
      have s4 := of_out sm4
      have e1 := s4 _ _ (s3 _ _ eD)
      have l1 := hA.length
      have l2 := hA4.length
      rw [List.length_map] at l1 l2
      refine .inr (.inr (.inl ⟨D, D2, _, _, rfl, rfl, e1, eD4, fits (by omega), fun r hr => ?_⟩))
      have s5 := same_new hr (.lst (acc ++ acc2))
      have s15 := ((s12.trans s3).trans s4).trans s5
      have hr0 : H r = none := by
        cases e : H r with
        | none => rfl
        | some o => rw [((s12.trans s3).trans s4) _ _ e] at hr; cases hr
      refine q r _ _ s15 hr0 upd_same ?_
      simp only [wys]
      exact ((hA.same (out_sub _ _)).same (out_same ((s3.trans s4).trans s5))).append ((hA4.same (out_sub _ _)).same (out_same s5))
    · simp only [Kd.deep] at hN
      simp only [Kd.leaves] at hlv
      refine ⟨_, rfl, ix0_seq (.inr hK) (.inl ⟨rfl, _, rfl, iteF' (by decide) ⟨_, rfl, ix0_seq (.inr hK) (.inl ⟨rfl, _, rfl, iteF' (by decide) ⟨_, rfl, ix0_seq (.inr hK) (.inl ⟨rfl, _, rfl, iteT' (by decide) ?_⟩)⟩⟩)⟩⟩)⟩
      refine ⟨_, rfl, .inl (.inr (.inl ⟨a, _, 2, _, rfl, rfl, hK, at2 _ _ _ _, _, rfl, v2, n, y, z, rfl, ⟨oz, ez⟩, d2, by omega, by omega, fun p us H1 s1 np ep hW => ⟨p, rfl, ⟨_, .of ep⟩, fun D hD => ?_⟩⟩))⟩
      have ly := wys_len y n
      refine lc_pre (s := .arg x) (hv := v1) (by simp [L2.start]) hD ⟨oz, s1 _ _ ez⟩ ep hW (d1.same (out_same s1)) (by rw [hW.length]; omega) (fun w hw => by have := wys_each y n w hw; have := y.deep_le; omega) (fun x' H' Q' s' h => ⟨_, rfl, .inl (.inr (.inl ⟨a, _, 1, v1, rfl, rfl, KB.Same.tup (s1.trans s') hK, at1 _ _ _, h⟩))⟩) fun acc H2 sm eD hA => ?_
      have s2 := of_out sm
      have hD0 : H D = none := by
        cases e : H D with
        | none => rfl
        | some o => rw [s1 _ _ e] at hD; cases hD
      refine q D _ _ (s1.trans s2) hD0 eD ?_
      simp only [wys]
      exact hA.same (out_sub _ _)
theorem ok_ways (A : At K mg "_law_ways" s_law_ways) (T : Txt K mg w CN CT) : ∀ N : Nat, Cal P w K mg base CX0 N "_law_ways" ["kind", "n"] (spWays K N)
  | 0 => cal_vac A (fun f fd F => F.binds (ps := ["kind", "n"]) (fun _ _ _ _ _ _ us hl => match us, hl with | [_, _], _ => rfl)) fun vs H Q E ⟨v, n, k, z, _, _, _, h, _⟩ => absurd h (Nat.not_lt_zero _)
  | N + 1 => ok_ways1 A T (ok_ways A T N)
end

/-! ## a plain term of a kind -/
def fol : Kd → List Stp → Option Kd
  | k, [] => some k
  | .p x y, .half b :: r => fol (if b = true then y else x) r
  | .f x y, .arg a :: r => if a = x then fol y r else none
  | _, _ :: _ => none
theorem wys_fol : ∀ (k : Kd) (n : Nat) (w : List Stp), w ∈ wys k n → fol k w = some (.b n)
  | .b i, n, w, h => by
    simp only [wys] at h
    split at h
    · rename_i e; simp at h; subst h; rw [e]; rfl
    · simp at h
  | .u, n, w, h => by simp [wys] at h
  | .f x y, n, w, h => by
    simp only [wys] at h
    obtain ⟨u, hu, rfl⟩ := List.mem_map.mp h
    simp only [fol, if_true]
    exact wys_fol y n u hu
  | .p x y, n, w, h => by
    simp only [wys] at h
    rcases List.mem_append.mp h with h | h
    · obtain ⟨u, hu, rfl⟩ := List.mem_map.mp h
      exact wys_fol x n u hu
    · obtain ⟨u, hu, rfl⟩ := List.mem_map.mp h
      exact wys_fol y n u hu
theorem wys_arg : ∀ (k : Kd) (n : Nat) (w : List Stp), w ∈ wys k n → w.length + 1 ≤ k.deep ∧ (k.ok → ∀ a, Stp.arg a ∈ w → a.ok ∧ a.deep + 1 ≤ k.deep)
  | .b i, n, w, h => by
    simp only [wys] at h
    split at h
    · simp at h; subst h; exact ⟨by simp [Kd.deep], fun _ a h => by cases h⟩
    · simp at h
  | .u, n, w, h => by simp [wys] at h
  | .f x y, n, w, h => by
    simp only [wys] at h
    obtain ⟨u, hu, rfl⟩ := List.mem_map.mp h
    obtain ⟨h1, h2⟩ := wys_arg y n u hu
    refine ⟨by simp only [List.length_cons, Kd.deep]; omega, fun ok a ha => ?_⟩
    rcases List.mem_cons.mp ha with e | ha
    · injection e with e; subst e; exact ⟨ok.1, by simp only [Kd.deep]; omega⟩
    · have := h2 ok.2 a ha; exact ⟨this.1, by simp only [Kd.deep]; omega⟩
  | .p x y, n, w, h => by
    simp only [wys] at h
    rcases List.mem_append.mp h with h | h
    · obtain ⟨u, hu, rfl⟩ := List.mem_map.mp h
      obtain ⟨h1, h2⟩ := wys_arg x n u hu
      refine ⟨by simp only [List.length_cons, Kd.deep]; omega, fun ok a ha => ?_⟩
      rcases List.mem_cons.mp ha with e | ha
      · cases e
      · have := h2 ok.1 a ha; exact ⟨this.1, by simp only [Kd.deep]; omega⟩
    · obtain ⟨u, hu, rfl⟩ := List.mem_map.mp h
      obtain ⟨h1, h2⟩ := wys_arg y n u hu
      refine ⟨by simp only [List.length_cons, Kd.deep]; omega, fun ok a ha => ?_⟩
      rcases List.mem_cons.mp ha with e | ha
      · cases e
      · have := h2 ok.2 a ha; exact ⟨this.1, by simp only [Kd.deep]; omega⟩
theorem leaves_pow : ∀ k : Kd, k.leaves ≤ 2 ^ k.deep
  | .b _ => by simp [Kd.leaves, Kd.deep]
  | .u => by simp [Kd.leaves, Kd.deep]
  | .p x y => by
    have h1 := leaves_pow x
    have h2 := leaves_pow y
    have m1 := Nat.pow_le_pow_right (n := 2) (by decide) (Nat.le_max_left x.deep y.deep)
    have m2 := Nat.pow_le_pow_right (n := 2) (by decide) (Nat.le_max_right x.deep y.deep)
    simp only [Kd.leaves, Kd.deep, Nat.add_comm 1, Nat.pow_succ]
    omega
  | .f x y => by
    have h1 := leaves_pow x
    have h2 := leaves_pow y
    have m1 := Nat.pow_le_pow_right (n := 2) (by decide) (Nat.le_max_left x.deep y.deep)
    have m2 := Nat.pow_le_pow_right (n := 2) (by decide) (Nat.le_max_right x.deep y.deep)
    simp only [Kd.leaves, Kd.deep, Nat.add_comm 1, Nat.pow_succ]
    omega
theorem leaves8 {k : Kd} (h : k.deep ≤ 3) : k.leaves ≤ 8 := Nat.le_trans (leaves_pow k) (Nat.pow_le_pow_right (by decide) h)
/-- what is given: all bases, and kinds that are not deep -/
structure Gv (ks : List Kd) : Prop where
  all : ∀ n, n < 8 → Kd.b n ∈ ks
  ok : ∀ x ∈ ks, x.ok ∧ x.deep ≤ 3
theorem Gv.more {ks : List Kd} {c : Kd} (h : Gv ks) (ok : c.ok) (d : c.deep ≤ 3) : Gv (ks ++ [c]) :=
  ⟨fun n hn => List.mem_append_left _ (h.all n hn), fun x hx => by
    rcases List.mem_append.mp hx with hx | hx
    · exact h.ok x hx
    · rw [List.mem_singleton.mp hx]; exact ⟨ok, d⟩⟩
/-- a good term: its kind, its bounds -/
structure Tg (t : Trm) (ks : List Kd) (k : Kd) (h : Nat) : Prop where
  wf : t.wf
  jd : t.jd ks = some k
  ht : t.ht ≤ h
  kd : t.kdp ≤ 3
def spFlat (K : PySem.W.Frag) (N : Nat) : Sp := fun vs H Q _ => ∃ (wl g : Addr) (v : V) (k : Kd) (ks : List Kd) (f : Nat), vs = [.ref wl, v, .ref g, .int (f : Nat)] ∧ Well H wl ∧ Dq K (out wl H) v k.dat ∧ k.ok ∧ k.deep ≤ 3 ∧ f ≤ 1 ∧ k.deep + 4 * f < N ∧ N ≤ 20 ∧ KsAt K (out wl H) g ks ∧ Gv ks ∧ ks.length + N ≤ 200 ∧
  ∀ t v' H', Tg t ks k (k.deep + 5 * f) → Dq K (out wl H') v' t.dat → Aft wl H H' → Q v' H'
/-- the number of a given, and a way from it -/
inductive PrsV (K : PySem.W.Frag) (H : Hp) : List V → List (Nat × List Stp) → Prop where
  | nil : PrsV K H [] []
  | cons {a q : Addr} {i : Nat} {us vs : List V} {w : List Stp} {r : List (Nat × List Stp)} : H a = some (.tup [.int (i : Nat), .ref q]) → H q = some (.lst us) → StsV K H us w → PrsV K H vs r → PrsV K H (.ref a :: vs) ((i, w) :: r)
section
variable {K : PySem.W.Frag} {H H' : Hp}
theorem PrsV.same (s : Same H H') : ∀ {vs : List V} {r : List (Nat × List Stp)}, PrsV K H vs r → PrsV K H' vs r
  | _, _, .nil => .nil
  | _, _, .cons e e2 a b => .cons (s _ _ e) (s _ _ e2) (a.same s) (PrsV.same s b)
theorem PrsV.length : ∀ {vs : List V} {r : List (Nat × List Stp)}, PrsV K H vs r → vs.length = r.length
  | _, _, .nil => rfl
  | _, _, .cons _ _ _ b => by rw [List.length_cons, List.length_cons, PrsV.length b]
theorem PrsV.append : ∀ {vs us : List V} {r s : List (Nat × List Stp)}, PrsV K H vs r → PrsV K H us s → PrsV K H (vs ++ us) (r ++ s)
  | _, _, _, _, .nil, c => c
  | _, _, _, _, .cons e e2 a b, c => .cons e e2 a (PrsV.append b c)
theorem PrsV.at : ∀ {vs : List V} {r : List (Nat × List Stp)}, PrsV K H vs r → ∀ {i : Nat} {x : V}, vs[i]? = some x → ∃ a q us p, x = .ref a ∧ r[i]? = some p ∧ H a = some (.tup [.int (p.1 : Nat), .ref q]) ∧ H q = some (.lst us) ∧ StsV K H us p.2
  | _, _, .nil, i, x, h => by cases h
  | _, _, .cons e e2 a b, 0, x, h => by cases h; exact ⟨_, _, _, _, rfl, rfl, e, e2, a⟩
  | _, _, .cons e e2 a b, i + 1, x, h => PrsV.at b h
end
def wyD : List Stp → List PyData
  | [] => []
  | .arg k :: r => k.dat :: wyD r
  | .half b :: r => .str (wdOf b) :: wyD r
theorem wyD_lay : ∀ w : List Stp, (PyData.list (wyD w)).canLay0 = true := fun w => by
  rw [PyData.canLay0]
  induction w with
  | nil => rfl
  | cons s r ih => cases s with
    | arg k => simp [wyD, PyData.canLayAll0, Kd.dat_lay, ih]
    | half b =>
      have : (PyData.str (wdOf b)).canLay0 = true := by cases b <;> decide +kernel
      simp [wyD, PyData.canLayAll0, this, ih]
theorem StsV.data {K : PySem.W.Frag} {H : Hp} : ∀ {vs : List V} {r : List Stp}, StsV K H vs r → DqAll K H vs (wyD r)
  | _, _, .nil => .nil
  | _, _, .cons (s := .arg k) a b => .cons a (StsV.data b)
  | _, _, .cons (s := .half x) a b => by
    have e : _ = V.str (wdOf x) := a
    subst e
    exact .cons (.str _) (StsV.data b)
theorem StsV.at {K : PySem.W.Frag} {H : Hp} : ∀ {vs : List V} {r : List Stp}, StsV K H vs r → ∀ {i : Nat} {x : V}, vs[i]? = some x → ∃ s, r[i]? = some s ∧ StV K H x s
  | _, _, .nil, i, x, h => by cases h
  | _, _, .cons a b, 0, x, h => by cases h; exact ⟨_, rfl, a⟩
  | _, _, .cons a b, i + 1, x, h => StsV.at b h
abbrev s_law_flat : Stmt := top 29
theorem sc_law_flat : FnScope ["well", "kind", "given", "fuel", "ways", "k", "way", "pair", "term", "step"] ["well", "kind", "given", "fuel"] (defScope s_law_flat) := ⟨rfl, rfl, rfl, by decide +kernel, rfl, by decide +kernel, by decide +kernel⟩
section
variable {P : Program} {w : World} {K : PySem.W.Frag} {mg : Str → Option Value} {base : Heap} {CN CT : Addr}
theorem ok_flat1 {N : Nat} (A : At K mg "_law_flat" s_law_flat) (T : Txt K mg w CN CT) (C_law_draw : Cal P w K mg base CX0 1 "_law_draw" ["well", "width"] spDraw) (C_law_ways : Cal P w K mg base CX0 5 "_law_ways" ["kind", "n"] (spWays K 5)) (C_law_flat : Cal P w K mg base CX0 (N + 5) "_law_flat" ["well", "kind", "given", "fuel"] (spFlat K N)) : Cal P w K mg base CX0 (N + 6) "_law_flat" ["well", "kind", "given", "fuel"] (spFlat K (N + 1)) := by
  obtain ⟨f, fd, F, m⟩ := A
  refine ⟨f, fd, F.ok sc_law_flat (fun vs H Q E h => ?_) (fun cdv A outer s H vs Q E hr h => ?_), F.binds (ps := ["well", "kind", "given", "fuel"]) (fun _ _ _ _ _ _ us hl => match us, hl with | [_, _, _, _], _ => rfl), F.kp, m⟩
  · obtain ⟨wl, g, v, k, ks, f, rfl, _⟩ := h; rfl
  obtain ⟨wl, g, v, k, ks, fu, rfl, hw, hd, ok, dp, fu1, hN, hN2, hG, gv, hkl, q⟩ := h
  have gl : ∀ x ∈ ks, x.deep < 5 ∧ x.leaves ≤ 8 := fun x hx => by have := (gv.ok x hx).2; exact ⟨by omega, leaves8 this⟩
  refine ⟨_, (pss_cons (ps_if (pt_cmpR (op_eqA (room200 hr)) (pe_ix ix_B (pv 1) pe_int (fun _ _ => rfl)) pe_str (nomark _))
   (pss_one (ps_ret (pe_tup (pa_cons pe_str pa_nil))))
   pss_nil)
  (pss_cons (ps_if (pt_cmpR (op_eqA (room200 hr)) (pe_ix ix_B (pv 1) pe_int (fun _ _ => rfl)) pe_str (nomark _))
   (pss_one (ps_ret (pe_tup (pa_cons pe_str (pa_cons (pe_calC C_law_flat (hr.mono (by first | decide | omega)) pass0 (pa_cons (pv 0) (pa_cons (pe_ix ix_B (pv 1) pe_int (fun _ _ => rfl)) (pa_cons (pv 2) (pa_cons (pv 3) pa_nil))))) (pa_cons (pe_calC C_law_flat (hr.mono (by first | decide | omega)) pass0 (pa_cons (pv 0) (pa_cons (pe_ix ix_B (pv 1) pe_int (fun _ _ => rfl)) (pa_cons (pv 2) (pa_cons (pv 3) pa_nil))))) pa_nil))))))
   pss_nil)
  (pss_cons (ps_if (pt_cmpR (op_eqA (room200 hr)) (pe_ix ix_B (pv 1) pe_int (fun _ _ => rfl)) pe_str (nomark _))
   (pss_one (ps_ret (pe_tup (pa_cons pe_str (pa_cons (pe_ix ix_B (pv 1) pe_int (fun _ _ => rfl)) (pa_cons (pe_calC C_law_flat (hr.mono (by first | decide | omega)) pass0 (pa_cons (pv 0) (pa_cons (pe_ix ix_B (pv 1) pe_int (fun _ _ => rfl)) (pa_cons (pe_op op_addA (pv 2) (pe_lst (pa_cons (pe_ix ix_B (pv 1) pe_int (fun _ _ => rfl)) pa_nil))) (pa_cons (pv 3) pa_nil))))) pa_nil))))))
   pss_nil)
  (pss_gen (I := (fun D σ H1 => ∃ (n : Nat) (a : Addr), H1 = H ∧ σ = [some (.ref wl), some v, some (.ref g), some (.int (fu : Nat)), none, none, none, none, none, none] ∧ k = .b n ∧ n < 8 ∧ v = .ref a ∧ SqT K (out wl H) a [.str "base", .int (n : Nat)] ∧ ∀ v' H', Q v' H' → D.rt v' H')) (pss_cons (ps_set (i := 4) sc_law_flat.nd rfl (by first | exact Or.inl rfl | exact Or.inr rfl) (pe_lst pa_nil))
  (pss_cons (ps_for PassesOwn.never rfl (pi_range1 (by rfl) T.z_range (pa_cons (pe_callB call_len (by rfl) T.z_len (by decide +kernel) (pa_cons (pv 2) pa_nil)) pa_nil)) (pg_name (i := 5) sc_law_flat.nd rfl (by first | exact Or.inl rfl | exact Or.inr rfl))
   (pss_one (ps_set (i := 4) sc_law_flat.nd rfl (by first | exact Or.inl rfl | exact Or.inr rfl) (pe_op op_addA (pv 4) (pe_lc (own := [("way", 6)]) (g := gName 6) (tt := tYes) (by rfl) sc_law_flat.nd (pi_list (pe_calC C_law_ways (hr.mono (by first | decide | omega)) pass0 (pa_cons (pe_ix ix_B (pv 2) (pv 5) (fun _ _ => rfl)) (pa_cons (pe_ix ix_B (pv 1) pe_int (fun _ _ => rfl)) pa_nil)))) (blkOk_by (own := [("way", 6)]) (N := ["well", "kind", "given", "fuel", "ways", "k", "way", "pair", "term", "step"]) (sc := defScope s_law_flat) (by decide +kernel)) (fun _ _ _ _ _ => (pg_name (i := 6) sc_law_flat.nd rfl (by first | exact Or.inl rfl | exact Or.inr rfl))) (fun _ _ _ _ _ => pts_nil) (fun _ _ _ _ _ => (pe_tup (pa_cons (pv 5) (pa_cons (pv 6) pa_nil)))))))))
  (pss_gen (I := (fun D σ H1 => ∃ (n : Nat) (pl : Addr) (us : List V) (prs : List (Nat × List Stp)) (o5 o6 : Option V), σ = [some (.ref wl), some v, some (.ref g), some (.int (fu : Nat)), some (.ref pl), o5, o6, none, none, none] ∧ Same H H1 ∧ H1 pl = some (.lst us) ∧ pl ≠ wl ∧ PrsV K (out wl H1) us prs ∧ (∀ p ∈ prs, ∃ x, ks[p.1]? = some x ∧ p.2 ∈ wys x n) ∧ (∃ j, (j, []) ∈ prs) ∧ prs.length ≤ 8 * ks.length ∧ k = .b n ∧ n < 8 ∧ ∀ v' H', Q v' H' → D.rt v' H')) (pss_cons (ps_if (pt_cmpR op_le (pv 3) pe_int (nomark _))
   (pss_one (ps_setLc (i := 4) (own := [("pair", 7)]) (g := gName 7) (by rfl) sc_law_flat.nd rfl rfl (sw_true rfl rfl rfl (by decide +kernel)) (pi_list (pv 4)) (blkOk_by (own := [("pair", 7)]) (N := ["well", "kind", "given", "fuel", "ways", "k", "way", "pair", "term", "step"]) (sc := defScope s_law_flat) (by decide +kernel)) (fun _ _ _ _ _ => (pg_name (i := 7) sc_law_flat.nd rfl (by first | exact Or.inl rfl | exact Or.inr rfl))) (fun _ _ _ _ _ => (pts_one (pt_cmpR (r := rEqA K) (op_eqA (room200 hr)) (pe_ix (r := rIxB K w) ix_B (pv 7) pe_int (fun _ _ => rfl)) (pe_lst pa_nil) (nomark _)))) (fun _ _ _ _ _ => (pv 7))))
   pss_nil)
  (pss_gen (I := (fun D σ H1 => ∃ (n : Nat) (pl : Addr) (us : List V) (prs : List (Nat × List Stp)) (o5 o6 o7 : Option V), σ = [some (.ref wl), some v, some (.ref g), some (.int (fu : Nat)), some (.ref pl), o5, o6, o7, none, none] ∧ Same H H1 ∧ H1 pl = some (.lst us) ∧ pl ≠ wl ∧ PrsV K (out wl H1) us prs ∧ (∀ p ∈ prs, ∃ x, ks[p.1]? = some x ∧ p.2 ∈ wys x n) ∧ prs ≠ [] ∧ prs.length ≤ 8 * ks.length ∧ (fu = 0 → ∀ p ∈ prs, p.2 = []) ∧ k = .b n ∧ n < 8 ∧ ∀ v' H', Q v' H' → D.rt v' H')) (pss_cons (ps_asg (pe_ix ix_B (pv 4) (pe_calC C_law_draw (hr.mono (by first | decide | omega)) pass0 (pa_cons (pv 0) (pa_cons (pe_callB call_len (by rfl) T.z_len (by decide +kernel) (pa_cons (pv 4) pa_nil)) pa_nil))) (fun _ _ => rfl)) (pg_tup (by rfl) (pgs_cons (pg_name (i := 5) sc_law_flat.nd rfl (by first | exact Or.inl rfl | exact Or.inr rfl)) (pgs_cons (pg_name (i := 6) sc_law_flat.nd rfl (by first | exact Or.inl rfl | exact Or.inr rfl)) pgs_nil))))
  (pss_cons (ps_set (i := 8) sc_law_flat.nd rfl (by first | exact Or.inl rfl | exact Or.inr rfl) (pe_tup (pa_cons pe_str (pa_cons (pv 5) pa_nil))))
  (pss_cons (ps_for PassesOwn.never rfl (pi_list (pv 6)) (pg_name (i := 9) sc_law_flat.nd rfl (by first | exact Or.inl rfl | exact Or.inr rfl))
   (pss_one (ps_if (pt_val (pe_callB call_isiD (by rfl) T.z_isinstance (by decide +kernel) (pa_cons (pv 9) (pa_cons (pe_bltn (v := .ty "str") (by rfl) T.z_str (by decide +kernel) rfl) pa_nil))))
   (pss_one (ps_set (i := 8) sc_law_flat.nd rfl (by first | exact Or.inl rfl | exact Or.inr rfl) (pe_tup (pa_cons (pv 9) (pa_cons (pv 8) pa_nil)))))
   (pss_one (ps_set (i := 8) sc_law_flat.nd rfl (by first | exact Or.inl rfl | exact Or.inr rfl) (pe_tup (pa_cons pe_str (pa_cons (pv 8) (pa_cons (pe_calC C_law_flat (hr.mono (by first | decide | omega)) pass0 (pa_cons (pv 0) (pa_cons (pv 9) (pa_cons (pv 2) (pa_cons (pe_op op_sub (pv 3) pe_int) pa_nil))))) pa_nil)))))))))
  (pss_one (ps_ret (pv 8)))))) ?i6)) ?i5))) ?i3)))), ?first⟩
  case i3 =>
    rintro D σ H1 ⟨n, a, rfl, rfl, rfl, n8, rfl, hT, hn⟩
    obtain ⟨gs, eg, hgA⟩ := hG
    have gsl := hgA.length
    rw [List.length_map] at gsl
    obtain ⟨xw, yw, zw, ewl⟩ := id hw
    refine ⟨Nat.zero_le _, fun p0 hp0 => ?_⟩
    have s0 := same_new hp0 (.lst [])
    have e0 : upd H1 p0 (.lst []) p0 = some (.lst []) := upd_same
    have n0 : p0 ≠ wl := (ne_of_none ewl hp0).symm
    generalize upd H1 p0 (.lst []) = H0 at s0 e0 ⊢
    refine ⟨_, rfl, _, _, rfl, .inl ⟨_, .of (s0 _ _ (out_some eg).2), rfl⟩, gs.length, rfl, by omega, Int.lt_of_le_of_lt (Int.ofNat_le.mpr (show gs.length ≤ 200 by omega)) (by decide), ?_⟩
    refine for_range (lo := 0) (n := gs.length) (fun i σ H' => ∃ (pl : Addr) (us : List V) (prs : List (Nat × List Stp)) (o5 o6 : Option V), σ = [some (.ref wl), some (.ref a), some (.ref g), some (.int (fu : Nat)), some (.ref pl), o5, o6, none, none, none] ∧ Same H1 H' ∧ H' pl = some (.lst us) ∧ pl ≠ wl ∧ PrsV K (out wl H') us prs ∧ (∀ p ∈ prs, ∃ x, ks[p.1]? = some x ∧ p.2 ∈ wys x n) ∧ (∀ j, j < i → ks[j]? = some (.b n) → (j, []) ∈ prs) ∧ prs.length ≤ 8 * i) ⟨p0, [], [], _, _, rfl, s0, e0, n0, .nil, (fun p h => by cases h), (fun j h => by omega), by simp⟩ ?_ ?_
    · rintro i σ H2 hi ⟨pl, us, prs, o5, o6, rfl, s2, epl, npl, hP, hin, hall, hlen⟩
      have ik : i < ks.length := by omega
      have hx : ks[i] ∈ ks := List.getElem_mem ik
      have dx : Dq K (out wl H2) gs[i] ks[i].dat := by
        obtain ⟨d, e1, d1⟩ := hgA.get (List.getElem?_eq_getElem hi)
        rw [List.getElem?_map, List.getElem?_eq_getElem ik] at e1
        cases e1
        exact d1.same (out_same s2)
      have ii : ((0 : Int) + ((i : Nat) : Int)) = ((i : Nat) : Int) := by omega
      rw [ii]
      refine ⟨_, rfl, _, rfl, _, rfl, ixLi (.of (s2 _ _ (out_some eg).2)) (List.getElem?_eq_getElem hi) ⟨_, rfl, .inl (.inr (.inl ⟨a, _, 1, _, rfl, rfl, KB.Same.tup (s2.trans (Same.refl _)) (KB.Same.tup (out_sub _ _) hT), at1 _ _ _, ?_⟩))⟩⟩
      refine ⟨gs[i], n, ks[i], wl, rfl, ⟨_, s2 _ _ ewl⟩, dx, (gl _ hx).1, by have := (gl _ hx).2; omega, fun p ws H3 s3 np ep hW => ⟨p, rfl, ⟨_, .of ep⟩, fun D2 hD2 => ?_⟩⟩
      have wl3 := (s2.trans s3) _ _ ewl
      have wlen := hW.length
      have wl8 := wys_len ks[i] n
      have l8 := (gl _ hx).2
      have nD : D2 ≠ wl := (ne_of_none wl3 hD2).symm
      refine lc_list (K := K) (a := p) (xs := ws) (fun j H' => ∃ acc, H' D2 = some (.lst acc) ∧ PrsV K (out D2 (out wl H')) acc (((wys ks[i] n).take j).map fun w => (i, w)) ∧ Same H3 (out D2 H')) ⟨[], upd_same, .nil, same_out hD2 (same_new hD2 _)⟩ (fun j H' _ ⟨_, _, _, h⟩ => .of (of_out h _ _ ep)) ?_ ?_
      · rintro j x H4 hx4 ⟨acc, eD, ha, sm⟩
        have jl : j < (wys ks[i] n).length := by rw [← wlen]; exact (List.getElem?_eq_some_iff.mp hx4).1
        have h34 := of_out sm
        obtain ⟨qa, vs, w, rfl, ew, eq, hv'⟩ := hW.at hx4
        have al := ha.length
        rw [List.length_map, List.length_take] at al
        refine ⟨rfl, _, rfl, _, rfl, (by show 2 ≤ sizeLine; decide), fun r hr => ⟨acc, same_new hr _ _ _ eD, fits_lt (by omega), acc ++ [.ref r], upd_same, ?_, sm.trans ((out_same (same_new hr _)).trans (out_set _))⟩⟩
        have s4 := same_new hr (.tup [.int (i : Nat), .ref qa])
        have nrD : r ≠ D2 := (ne_of_none eD hr).symm
        have nrz : r ≠ wl := (ne_of_none (h34 _ _ wl3) hr).symm
        have sO : Same (out D2 (out wl H4)) (out D2 (out wl (upd (upd H4 r (.tup [.int (i : Nat), .ref qa])) D2 (.lst (acc ++ [.ref r]))))) := by
          refine (out_same (out_same s4)).trans fun b o h => ?_
          have h1 := out_some h
          have h2 := out_some h1.2
          exact out_at h1.1 (out_at h2.1 ((upd_ne h1.1).trans h2.2))
        have s1O : Same (out wl H3) (out D2 (out wl (upd (upd H4 r (.tup [.int (i : Nat), .ref qa])) D2 (.lst (acc ++ [.ref r]))))) := by
          refine Same.trans (fun b o h => ?_) sO
          have h1 := out_some h
          have h2 := out_some (sm b o h1.2)
          exact out_at h2.1 (out_at h1.1 h2.2)
        rw [List.take_succ, ew, List.map_append]
        exact (ha.same sO).append (.cons (out_at nrD (out_at nrz ((upd_ne nrD).trans upd_same))) (s1O _ _ eq) (hv'.same s1O) .nil)
      · rintro H4 ⟨acc, eD, ha, sm⟩
        rw [wlen, List.take_length] at ha
        have h34 := of_out sm
        have e4 := h34 _ _ (s3 _ _ epl)
        have al := ha.length
        rw [List.length_map] at al
        have pl2 := hP.length
        refine .inr (.inr (.inl ⟨pl, D2, _, _, rfl, rfl, e4, eD, fits (by omega), fun r hr => ?_⟩))
        have s5 := same_new hr (.lst (us ++ acc))
        have nr : r ≠ wl := (ne_of_none (h34 _ _ wl3) hr).symm
        refine ⟨r, us ++ acc, prs ++ (wys ks[i] n).map (fun w => (i, w)), _, _, rfl, ((s2.trans s3).trans h34).trans s5, upd_same, nr, (hP.same (out_same ((s3.trans h34).trans s5))).append ((ha.same (out_sub _ _)).same (out_same s5)), fun p hp => ?_, fun j hj ej => ?_, ?_⟩
        · rcases List.mem_append.mp hp with hp | hp
          · exact hin p hp
          · obtain ⟨w, hw', rfl⟩ := List.mem_map.mp hp
            exact ⟨ks[i], List.getElem?_eq_getElem ik, hw'⟩
        · by_cases c : j = i
          · subst c
            rw [List.getElem?_eq_getElem ik] at ej
            refine List.mem_append_right _ (List.mem_map.mpr ⟨[], ?_, rfl⟩)
            rw [Option.some.inj ej]
            simp [wys]
          · exact List.mem_append_left _ (hall j (by omega) ej)
        · rw [List.length_append, List.length_map]; omega
    · rintro σ H2 ⟨pl, us, prs, o5, o6, rfl, s2, epl, npl, hP, hin, hall, hlen⟩
      obtain ⟨j, lt, ej⟩ := List.getElem_of_mem (gv.all n n8)
      exact ⟨n, pl, us, prs, _, _, rfl, s2, epl, npl, hP, hin, ⟨j, hall j (by omega) (by rw [List.getElem?_eq_getElem lt, ej])⟩, by omega, rfl, n8, hn⟩
  case i5 =>
    rintro D σ H1 ⟨n, pl, us, prs, o5, o6, rfl, s1, epl, npl, hP, hin, ⟨j0, hj0⟩, hlen, rfl, n8, hn⟩
    refine ⟨_, rfl, _, _, rfl, rfl, _, rfl, ite2 (fun c => ?_) (fun c => ?_)⟩
    · have f0 : fu = 0 := by have := of_decide_eq_true c; omega
      have ul := hP.length
      refine ⟨_, rfl, pl, rfl, ⟨_, .of epl⟩, fun D2 hD2 => ?_⟩
      obtain ⟨xw, yw, zw, ewl⟩ := id hw
      have wl1 := s1 _ _ ewl
      have nD : D2 ≠ wl := (ne_of_none wl1 hD2).symm
      refine lc_list (K := K) (a := pl) (xs := us) (fun j H' => ∃ acc, H' D2 = some (.lst acc) ∧ PrsV K (out D2 (out wl H')) acc ((prs.take j).filter fun p => p.2.isEmpty) ∧ Same H1 (out D2 H')) ⟨[], upd_same, .nil, same_out hD2 (same_new hD2 _)⟩ (fun j H' _ ⟨_, _, _, h⟩ => .of (of_out h _ _ epl)) ?_ ?_
      · rintro j x H2 hx ⟨acc, eD, ha, sm⟩
        have h12 := of_out sm
        obtain ⟨ra, qa, vs, p, rfl, ep, er, eq, hv'⟩ := hP.at hx
        have ep' : prs.take (j + 1) = prs.take j ++ [p] := by rw [List.take_succ, ep]; rfl
        refine ⟨rfl, _, rfl, .inl (.inr (.inl ⟨ra, _, 1, .ref qa, rfl, rfl, .of (h12 _ _ (out_some er).2), at1 _ _ _, Nat.zero_le _, fun l hl => ?_⟩))⟩
        have s3 := same_new hl (.lst [])
        have lw := (wyD_lay p.2)
        refine .inr ⟨.list (wyD p.2), .list [], (Dq.lst (.of (s3 _ _ (h12 _ _ (out_some eq).2))) (((hv'.data).same (out_same (h12.trans s3))).same (out_sub _ _))).dp lw, (Dq.lst (.of upd_same) .nil).dp rfl, lw, rfl, by simp [PyData.depth, PyData.depthAll], ?_⟩
        have ee : PyData.eqv (.list (wyD p.2)) (.list []) = p.2.isEmpty := by
          rw [ev_lst]
          cases p.2 with
          | nil => exact ev_nil
          | cons a b => cases a <;> exact ev_cnil _ _
        rw [ee]
        refine ⟨_, rfl, ?_⟩
        have al := ha.length
        have fl := List.length_filter_le (fun p : Nat × List Stp => p.2.isEmpty) (prs.take j)
        have tl := List.length_take_le' j prs
        cases c : p.2.isEmpty with
        | true =>
          have sO : Same (out D2 (out wl H2)) (out D2 (out wl (upd (upd H2 l (.lst [])) D2 (.lst (acc ++ [.ref ra]))))) := by
            refine (out_same (out_same s3)).trans fun b o h => ?_
            have h1 := out_some h
            have h2 := out_some h1.2
            exact out_at h1.1 (out_at h2.1 ((upd_ne h1.1).trans h2.2))
          have s1O : Same (out wl H1) (out D2 (out wl (upd (upd H2 l (.lst [])) D2 (.lst (acc ++ [.ref ra]))))) := by
            refine Same.trans (fun b o h => ?_) sO
            have h1 := out_some h
            have h2 := out_some (sm b o h1.2)
            exact out_at h2.1 (out_at h1.1 h2.2)
          refine ⟨_, rfl, acc, s3 _ _ eD, fits_lt (by omega), acc ++ [.ref ra], upd_same, ?_, sm.trans ((out_same s3).trans (out_set _))⟩
          rw [ep', List.filter_append]
          simp only [List.filter_cons, c, if_true, List.filter_nil]
          exact (ha.same sO).append (.cons (s1O _ _ er) (s1O _ _ eq) (hv'.same s1O) .nil)
        | false =>
          refine ⟨acc, s3 _ _ eD, ?_, sm.trans (out_same s3)⟩
          rw [ep', List.filter_append]
          simp only [List.filter_cons, c, Bool.false_eq_true, if_false, List.filter_nil, List.append_nil]
          exact ha.same (out_same (out_same s3))
      · rintro H2 ⟨acc, eD, ha, sm⟩
        rw [ul, List.take_length] at ha
        refine ⟨n, D2, acc, prs.filter fun p => p.2.isEmpty, _, _, _, rfl, s1.trans (of_out sm), eD, nD, ha.same (out_sub _ _), fun p hp => hin p (List.mem_filter.mp hp).1, List.ne_nil_of_mem (List.mem_filter.mpr ⟨hj0, rfl⟩), Nat.le_trans (List.length_filter_le _ _) hlen, fun _ p hp => List.isEmpty_iff.mp (List.mem_filter.mp hp).2, rfl, n8, hn⟩
    · have f1 : fu ≠ 0 := fun z => c (by rw [z]; decide)
      exact ⟨n, pl, us, prs, _, _, _, rfl, s1, epl, npl, hP, hin, List.ne_nil_of_mem hj0, hlen, fun z => absurd z f1, rfl, n8, hn⟩
  case i6 =>
    rintro D σ H1 ⟨n, pl, us, prs, o5, o6, o7, rfl, s1, epl, npl, hP, hin, pne, hlen, hf, rfl, n8, hn⟩
    have ul := hP.length
    have hw1 : Well H1 wl := by
      obtain ⟨x, y, z, e⟩ := hw
      exact ⟨x, y, z, s1 _ _ e⟩
    have a1 : Aft wl H H1 := ⟨hw1, out_same s1⟩
    have pos : 0 < prs.length := List.length_pos_iff.mpr pne
    refine ⟨_, rfl, _, rfl, _, rfl, _, _, rfl, .inl ⟨_, .of epl, rfl⟩, wl, _, rfl, hw1, by omega, by omega, fun d H2 d0 d1 a2 => ?_⟩
    obtain ⟨j, rfl⟩ := Int.eq_ofNat_of_zero_le d0
    have jl : j < us.length := by omega
    obtain ⟨ra, qa, vs, p, ex, ep, er, eq, hv⟩ := (hP.same a2.but).at (List.getElem?_eq_getElem jl)
    refine ixLi (.of (a2.at_ npl epl)) (List.getElem?_eq_getElem jl) ?_
    rw [ex]
    have hp := List.mem_of_getElem? ep
    obtain ⟨x0, ek0, hw0⟩ := hin p hp
    obtain ⟨gok, gdp⟩ := gv.ok x0 (List.mem_of_getElem? ek0)
    obtain ⟨wl3, warg⟩ := wys_arg x0 n p.2 hw0
    have wf0 := wys_fol x0 n p.2 hw0
    have vl := hv.length
    refine ⟨ra, _, rfl, .inl (.of (out_some er).2), rfl, _, _, rfl, _, _, rfl, rfl, ?_⟩
    refine ⟨_, rfl, (by show 2 ≤ sizeLine; decide), fun tp htp => ?_⟩
    have a3 := (a1.trans a2).new htp (.tup [.str "given", .int (p.1 : Nat)])
    have s3 := out_new (w := wl) htp (.tup [.str "given", .int (p.1 : Nat)])
    have et := a2.well.laid htp (.tup [.str "given", .int (p.1 : Nat)])
    have eq3 := s3 _ _ eq
    have hv3 := hv.same s3
    generalize upd H2 tp (.tup [.str "given", .int (p.1 : Nat)]) = H3 at a3 et eq3 hv3 ⊢
    refine ⟨_, rfl, qa, rfl, ⟨_, .of (out_some eq3).2⟩, ?_⟩
    refine for_list (K := K) (a := qa) (xs := vs) (fun i σ H' => ∃ (tv : V) (t : Trm) (kk : Kd) (o7 o9 : Option V), σ = [some (.ref wl), some v, some (.ref g), some (.int (fu : Nat)), some (.ref pl), some (.int (p.1 : Nat)), some (.ref qa), o7, some tv, o9] ∧ Aft wl H3 H' ∧ t.wf ∧ t.jd ks = some kk ∧ fol kk (p.2.drop i) = some (.b n) ∧ t.ht ≤ i + (if i = 0 then 0 else 2 + 5 * (fu - 1)) ∧ t.kdp ≤ 3 ∧ Dq K (out wl H') tv t.dat)
      ⟨.ref tp, .giv (.int (p.1 : Nat)), x0, _, _, rfl, Aft.refl a3.well, trivial, ?_, by simpa using wf0, by simp [Trm.ht], by simp [Trm.kdp], .tup (.of et) (.cons (.str _) (.cons (.int _) .nil))⟩ (fun i σ H' _ ⟨_, _, _, _, _, _, b, _⟩ => .of (out_some (b.but _ _ eq3)).2) ?_ ?_
    · show giv (.int (p.1 : Nat)) ks = some x0
      have lt : p.1 < ks.length := (List.getElem?_eq_some_iff.mp ek0).1
      show (if 0 ≤ ((p.1 : Nat) : Int) ∧ ((p.1 : Nat) : Int) < (ks.length : Nat) then ks[((p.1 : Nat) : Int).toNat]? else none) = some x0
      rw [if_pos ⟨by omega, by omega⟩, Int.toNat_natCast]
      exact ek0
    · rintro i x σ H4 hx ⟨tv, t, kk, o7, o9, rfl, b4, twf, tjd, tf, tht, tkd, tdq⟩
      have il : i < p.2.length := by rw [← vl]; exact (List.getElem?_eq_some_iff.mp hx).1
      have hst := (hv3.same b4.but).at hx
      obtain ⟨st, es, hst⟩ := hst
      have ed : p.2.drop i = st :: p.2.drop (i + 1) := by
        rw [List.drop_eq_getElem_cons il]
        rw [List.getElem?_eq_getElem il] at es
        rw [Option.some.inj es]
      rw [ed] at tf
      cases st with
      | half b =>
        have ex : x = .str (wdOf b) := hst
        subst ex
        cases kk with
        | p ka kb =>
          simp only [fol] at tf
          refine ⟨_, rfl, _, "str", .str (wdOf b), rfl, .str _, rfl, _, rfl, iteT' (by simp [isiN, tyN]) ?_⟩
          refine ⟨_, rfl, _, rfl, (by show 2 ≤ sizeLine; decide), fun tq htq => ?_⟩
          have b5 := b4.new htq (.tup [.str (wdOf b), tv])
          have s5 := out_new (w := wl) htq (.tup [.str (wdOf b), tv])
          have e5 := b4.well.laid htq (.tup [.str (wdOf b), tv])
          cases b with
          | false => exact ⟨_, .fst t, ka, _, _, rfl, b5, twf, by simp [Trm.jd, tjd, half], by simpa using tf, by simp only [Trm.ht]; rw [if_neg (Nat.succ_ne_zero i)]; split at tht <;> omega, tkd, .tup (.of e5) (.cons (.str _) (.cons (tdq.same s5) .nil))⟩
          | true => exact ⟨_, .snd t, kb, _, _, rfl, b5, twf, by simp [Trm.jd, tjd, half], by simpa using tf, by simp only [Trm.ht]; rw [if_neg (Nat.succ_ne_zero i)]; split at tht <;> omega, tkd, .tup (.of e5) (.cons (.str _) (.cons (tdq.same s5) .nil))⟩
        | _ => simp [fol] at tf
      | arg c =>
        have dc : Dq K (out wl H4) x c.dat := hst
        obtain ⟨cok, cdp⟩ := warg gok c (List.mem_of_getElem? es)
        have fu0 : fu ≠ 0 := fun z => by
          have := hf z p hp
          rw [this] at il
          simp at il
        have tyc : isiN (tyN c.dat) "str" = false := by cases c <;> rfl
        cases kk with
        | f ka kb =>
          simp only [fol] at tf
          split at tf
          · rename_i ec
            subst ec
            have ef : ((fu : Nat) : Int) - 1 = ((fu - 1 : Nat) : Int) := by omega
            simp only [Kd.deep] at hN
            refine ⟨_, rfl, x, "str", c.dat, rfl, dc.same (out_sub _ _), rfl, _, rfl, iteF' tyc ?_⟩
            refine ⟨_, rfl, _, rfl, _, rfl, _, rfl, _, rfl, _, _, rfl, rfl, wl, g, x, c, ks, fu - 1, by rw [← ef]; rfl, b4.well, dc, cok, by omega, by omega, by omega, by omega, (hG.same (a3.trans b4).but), gv, by omega, fun t2 u2 H5 g2 q2 a5 => ⟨(by show 3 ≤ sizeLine; decide), fun tq htq => ?_⟩⟩
            have b5 := (b4.trans a5).new htq (.tup [.str "do", tv, u2])
            have s5 := out_new (w := wl) htq (.tup [.str "do", tv, u2])
            have e5 := a5.well.laid htq (.tup [.str "do", tv, u2])
            refine ⟨_, .doo t t2, kb, _, _, rfl, b5, ⟨twf, g2.wf⟩, by simp [Trm.jd, tjd, g2.jd, hand], tf, ?_, ?_, .tup (.of e5) (.cons (.str _) (.cons (tdq.same (a5.but.trans s5)) (.cons (q2.same s5) .nil)))⟩
            · have := g2.ht
              simp only [Trm.ht]
              rw [if_neg (Nat.succ_ne_zero i)]
              split at tht <;> omega
            · have := g2.kd
              simp only [Trm.kdp]
              omega
          · cases tf
        | _ => simp [fol] at tf
    · rintro σ H4 ⟨tv, t, kk, o7, o9, rfl, b4, twf, tjd, tf, tht, tkd, tdq⟩
      rw [vl, List.drop_length] at tf
      have ek : kk = .b n := Option.some.inj tf
      subst ek
      refine ⟨_, rfl, hn _ _ (q t tv H4 ⟨twf, tjd, ?_, tkd⟩ tdq (a3.trans b4))⟩
      simp only [Kd.deep]
      have : vs.length = 0 → t.ht = 0 := fun z => by rw [if_pos z] at tht; omega
      split at tht
      · omega
      · have fu0 : fu ≠ 0 := fun z => by
          have h0 : vs.length = 0 := by rw [vl, hf z p hp]; rfl
          omega
        omega
  case first =>
    rcases kd_split k hd with ⟨a, i, rfl, rfl, hK⟩ | ⟨a, rfl, rfl, hK⟩ | ⟨mk, ww, x, y, a, v1, v2, rfl, M, hm, rfl, hK, d1, d2⟩
    · have hK' := KB.Same.tup (out_sub wl H) hK
      refine ⟨_, rfl, ix0_seq (.inr hK') (.inl ⟨rfl, _, rfl, iteF' (by decide) ⟨_, rfl, ix0_seq (.inr hK') (.inl ⟨rfl, _, rfl, iteF' (by decide) ⟨_, rfl, ix0_seq (.inr hK') (.inl ⟨rfl, _, rfl, iteF' (by decide) ?_⟩)⟩⟩)⟩⟩)⟩
      exact ⟨i, a, rfl, rfl, rfl, ok, rfl, hK, fun _ _ h => h⟩
    · have hK' := KB.Same.tup (out_sub wl H) hK
      refine ⟨_, rfl, ix0_seq (.inr hK') (.inl ⟨rfl, _, rfl, iteT' (by decide) ⟨(by show 1 ≤ sizeLine; decide), fun p hp => ?_⟩⟩)⟩
      exact q .unit _ _ ⟨trivial, rfl, by simp [Trm.ht], by simp [Trm.kdp]⟩ (.tup (.of (hw.laid hp _)) (.cons (.str _) .nil)) ((Aft.refl hw).new hp _)
    · have hK' := KB.Same.tup (out_sub wl H) hK
      rcases hm with ⟨rfl, rfl⟩ | ⟨rfl, rfl⟩
      · simp only [Kd.deep] at hN dp
        refine ⟨_, rfl, ix0_seq (.inr hK') (.inl ⟨rfl, _, rfl, iteF' (by decide) ⟨_, rfl, ix0_seq (.inr hK') (.inl ⟨rfl, _, rfl, iteT' (by decide) ?_⟩)⟩⟩)⟩
        refine ⟨_, rfl, _, rfl, .inl (.inr (.inl ⟨a, _, 1, v1, rfl, rfl, hK', at1 _ _ _, _, rfl, _, rfl, wl, g, v1, x, ks, fu, rfl, hw, d1, ok.1, by omega, fu1, by omega, by omega, hG, gv, by omega, fun t1 u1 H1 g1 q1 a1 => ?_⟩))⟩
        refine ⟨_, rfl, _, rfl, .inl (.inr (.inl ⟨a, _, 2, v2, rfl, rfl, KB.Same.tup (out_sub wl H1) (KB.Same.tup a1.but hK), at2 _ _ _ _, _, rfl, _, rfl, wl, g, v2, y, ks, fu, rfl, a1.well, d2.same a1.but, ok.2, by omega, fu1, by omega, by omega, hG.same a1.but, gv, by omega, fun t2 u2 H2 g2 q2 a2 => ⟨(by show 3 ≤ sizeLine; decide), fun p hp => ?_⟩⟩))⟩
        have sp := out_new (w := wl) hp (.tup [.str "both", u1, u2])
        have a12 := a1.trans a2
        refine q (.both t1 t2) _ _ ⟨⟨g1.wf, g2.wf⟩, by simp [Trm.jd, g1.jd, g2.jd], ?_, ?_⟩ (.tup (.of (a12.well.laid hp _)) (.cons (.str _) (.cons (q1.same (a2.but.trans sp)) (.cons (q2.same sp) .nil)))) (a12.new hp _)
        · have := g1.ht; have := g2.ht; simp only [Trm.ht, Kd.deep]; omega
        · have := g1.kd; have := g2.kd; simp only [Trm.kdp]; omega
      · simp only [Kd.deep] at hN dp
        obtain ⟨gs, eg, hgA⟩ := id hG
        have gsl := hgA.length
        rw [List.length_map] at gsl
        refine ⟨_, rfl, ix0_seq (.inr hK') (.inl ⟨rfl, _, rfl, iteF' (by decide) ⟨_, rfl, ix0_seq (.inr hK') (.inl ⟨rfl, _, rfl, iteF' (by decide) ⟨_, rfl, ix0_seq (.inr hK') (.inl ⟨rfl, _, rfl, iteT' (by decide) ?_⟩)⟩⟩)⟩⟩)⟩
        refine ⟨_, rfl, .inl (.inr (.inl ⟨a, _, 1, v1, rfl, rfl, hK', at1 _ _ _, _, rfl, _, rfl, .inl (.inr (.inl ⟨a, _, 2, v2, rfl, rfl, hK', at2 _ _ _ _, _, rfl, _, rfl, .inl (.inr (.inl ⟨a, _, 1, v1, rfl, rfl, hK', at1 _ _ _, (by show 1 ≤ sizeLine; decide), fun p hp => ?_⟩))⟩))⟩))⟩
        have b1 := (Aft.refl hw).new hp (.lst [v1])
        have e1 := same_new hp (.lst [v1]) _ _ (out_some eg).2
        refine .inr (.inr (.inl ⟨g, p, _, _, rfl, rfl, e1, upd_same, fits (by rw [gsl]; simp only [List.length_cons, List.length_nil]; omega), fun l hl => ?_⟩))
        have b2 := b1.new hl (.lst (gs ++ [v1]))
        have el := b1.well.laid hl (.lst (gs ++ [v1]))
        refine ⟨_, rfl, wl, l, v2, y, ks ++ [x], fu, rfl, b2.well, d2.same b2.but, ok.2, by omega, fu1, by omega, by omega, ⟨_, el, ?_⟩, gv.more ok.1 (by omega), by rw [List.length_append, List.length_singleton]; omega, fun t2 u2 H2 g2 q2 a2 => ⟨(by show 3 ≤ sizeLine; decide), fun tp htp => ?_⟩⟩
        · rw [List.map_append]
          exact (hgA.same b2.but).append (.cons (d1.same b2.but) .nil)
        · have sp := out_new (w := wl) htp (.tup [.str "make", v1, u2])
          have a12 := b2.trans a2
          refine q (.mk x t2) _ _ ⟨⟨ok.1, g2.wf⟩, by simp [Trm.jd, g2.jd], ?_, ?_⟩ (.tup (.of (a12.well.laid htp _)) (.cons (.str _) (.cons (d1.same (a12.but.trans sp)) (.cons (q2.same sp) .nil)))) (a12.new htp _)
          · have := g2.ht; simp only [Trm.ht, Kd.deep]; omega
          · have := g2.kd; simp only [Trm.kdp]; omega
theorem ok_flat (A : At K mg "_law_flat" s_law_flat) (T : Txt K mg w CN CT) (C_law_draw : Cal P w K mg base CX0 1 "_law_draw" ["well", "width"] spDraw) (C_law_ways : Cal P w K mg base CX0 5 "_law_ways" ["kind", "n"] (spWays K 5)) : ∀ N : Nat, Cal P w K mg base CX0 (N + 5) "_law_flat" ["well", "kind", "given", "fuel"] (spFlat K N)
  | 0 => cal_vac A (fun f fd F => F.binds (ps := ["well", "kind", "given", "fuel"]) (fun _ _ _ _ _ _ us hl => match us, hl with | [_, _, _, _], _ => rfl)) fun vs H Q E ⟨wl, g, v, k, ks, f, _, _, _, _, _, _, h, _⟩ => absurd h (Nat.not_lt_zero _)
  | N + 1 => ok_flat1 A T C_law_draw C_law_ways (ok_flat A T C_law_draw C_law_ways N)
end

/-! ## a term about a term that leads to it -/
theorem lift_ht (m : Nat) : ∀ t : Trm, (liftT m t).ht = t.ht ∧ (liftT m t).kdp = t.kdp
  | .giv (.int _) => ⟨rfl, rfl⟩
  | .giv .none => ⟨rfl, rfl⟩
  | .giv (.bool _) => ⟨rfl, rfl⟩
  | .giv (.str _) => ⟨rfl, rfl⟩
  | .giv (.list _) => ⟨rfl, rfl⟩
  | .giv (.tuple _) => ⟨rfl, rfl⟩
  | .giv (.dict _) => ⟨rfl, rfl⟩
  | .fst t => by have := lift_ht m t; simp only [liftT, Trm.ht, Trm.kdp, this]; simp
  | .snd t => by have := lift_ht m t; simp only [liftT, Trm.ht, Trm.kdp, this]; simp
  | .mk c t => by have := lift_ht m t; simp only [liftT, Trm.ht, Trm.kdp, this]; simp
  | .doo a b => by have h1 := lift_ht m a; have h2 := lift_ht m b; simp only [liftT, Trm.ht, Trm.kdp, h1, h2]; simp
  | .both a b => by have h1 := lift_ht m a; have h2 := lift_ht m b; simp only [liftT, Trm.ht, Trm.kdp, h1, h2]; simp
  | .unit => ⟨rfl, rfl⟩
  | .bad _ => ⟨rfl, rfl⟩
theorem jd_kok : ∀ (t : Trm) (ks : List Kd) (k : Kd), t.wf → (∀ x ∈ ks, x.ok) → t.jd ks = some k → k.ok
  | .giv x, ks, k, _, h, e => by obtain ⟨n, rfl, e, _⟩ := Trm.giv_some e; exact h k (List.mem_of_getElem? e)
  | .fst t, ks, k, w, h, e => by
    cases e1 : t.jd ks with
    | none => simp [Trm.jd, e1] at e
    | some y =>
      simp only [Trm.jd, e1, Option.bind_some] at e
      obtain ⟨a, b, rfl, rfl⟩ := half_p e
      exact (jd_kok t ks _ w h e1).1
  | .snd t, ks, k, w, h, e => by
    cases e1 : t.jd ks with
    | none => simp [Trm.jd, e1] at e
    | some y =>
      simp only [Trm.jd, e1, Option.bind_some] at e
      obtain ⟨a, b, rfl, rfl⟩ := half_p e
      exact (jd_kok t ks _ w h e1).2
  | .mk c t, ks, k, w, h, e => by
    cases e1 : t.jd (ks ++ [c]) with
    | none => simp [Trm.jd, e1] at e
    | some y =>
      simp only [Trm.jd, e1, Option.map_some] at e
      cases e
      exact ⟨w.1, jd_kok t _ _ w.2 (fun x hx => by
        rcases List.mem_append.mp hx with hx | hx
        · exact h x hx
        · rw [List.mem_singleton.mp hx]; exact w.1) e1⟩
  | .doo a b, ks, k, w, h, e => by
    cases e1 : a.jd ks with
    | none => simp [Trm.jd, e1] at e
    | some y => cases e2 : b.jd ks with
      | none => simp [Trm.jd, e1, e2] at e
      | some z =>
        simp only [Trm.jd, e1, e2, Option.bind_some] at e
        obtain ⟨x, rfl⟩ := hand_f e
        exact (jd_kok a ks _ w.1 h e1).2
  | .both a b, ks, k, w, h, e => by
    cases e1 : a.jd ks with
    | none => simp [Trm.jd, e1] at e
    | some y => cases e2 : b.jd ks with
      | none => simp [Trm.jd, e1, e2] at e
      | some z =>
        simp only [Trm.jd, e1, e2, Option.bind_some, Option.map_some] at e
        cases e
        exact ⟨jd_kok a ks _ w.1 h e1, jd_kok b ks _ w.2 h e2⟩
  | .unit, ks, k, _, _, e => by cases e; trivial
  | .bad _, ks, k, _, _, e => by cases e
structure Tz (t : Trm) (ks : List Kd) (k : Kd) (h : Nat) : Prop where
  wf : t.wf
  jd : t.jd ks = some k
  ht : t.ht ≤ h
  kd : t.kdp ≤ 12
theorem Tg.z {t : Trm} {ks : List Kd} {k : Kd} {h : Nat} (g : Tg t ks k h) : Tz t ks k h := ⟨g.wf, g.jd, g.ht, by have := g.kd; omega⟩
theorem jd_new (ks : List Kd) (c : Kd) : (Trm.giv (.int ((ks.length : Nat) : Int))).jd (ks ++ [c]) = some c := by
  show (if 0 ≤ ((ks.length : Nat) : Int) ∧ ((ks.length : Nat) : Int) < ((ks ++ [c]).length : Nat) then (ks ++ [c])[((ks.length : Nat) : Int).toNat]? else none) = some c
  rw [if_pos ⟨by omega, by rw [List.length_append, List.length_singleton]; omega⟩, Int.toNat_natCast]
  simp
def spWr (K : PySem.W.Frag) : Sp := fun vs H Q _ => ∃ (wl g : Addr) (v : V) (t : Trm) (k : Kd) (ks : List Kd) (h : Nat), vs = [.ref wl, v, .ref g] ∧ Well H wl ∧ Dq K (out wl H) v t.dat ∧ Tz t ks k h ∧ h ≤ 60 ∧ k.deep ≤ 12 ∧ KsAt K (out wl H) g ks ∧ Gv ks ∧ ks.length ≤ 150 ∧
  ∀ t' v' H', Tz t' ks k (max h 7 + 2) → Dq K (out wl H') v' t'.dat → Aft wl H H' → Q v' H'
abbrev s_law_wrapped : Stmt := top 32
theorem sc_law_wrapped : FnScope ["well", "term", "given", "way", "kind", "other"] ["well", "term", "given"] (defScope s_law_wrapped) := ⟨rfl, rfl, rfl, by decide +kernel, rfl, by decide +kernel, by decide +kernel⟩
section
variable {P : Program} {w : World} {K : PySem.W.Frag} {mg : Str → Option Value} {base : Heap} {CN CT : Addr}
theorem ok_wr (A : At K mg "_law_wrapped" s_law_wrapped) (T : Txt K mg w CN CT) (C_law_draw : Cal P w K mg base CX0 1 "_law_draw" ["well", "width"] spDraw) (C_law_kind_of : Cal P w K mg base CX0 62 "_law_kind_of" ["term", "given"] (spKo K 62)) (C_law_lift : Cal P w K mg base CX0 62 "_law_lift" ["term", "at"] (spLift K 62))
    (C_law_kind : Cal P w K mg base CX0 4 "_law_kind" ["well", "deep"] (spKind51 K 3)) (C_law_flat : Cal P w K mg base CX0 13 "_law_flat" ["well", "kind", "given", "fuel"] (spFlat K 8)) : Cal P w K mg base CX0 63 "_law_wrapped" ["well", "term", "given"] (spWr K) := by
  obtain ⟨f, fd, F, m⟩ := A
  refine ⟨f, fd, F.ok sc_law_wrapped (fun vs H Q E h => ?_) (fun cdv A outer s H vs Q E hr h => ?_), F.binds (ps := ["well", "term", "given"]) (fun _ _ _ _ _ _ us hl => match us, hl with | [_, _, _], _ => rfl), F.kp, m⟩
  · obtain ⟨wl, g, v, t, k, ks, h, rfl, _⟩ := h; rfl
  obtain ⟨wl, g, v, t, k, ks, h, rfl, hw, hd, tz, h60, kd, hG, gv, hkl, q⟩ := h
  refine ⟨_, (pss_cons (ps_set (i := 3) sc_law_wrapped.nd rfl (by first | exact Or.inl rfl | exact Or.inr rfl) (pe_calC C_law_draw (hr.mono (by first | decide | omega)) pass0 (pa_cons (pv 0) (pa_cons pe_int pa_nil))))
  (pss_cons (ps_set (i := 4) sc_law_wrapped.nd rfl (by first | exact Or.inl rfl | exact Or.inr rfl) (pe_calC C_law_kind_of (hr.mono (by first | decide | omega)) pass0 (pa_cons (pv 1) (pa_cons (pv 2) pa_nil))))
  (pss_cons (ps_set (i := 5) sc_law_wrapped.nd rfl (by first | exact Or.inl rfl | exact Or.inr rfl) (pe_calC C_law_kind (hr.mono (by first | decide | omega)) pass0 (pa_cons (pv 0) (pa_cons pe_int pa_nil))))
  (pss_cons (ps_if (pt_cmpR (op_eqA (room200 hr)) (pv 3) pe_int (nomark _))
   (pss_one (ps_ret (pe_tup (pa_cons pe_str (pa_cons (pe_tup (pa_cons pe_str (pa_cons (pv 1) (pa_cons (pe_calC C_law_flat (hr.mono (by first | decide | omega)) pass0 (pa_cons (pv 0) (pa_cons (pv 5) (pa_cons (pv 2) (pa_cons pe_int pa_nil))))) pa_nil)))) pa_nil)))))
   pss_nil)
  (pss_cons (ps_if (pt_cmpR (op_eqA (room200 hr)) (pv 3) pe_int (nomark _))
   (pss_one (ps_ret (pe_tup (pa_cons pe_str (pa_cons (pe_tup (pa_cons pe_str (pa_cons (pe_calC C_law_flat (hr.mono (by first | decide | omega)) pass0 (pa_cons (pv 0) (pa_cons (pv 5) (pa_cons (pv 2) (pa_cons pe_int pa_nil))))) (pa_cons (pv 1) pa_nil)))) pa_nil)))))
   pss_nil)
  (pss_cons (ps_if (pt_cmpR (op_eqA (room200 hr)) (pv 3) pe_int (nomark _))
   (pss_one (ps_ret (pe_tup (pa_cons pe_str (pa_cons (pe_tup (pa_cons pe_str (pa_cons (pv 5) (pa_cons (pe_calC C_law_lift (hr.mono (by first | decide | omega)) pass0 (pa_cons (pv 1) (pa_cons (pe_callB call_len (by rfl) T.z_len (by decide +kernel) (pa_cons (pv 2) pa_nil)) pa_nil))) pa_nil)))) (pa_cons (pe_calC C_law_flat (hr.mono (by first | decide | omega)) pass0 (pa_cons (pv 0) (pa_cons (pv 5) (pa_cons (pv 2) (pa_cons pe_int pa_nil))))) pa_nil))))))
   pss_nil)
  (pss_cons (ps_if (pt_cmpR (op_eqA (room200 hr)) (pv 3) pe_int (nomark _))
   (pss_one (ps_ret (pe_tup (pa_cons pe_str (pa_cons (pe_tup (pa_cons pe_str (pa_cons (pv 4) (pa_cons (pe_tup (pa_cons pe_str (pa_cons (pe_callB call_len (by rfl) T.z_len (by decide +kernel) (pa_cons (pv 2) pa_nil)) pa_nil))) pa_nil)))) (pa_cons (pv 1) pa_nil))))))
   pss_nil)
  (pss_one (ps_ret (pv 1)))))))))), ?_⟩
  have kok := jd_kok t ks k tz.wf (fun x hx => (gv.ok x hx).1) tz.jd
  have hht := tz.ht
  have hkd := tz.kd
  refine ⟨_, rfl, wl, 12, rfl, hw, by decide, by decide, fun d H1 d0 d1 a1 => ?_⟩
  refine ⟨_, rfl, _, rfl, v, g, t, ks, k, rfl, (hd.same a1.but).same (out_sub _ _), by omega, (hG.same a1.but).same (out_sub _ _), by omega, tz.jd, fun kv H2 s2 dk => ?_⟩
  have hw2 : Well H2 wl := by
    obtain ⟨x, y, z, e⟩ := a1.well
    exact ⟨x, y, z, s2 _ _ e⟩
  have a2 : Aft wl H H2 := a1.trans ⟨hw2, out_same s2⟩
  have dk2 : Dq K (out wl H2) kv k.dat := by
    obtain ⟨x, y, z, e⟩ := hw2
    exact Dq.outp e k.pure dk
  refine ⟨_, rfl, wl, 1, rfl, hw2, by decide, fun o ov H3 ook odp od a3 => ?_⟩
  have a13 := a2.trans a3
  have d3 := hd.same a13.but
  have g3 := hG.same a13.but
  have dk3 := dk2.same a3.but
  have flat : ∀ {Qf : VK} {H4 : Hp}, Aft wl H3 H4 → (∀ t2 u2 H5, Tg t2 ks o (o.deep + 5) → Dq K (out wl H5) u2 t2.dat → Aft wl H4 H5 → Qf u2 H5) → spFlat K 8 [.ref wl, ov, .ref g, .int 1] H4 Qf (E0 : XK) := fun b qf =>
    ⟨wl, g, ov, o, ks, 1, rfl, b.well, od.same b.but, ook, by omega, by decide, by omega, by decide, g3.same b.but, gv, by omega, fun t2 u2 H5 g2 q2 a5 => qf t2 u2 H5 g2 q2 a5⟩
  refine ⟨_, rfl, .inl ⟨rfl, _, rfl, ite2 (fun _ => ?_) (fun _ => ?_)⟩⟩
  · refine ⟨_, rfl, _, rfl, _, rfl, _, rfl, flat (Aft.refl a3.well) fun t2 u2 H4 g2 q2 a4 => ⟨(by show 3 ≤ sizeLine; decide), fun p1 hp1 => ⟨(by show 2 ≤ sizeLine; decide), fun p2 hp2 => ?_⟩⟩⟩
    have b4 := a4.new hp1 (.tup [.str "both", v, u2])
    have e4 := a4.well.laid hp1 (.tup [.str "both", v, u2])
    have s4 := out_new (w := wl) hp1 (.tup [.str "both", v, u2])
    have b5 := b4.new hp2 (.tup [.str "first", .ref p1])
    have e5 := b4.well.laid hp2 (.tup [.str "first", .ref p1])
    have s5 := out_new (w := wl) hp2 (.tup [.str "first", .ref p1])
    refine q (.fst (.both t t2)) _ _ ⟨⟨tz.wf, g2.wf⟩, by simp [Trm.jd, tz.jd, g2.jd, half], ?_, ?_⟩ (.tup (.of e5) (.cons (.str _) (.cons (.tup (.of (s5 _ _ e4)) (.cons (.str _) (.cons (d3.same ((a4.but.trans s4).trans s5)) (.cons (q2.same (s4.trans s5)) .nil)))) .nil))) (a13.trans b5)
    · have := g2.ht; simp only [Trm.ht]; omega
    · have := g2.kd; simp only [Trm.kdp]; omega
  refine ⟨_, rfl, .inl ⟨rfl, _, rfl, ite2 (fun _ => ?_) (fun _ => ?_)⟩⟩
  · refine ⟨_, rfl, _, rfl, _, rfl, flat (Aft.refl a3.well) fun t2 u2 H4 g2 q2 a4 => ⟨_, rfl, (by show 3 ≤ sizeLine; decide), fun p1 hp1 => ⟨(by show 2 ≤ sizeLine; decide), fun p2 hp2 => ?_⟩⟩⟩
    have b4 := a4.new hp1 (.tup [.str "both", u2, v])
    have e4 := a4.well.laid hp1 (.tup [.str "both", u2, v])
    have s4 := out_new (w := wl) hp1 (.tup [.str "both", u2, v])
    have b5 := b4.new hp2 (.tup [.str "second", .ref p1])
    have e5 := b4.well.laid hp2 (.tup [.str "second", .ref p1])
    have s5 := out_new (w := wl) hp2 (.tup [.str "second", .ref p1])
    refine q (.snd (.both t2 t)) _ _ ⟨⟨g2.wf, tz.wf⟩, by simp [Trm.jd, tz.jd, g2.jd, half], ?_, ?_⟩ (.tup (.of e5) (.cons (.str _) (.cons (.tup (.of (s5 _ _ e4)) (.cons (.str _) (.cons (q2.same (s4.trans s5)) (.cons (d3.same ((a4.but.trans s4).trans s5)) .nil)))) .nil))) (a13.trans b5)
    · have := g2.ht; simp only [Trm.ht]; omega
    · have := g2.kd; simp only [Trm.kdp]; omega
  obtain ⟨gs, eg, hgA⟩ := id g3
  have gsl := hgA.length
  rw [List.length_map] at gsl
  refine ⟨_, rfl, .inl ⟨rfl, _, rfl, ite2 (fun _ => ?_) (fun _ => ?_)⟩⟩
  · refine ⟨_, rfl, _, rfl, _, rfl, _, _, rfl, .inl ⟨_, .of (out_some eg).2, rfl⟩, v, gs.length, t, ks, k, rfl, d3.same (out_sub _ _), by omega, tz.jd, fun v1 H4 s4 dl => ⟨(by show 3 ≤ sizeLine; decide), fun p1 hp1 => ?_⟩⟩
    rw [gsl] at dl
    have hw4 : Well H4 wl := by
      obtain ⟨x, y, z, e⟩ := a3.well
      exact ⟨x, y, z, s4 _ _ e⟩
    have b4 : Aft wl H3 H4 := ⟨hw4, out_same s4⟩
    have b5 := b4.new hp1 (.tup [.str "make", ov, v1])
    have e5 := b4.well.laid hp1 (.tup [.str "make", ov, v1])
    have s5 := out_new (w := wl) hp1 (.tup [.str "make", ov, v1])
    have lj := lift_jd (A := ks) (c := o) t [] k (by rw [List.append_nil]; exact tz.jd)
    have dl4 : Dq K (out wl H4) v1 (liftT ks.length t).dat := by
      obtain ⟨x, y, z, e⟩ := hw4
      exact Dq.outp e (pure_jd _ _ _ lj) dl
    refine ⟨_, rfl, _, rfl, _, rfl, flat b5 fun t2 u2 H6 g2 q2 a6 => ⟨(by show 3 ≤ sizeLine; decide), fun p2 hp2 => ?_⟩⟩
    have b6 := (b5.trans a6).new hp2 (.tup [.str "do", .ref p1, u2])
    have e6 := a6.well.laid hp2 (.tup [.str "do", .ref p1, u2])
    have s6 := out_new (w := wl) hp2 (.tup [.str "do", .ref p1, u2])
    have s56 := a6.but.trans s6
    obtain ⟨lh, lk⟩ := lift_ht ks.length t
    refine q (.doo (.mk o (liftT ks.length t)) t2) _ _ ⟨⟨⟨ook, lift_wf _ t tz.wf⟩, g2.wf⟩, by simp [Trm.jd, lj, g2.jd, hand], ?_, ?_⟩ (.tup (.of e6) (.cons (.str _) (.cons (.tup (.of (s56 _ _ e5)) (.cons (.str _) (.cons (od.same (b5.but.trans s56)) (.cons (dl4.same (s5.trans s56)) .nil)))) (.cons (q2.same s6) .nil)))) (a13.trans b6)
    · have := g2.ht; simp only [Trm.ht, lh]; omega
    · have := g2.kd; simp only [Trm.kdp, lk]; omega
  refine ⟨_, rfl, .inl ⟨rfl, _, rfl, ite2 (fun _ => ?_) (fun _ => ?_)⟩⟩
  · refine ⟨_, rfl, _, rfl, _, _, rfl, .inl ⟨_, .of (out_some eg).2, rfl⟩, (by show 2 ≤ sizeLine; decide), fun p1 hp1 => ⟨(by show 3 ≤ sizeLine; decide), fun p2 hp2 => ⟨_, rfl, (by show 3 ≤ sizeLine; decide), fun p3 hp3 => ?_⟩⟩⟩
    rw [gsl] at *
    have b0 := Aft.refl a3.well
    have b4 := b0.new hp1 (.tup [.str "given", .int (ks.length : Nat)])
    have e4 := b0.well.laid hp1 (.tup [.str "given", .int (ks.length : Nat)])
    have s4 := out_new (w := wl) hp1 (.tup [.str "given", .int (ks.length : Nat)])
    have b5 := b4.new hp2 (.tup [.str "make", kv, .ref p1])
    have e5 := b4.well.laid hp2 (.tup [.str "make", kv, .ref p1])
    have s5 := out_new (w := wl) hp2 (.tup [.str "make", kv, .ref p1])
    have b6 := b5.new hp3 (.tup [.str "do", .ref p2, v])
    have e6 := b5.well.laid hp3 (.tup [.str "do", .ref p2, v])
    have s6 := out_new (w := wl) hp3 (.tup [.str "do", .ref p2, v])
    refine q (.doo (.mk k (.giv (.int (ks.length : Nat)))) t) _ _ ⟨⟨⟨kok, trivial⟩, tz.wf⟩, ?_, ?_, ?_⟩ (.tup (.of e6) (.cons (.str _) (.cons (.tup (.of (s6 _ _ e5)) (.cons (.str _) (.cons (dk3.same ((s4.trans s5).trans s6)) (.cons (.tup (.of (s6 _ _ (s5 _ _ e4))) (.cons (.str _) (.cons (.int _) .nil))) .nil)))) (.cons (d3.same ((s4.trans s5).trans s6)) .nil)))) (a13.trans b6)
    · have := jd_new ks k
      simp only [Trm.jd] at this ⊢
      simp [this, tz.jd, hand]
    · simp only [Trm.ht]; omega
    · simp only [Trm.kdp]; omega
  · exact ⟨_, rfl, q t v H3 ⟨tz.wf, tz.jd, by omega, tz.kd⟩ d3 a13⟩
end

/-! ## a term that leads to a term, by parts and about it -/
theorem parts_mk {K : PySem.W.Frag} {G : Hp} {v : V} {t : Trm} {ks : List Kd} {k : Kd} (hd : Dq K G v t.dat) (g : Tg t ks k t.ht) : (∃ n : Nat, t = .giv (.int (n : Nat))) ∨ (∃ c t', t = .mk c t') ∨ t = .unit ∨
    ∃ (a : Addr) (wd : Str) (us : List V) (ps : List Trm) (kl : List Kd), v = .ref a ∧ wd ≠ "make" ∧ wd ≠ "given" ∧ wd ≠ "unit" ∧ SqT K G a (.str wd :: us) ∧ DqAll K G us (ps.map Trm.dat) ∧ ps.length ≤ 2 ∧ 1 ≤ t.ht ∧ (∀ (i : Nat) (p : Trm), ps[i]? = some p → ∃ ki, kl[i]? = some ki ∧ Tg p ks ki p.ht ∧ p.ht < t.ht) ∧
      ∀ (qs : List Trm) (hh : Nat), qs.length = ps.length → (∀ (i : Nat) (q : Trm), qs[i]? = some q → ∃ ki, kl[i]? = some ki ∧ Tz q ks ki hh) → ∃ t', Tz t' ks k (hh + 1) ∧ t'.dat = .tuple (.str wd :: qs.map Trm.dat) := by
  obtain ⟨wf, hk, _, kd⟩ := g
  cases t with
  | bad d => cases hk
  | giv x => obtain ⟨n, rfl, _⟩ := Trm.giv_some hk; exact .inl ⟨n, rfl⟩
  | mk c t' => exact .inr (.inl ⟨c, t', rfl⟩)
  | unit => exact .inr (.inr (.inl rfl))
  | fst t' =>
    obtain ⟨a, u, rfl, hT, hx⟩ := dq_tup2 hd
    cases e : t'.jd ks with
    | none => simp [Trm.jd, e] at hk
    | some k' =>
      refine .inr (.inr (.inr ⟨a, _, [u], [t'], [k'], rfl, by decide, by decide, by decide, hT, .cons hx .nil, by simp, by simp only [Trm.ht]; omega, fun i p h => ?_, fun qs hh hl hq => ?_⟩))
      · cases i with
        | zero => cases h; exact ⟨k', rfl, ⟨wf, e, Nat.le_refl _, kd⟩, by simp only [Trm.ht]; omega⟩
        | succ i => cases h
      · match qs, hl with
        | [q1], _ =>
          obtain ⟨ki, ek, z⟩ := hq 0 q1 rfl
          cases ek
          exact ⟨.fst q1, ⟨z.wf, by simp only [Trm.jd, e] at hk; simp only [Trm.jd, z.jd]; exact hk, by have := z.ht; simp only [Trm.ht]; omega, z.kd⟩, rfl⟩
  | snd t' =>
    obtain ⟨a, u, rfl, hT, hx⟩ := dq_tup2 hd
    cases e : t'.jd ks with
    | none => simp [Trm.jd, e] at hk
    | some k' =>
      refine .inr (.inr (.inr ⟨a, _, [u], [t'], [k'], rfl, by decide, by decide, by decide, hT, .cons hx .nil, by simp, by simp only [Trm.ht]; omega, fun i p h => ?_, fun qs hh hl hq => ?_⟩))
      · cases i with
        | zero => cases h; exact ⟨k', rfl, ⟨wf, e, Nat.le_refl _, kd⟩, by simp only [Trm.ht]; omega⟩
        | succ i => cases h
      · match qs, hl with
        | [q1], _ =>
          obtain ⟨ki, ek, z⟩ := hq 0 q1 rfl
          cases ek
          exact ⟨.snd q1, ⟨z.wf, by simp only [Trm.jd, e] at hk; simp only [Trm.jd, z.jd]; exact hk, by have := z.ht; simp only [Trm.ht]; omega, z.kd⟩, rfl⟩
  | doo t1 t2 =>
    obtain ⟨a, u1, u2, rfl, hT, hx, hy⟩ := dq_tup3 hd
    cases e : t1.jd ks with
    | none => simp [Trm.jd, e] at hk
    | some k1 => cases e2 : t2.jd ks with
      | none => simp [Trm.jd, e, e2] at hk
      | some k2 =>
        simp only [Trm.kdp] at kd
        refine .inr (.inr (.inr ⟨a, _, [u1, u2], [t1, t2], [k1, k2], rfl, by decide, by decide, by decide, hT, .cons hx (.cons hy .nil), by simp, by simp only [Trm.ht]; omega, fun i p h => ?_, fun qs hh hl hq => ?_⟩))
        · match i, h with
          | 0, h => cases h; exact ⟨k1, rfl, ⟨wf.1, e, Nat.le_refl _, by omega⟩, by simp only [Trm.ht]; omega⟩
          | 1, h => cases h; exact ⟨k2, rfl, ⟨wf.2, e2, Nat.le_refl _, by omega⟩, by simp only [Trm.ht]; omega⟩
        · match qs, hl with
          | [q1, q2], _ =>
            obtain ⟨ki, ek, z⟩ := hq 0 q1 rfl
            obtain ⟨ki2, ek2, z2⟩ := hq 1 q2 rfl
            cases ek; cases ek2
            exact ⟨.doo q1 q2, ⟨⟨z.wf, z2.wf⟩, by simp only [Trm.jd, e, e2] at hk; simp only [Trm.jd, z.jd, z2.jd]; exact hk, by have := z.ht; have := z2.ht; simp only [Trm.ht]; omega, by have := z.kd; have := z2.kd; simp only [Trm.kdp]; omega⟩, rfl⟩
  | both t1 t2 =>
    obtain ⟨a, u1, u2, rfl, hT, hx, hy⟩ := dq_tup3 hd
    cases e : t1.jd ks with
    | none => simp [Trm.jd, e] at hk
    | some k1 => cases e2 : t2.jd ks with
      | none => simp [Trm.jd, e, e2] at hk
      | some k2 =>
        simp only [Trm.kdp] at kd
        refine .inr (.inr (.inr ⟨a, _, [u1, u2], [t1, t2], [k1, k2], rfl, by decide, by decide, by decide, hT, .cons hx (.cons hy .nil), by simp, by simp only [Trm.ht]; omega, fun i p h => ?_, fun qs hh hl hq => ?_⟩))
        · match i, h with
          | 0, h => cases h; exact ⟨k1, rfl, ⟨wf.1, e, Nat.le_refl _, by omega⟩, by simp only [Trm.ht]; omega⟩
          | 1, h => cases h; exact ⟨k2, rfl, ⟨wf.2, e2, Nat.le_refl _, by omega⟩, by simp only [Trm.ht]; omega⟩
        · match qs, hl with
          | [q1, q2], _ =>
            obtain ⟨ki, ek, z⟩ := hq 0 q1 rfl
            obtain ⟨ki2, ek2, z2⟩ := hq 1 q2 rfl
            cases ek; cases ek2
            exact ⟨.both q1 q2, ⟨⟨z.wf, z2.wf⟩, by simp only [Trm.jd, e, e2] at hk; simp only [Trm.jd, z.jd, z2.jd]; exact hk, by have := z.ht; have := z2.ht; simp only [Trm.ht]; omega, by have := z.kd; have := z2.kd; simp only [Trm.kdp]; omega⟩, rfl⟩
def spGr (K : PySem.W.Frag) (N : Nat) : Sp := fun vs H Q _ => ∃ (wl g : Addr) (v : V) (t : Trm) (k : Kd) (ks : List Kd), vs = [.ref wl, v, .ref g] ∧ Well H wl ∧ Dq K (out wl H) v t.dat ∧ Tg t ks k t.ht ∧ t.ht ≤ 8 ∧ t.ht < N ∧ KsAt K (out wl H) g ks ∧ Gv ks ∧ ks.length + N ≤ 150 ∧
  ∀ t' v' H', Tz t' ks k (9 + 3 * t.ht) → Dq K (out wl H') v' t'.dat → Aft wl H H' → Q v' H'
abbrev s_law_grown : Stmt := top 33
theorem sc_law_grown : FnScope ["well", "term", "given", "part"] ["well", "term", "given"] (defScope s_law_grown) := ⟨rfl, rfl, rfl, by decide +kernel, rfl, by decide +kernel, by decide +kernel⟩
section
variable {P : Program} {w : World} {K : PySem.W.Frag} {mg : Str → Option Value} {base : Heap} {CN CT : Addr}
theorem ok_gr1 {N : Nat} (A : At K mg "_law_grown" s_law_grown) (T : Txt K mg w CN CT) (C_law_wrapped : Cal P w K mg base CX0 63 "_law_wrapped" ["well", "term", "given"] (spWr K)) (C_law_grown : Cal P w K mg base CX0 (N + 63) "_law_grown" ["well", "term", "given"] (spGr K N)) : Cal P w K mg base CX0 (N + 64) "_law_grown" ["well", "term", "given"] (spGr K (N + 1)) := by
  obtain ⟨f, fd, F, m⟩ := A
  refine ⟨f, fd, F.ok sc_law_grown (fun vs H Q E h => ?_) (fun cdv A outer s H vs Q E hr h => ?_), F.binds (ps := ["well", "term", "given"]) (fun _ _ _ _ _ _ us hl => match us, hl with | [_, _, _], _ => rfl), F.kp, m⟩
  · obtain ⟨wl, g, v, t, k, ks, rfl, _⟩ := h; rfl
  obtain ⟨wl, g, v, t, k, ks, rfl, hw, hd, tg, h8, hN, hG, gv, hkl, q⟩ := h
  have kdp12 : k.deep ≤ 12 := by
    have := Trm.jd_deep (M := 3) t ks k (fun x hx => (gv.ok x hx).2) tg.kd tg.jd
    omega
  refine ⟨_, (pss_cons (ps_if (pt_cmpR (op_eqA (room200 hr)) (pe_ix ix_B (pv 1) pe_int (fun _ _ => rfl)) pe_str (nomark _))
   (pss_one (ps_set (i := 1) sc_law_grown.nd rfl (by first | exact Or.inl rfl | exact Or.inr rfl) (pe_tup (pa_cons pe_str (pa_cons (pe_ix ix_B (pv 1) pe_int (fun _ _ => rfl)) (pa_cons (pe_calC C_law_grown (hr.mono (by first | decide | omega)) pass0 (pa_cons (pv 0) (pa_cons (pe_ix ix_B (pv 1) pe_int (fun _ _ => rfl)) (pa_cons (pe_op op_addA (pv 2) (pe_lst (pa_cons (pe_ix ix_B (pv 1) pe_int (fun _ _ => rfl)) pa_nil))) pa_nil)))) pa_nil))))))
   (pss_one (ps_if (pt_cmpR (r := rIn K true) op_notIn_seq (pe_ix ix_B (pv 1) pe_int (fun _ _ => rfl)) (pe_lst (pa_cons pe_str (pa_cons pe_str pa_nil))) rfl)
   (pss_one (ps_set (i := 1) sc_law_grown.nd rfl (by first | exact Or.inl rfl | exact Or.inr rfl) (pe_callTy call_tuple_of (by rfl) T.z_tuple (by decide +kernel) (pa_cons (pe_op op_addA (pe_lst (pa_cons (pe_ix ix_B (pv 1) pe_int (fun _ _ => rfl)) pa_nil)) (pe_lc (own := [("part", 3)]) (g := gName 3) (tt := tYes) (by rfl) sc_law_grown.nd (pi_tup (pe_slice sl_A (pv 1) (po_some pe_int) po_none)) (blkOk_by (own := [("part", 3)]) (N := ["well", "term", "given", "part"]) (sc := defScope s_law_grown) (by decide +kernel)) (fun _ _ _ _ _ => (pg_name (i := 3) sc_law_grown.nd rfl (by first | exact Or.inl rfl | exact Or.inr rfl))) (fun _ _ _ _ _ => pts_nil) (fun _ _ _ _ _ => (pe_calC C_law_grown (hr.mono (by first | decide | omega)) pass0 (pa_cons (pv 0) (pa_cons (pv 3) (pa_cons (pv 2) pa_nil))))))) pa_nil))))
   pss_nil)))
  (pss_gen (I := (fun D σ H1 => ∃ (v1 : V) (t1 : Trm) (hh : Nat) (o3 : Option V), σ = [some (.ref wl), some v1, some (.ref g), o3] ∧ Aft wl H H1 ∧ Dq K (out wl H1) v1 t1.dat ∧ Tz t1 ks k hh ∧ max hh 7 + 2 ≤ 9 + 3 * t.ht ∧ ∀ v' H', Q v' H' → D.rt v' H')) (pss_one (ps_ret (pe_calC C_law_wrapped (hr.mono (by first | decide | omega)) pass0 (pa_cons (pv 0) (pa_cons (pv 1) (pa_cons (pv 2) pa_nil)))))) ?i1)), ?first⟩
  case i1 =>
    rintro D σ H1 ⟨v1, t1, hh, o3, rfl, a1, d1, z1, hb, hn⟩
    refine ⟨_, rfl, _, rfl, _, rfl, wl, g, v1, t1, k, ks, hh, rfl, a1.well, d1, z1, by omega, kdp12, hG.same a1.but, gv, by omega, fun t' v' H' z' d' a' => ?_⟩
    exact hn _ _ (q t' v' H' ⟨z'.wf, z'.jd, by have := z'.ht; omega, z'.kd⟩ d' (a1.trans a'))
  case first =>
    have a0 := Aft.refl hw
    rcases parts_mk hd tg with ⟨n, rfl⟩ | ⟨c, t', rfl⟩ | rfl | ⟨a, wd, us, ps, kl, rfl, nm, ng, nu, hT, hA, l2, h1, hp, hmk⟩
    · obtain ⟨a, u, rfl, hT, hx⟩ := dq_tup2 hd
      have hT' := KB.Same.tup (out_sub wl H) hT
      refine ⟨_, rfl, ix0_seq (.inr hT') (.inl ⟨rfl, _, rfl, iteF' (by decide) ⟨_, rfl, ix0_seq (.inr hT') ⟨(by show 2 ≤ sizeLine; decide), fun p hp => ⟨p, _, rfl, .inl (.of upd_same), rfl, rfl, _, rfl, iteF' (by decide) ?_⟩⟩⟩⟩)⟩
      have b1 := a0.new hp (.lst [.str "given", .str "unit"])
      exact ⟨_, _, 0, _, rfl, b1, hd.same b1.but, ⟨tg.wf, tg.jd, Nat.le_refl _, by have := tg.kd; omega⟩, by simp only [Trm.ht]; omega, fun _ _ h => h⟩
    · obtain ⟨a, u1, u2, rfl, hT, hx, hy⟩ := dq_tup3 hd
      have hT' := KB.Same.tup (out_sub wl H) hT
      obtain ⟨wf, hk, _, kd⟩ := tg
      simp only [Trm.kdp] at kd
      simp only [Trm.ht] at hN h8
      cases e : t'.jd (ks ++ [c]) with
      | none => simp only [Trm.jd, e, Option.map_none] at hk; cases hk
      | some k' =>
        simp only [Trm.jd, e, Option.map_some] at hk
        cases hk
        obtain ⟨gs, eg, hgA⟩ := id hG
        have gsl := hgA.length
        rw [List.length_map] at gsl
        refine ⟨_, rfl, ix0_seq (.inr hT') (.inl ⟨rfl, _, rfl, iteT' (by decide) ?_⟩)⟩
        refine ⟨_, rfl, .inl (.inr (.inl ⟨a, _, 1, u1, rfl, rfl, hT', at1 _ _ _, _, rfl, _, rfl, .inl (.inr (.inl ⟨a, _, 2, u2, rfl, rfl, hT', at2 _ _ _ _, _, rfl, _, rfl, .inl (.inr (.inl ⟨a, _, 1, u1, rfl, rfl, hT', at1 _ _ _, (by show 1 ≤ sizeLine; decide), fun p hp => ?_⟩))⟩))⟩))⟩
        have b1 := a0.new hp (.lst [u1])
        have e1 := same_new hp (.lst [u1]) _ _ (out_some eg).2
        refine .inr (.inr (.inl ⟨g, p, _, _, rfl, rfl, e1, upd_same, fits (by rw [gsl]; simp only [List.length_cons, List.length_nil]; omega), fun l hl => ?_⟩))
        have b2 := b1.new hl (.lst (gs ++ [u1]))
        have el := b1.well.laid hl (.lst (gs ++ [u1]))
        refine ⟨wl, l, u2, t', k', ks ++ [c], rfl, b2.well, hy.same b2.but, ⟨wf.2, e, Nat.le_refl _, by omega⟩, by omega, by omega, ⟨_, el, ?_⟩, gv.more wf.1 (by omega), by rw [List.length_append, List.length_singleton]; omega, fun t2 v2 H2 z2 d2 a2 => ⟨(by show 3 ≤ sizeLine; decide), fun tp htp => ?_⟩⟩
        · rw [List.map_append]
          exact (hgA.same b2.but).append (.cons (hx.same b2.but) .nil)
        · have sp := out_new (w := wl) htp (.tup [.str "make", u1, v2])
          have a12 := b2.trans a2
          refine ⟨_, .mk c t2, 9 + 3 * t'.ht + 1, _, rfl, a12.new htp _, .tup (.of (a12.well.laid htp _)) (.cons (.str _) (.cons (hx.same (a12.but.trans sp)) (.cons (d2.same sp) .nil))), ⟨⟨wf.1, z2.wf⟩, by simp [Trm.jd, z2.jd], ?_, ?_⟩, by simp only [Trm.ht]; omega, fun _ _ h => h⟩
          · have := z2.ht; simp only [Trm.ht]; omega
          · have := z2.kd; simp only [Trm.kdp]; omega
    · obtain ⟨a, rfl, hT⟩ := dq_tup1 hd
      have hT' := KB.Same.tup (out_sub wl H) hT
      refine ⟨_, rfl, ix0_seq (.inr hT') (.inl ⟨rfl, _, rfl, iteF' (by decide) ⟨_, rfl, ix0_seq (.inr hT') ⟨(by show 2 ≤ sizeLine; decide), fun p hp => ⟨p, _, rfl, .inl (.of upd_same), rfl, rfl, _, rfl, iteF' (by decide) ?_⟩⟩⟩⟩)⟩
      have b1 := a0.new hp (.lst [.str "given", .str "unit"])
      exact ⟨_, _, 0, _, rfl, b1, hd.same b1.but, ⟨tg.wf, tg.jd, Nat.le_refl _, by have := tg.kd; omega⟩, by simp only [Trm.ht]; omega, fun _ _ h => h⟩
    · have hT' := KB.Same.tup (out_sub wl H) hT
      have lus := hA.length
      rw [List.length_map] at lus
      have inb : inV (V.str wd) [V.str "given", V.str "unit"] = false := by
        rw [show inV (V.str wd) [V.str "given", V.str "unit"] = _ from inV_strs wd ["given", "unit"]]
        simp [ng, nu]
      refine ⟨_, rfl, ix0_seq (.inr hT') (.inl ⟨rfl, _, rfl, iteF' (by simpa using nm) ⟨_, rfl, ix0_seq (.inr hT') ⟨(by show 2 ≤ sizeLine; decide), fun p hp' => ⟨p, _, rfl, .inl (.of upd_same), rfl, rfl, _, rfl, iteT' (by rw [if_pos rfl, inb]; rfl) ?_⟩⟩⟩⟩)⟩
      have b1 := a0.new hp' (.lst [.str "given", .str "unit"])
      generalize upd H p (.lst [.str "given", .str "unit"]) = H1 at b1 ⊢
      have hT1 := KB.Same.tup (out_sub wl H1) (KB.Same.tup b1.but hT)
      refine ⟨_, rfl, ix0_seq (.inr hT1) ⟨(by show 1 ≤ sizeLine; decide), fun p0 hp0 => ?_⟩⟩
      have b2 := b1.new hp0 (.lst [.str wd])
      have e2 := b1.well.laid hp0 (.lst [.str wd])
      generalize upd H1 p0 (.lst [.str wd]) = H2 at b2 e2 ⊢
      have hT2 := KB.Same.tup (out_sub wl H2) (KB.Same.tup b2.but hT)
      refine ⟨_, rfl, 1, rfl, .inr (.inl ⟨a, _, rfl, hT2, cut1_not _ _, fun p1 hp1 => ?_⟩)⟩
      rw [cut1]
      have b3 := b2.new hp1 (.tup us)
      have e3 := b2.well.laid hp1 (.tup us)
      have e23 := out_new (w := wl) hp1 (.tup us) _ _ e2
      have hA3 := hA.same b3.but
      generalize upd H2 p1 (.tup us) = H3 at b3 e3 e23 hA3 ⊢
      refine ⟨p1, rfl, ⟨_, .of (out_some e3).2⟩, fun D2 hD2 => ?_⟩
      have nD := b3.well.ne hD2
      have hD2' : out wl H3 D2 = none := by
        cases ee : out wl H3 D2 with
        | none => rfl
        | some o => rw [(out_some ee).2] at hD2; cases hD2
      refine lc_tup (K := K) (a := p1) (xs := us) (fun j H' => ∃ (acc : List V) (qs : List Trm), H' D2 = some (.lst acc) ∧ qs.length = j ∧ DqAll K (out D2 (out wl H')) acc (qs.map Trm.dat) ∧ (∀ (i : Nat) (q : Trm), qs[i]? = some q → ∃ ki, kl[i]? = some ki ∧ Tz q ks ki (9 + 3 * (t.ht - 1))) ∧ Well H' wl ∧ Same (out wl H3) (out D2 (out wl H')))
        ⟨[], [], upd_same, rfl, .nil, (fun i q h => by cases h), b3.well.new hD2 _, fun b o h => by
          have h1 := out_some h
          have nb : b ≠ D2 := fun z => by rw [z, hD2] at h1; cases h1.2
          exact out_at nb (out_at h1.1 ((upd_ne nb).trans h1.2))⟩ (fun j H' _ ⟨_, _, _, _, _, _, _, h⟩ => .of (out_some (out_some (h _ _ e3)).2).2) ?_ ?_
      · rintro j x H4 hx ⟨acc, qs, eD, ql, da, hq, hw4, sm⟩
        have jl : j < ps.length := by rw [← lus]; exact (List.getElem?_eq_some_iff.mp hx).1
        have s34 : Same (out wl H3) (out wl H4) := sm.trans (out_sub _ _)
        obtain ⟨dd, ed, dx⟩ := (hA3.same s34).get hx
        rw [List.getElem?_map, List.getElem?_eq_getElem jl] at ed
        cases ed
        obtain ⟨ki, eki, tgi, hti⟩ := hp j ps[j] (List.getElem?_eq_getElem jl)
        have al := da.length
        rw [List.length_map] at al
        refine ⟨rfl, _, rfl, _, rfl, _, rfl, wl, g, x, ps[j], ki, ks, rfl, hw4, dx, tgi, by omega, by omega, (hG.same b3.but).same s34, gv, by omega, fun t4 v4 H5 z4 d4 a5 => ?_⟩
        have eD5 := a5.at_ nD eD
        refine ⟨acc, eD5, fits_lt (by omega), acc ++ [v4], qs ++ [t4], upd_same, by rw [List.length_append, ql]; rfl, ?_, fun i q hi => ?_, ?_, ?_⟩
        · have sO : Same (out D2 (out wl H4)) (out D2 (out wl (upd H5 D2 (.lst (acc ++ [v4]))))) := (out_same a5.but).trans fun b o h => by
            have h1 := out_some h
            have h2 := out_some h1.2
            exact out_at h1.1 (out_at h2.1 ((upd_ne h1.1).trans h2.2))
          rw [List.map_append]
          refine (da.same sO).append (.cons ?_ .nil)
          refine (Dq.outp (l := D2) (out_at nD eD5) (pure_jd _ _ _ z4.jd) d4).same fun b o h => ?_
          have h1 := out_some h
          have h2 := out_some h1.2
          exact out_at h1.1 (out_at h2.1 ((upd_ne h1.1).trans h2.2))
        · by_cases c : i < qs.length
          · rw [List.getElem?_append_left c] at hi
            exact hq i q hi
          · rw [List.getElem?_append_right (by omega)] at hi
            have i0 : i - qs.length = 0 := by
              cases z : i - qs.length with
              | zero => rfl
              | succ n => rw [z] at hi; cases hi
            rw [i0] at hi
            cases hi
            have ij : i = j := by omega
            subst ij
            exact ⟨ki, eki, z4.wf, z4.jd, by have := z4.ht; omega, z4.kd⟩
        · obtain ⟨xx, yy, zz, ee⟩ := a5.well
          exact ⟨xx, yy, zz, (upd_ne nD.symm).trans ee⟩
        · refine (sm.trans (out_same a5.but)).trans fun b o h => ?_
          have h1 := out_some h
          have h2 := out_some h1.2
          exact out_at h1.1 (out_at h2.1 ((upd_ne h1.1).trans h2.2))
      · rintro H4 ⟨acc, qs, eD, ql, da, hq, hw4, sm⟩
        have s34 : Same (out wl H3) (out wl H4) := sm.trans (out_sub _ _)
        have e4 := s34 _ _ e23
        have al := da.length
        rw [List.length_map] at al
        obtain ⟨t', zt, et'⟩ := hmk qs (9 + 3 * (t.ht - 1)) (by omega) hq
        refine .inr (.inr (.inl ⟨p0, D2, _, _, rfl, rfl, (out_some e4).2, eD, fits (by simp only [List.length_cons, List.length_nil]; omega), fun l hl => ⟨l, _, rfl, .inl ⟨.of upd_same, fun tp htp => ?_⟩⟩⟩))
        have b4 : Aft wl H H4 := ⟨hw4, b3.but.trans s34⟩
        have b5 := b4.new hl (.lst ([V.str wd] ++ acc))
        have b6 := b5.new htp (.tup ([V.str wd] ++ acc))
        have e6 := b5.well.laid htp (.tup ([V.str wd] ++ acc))
        have s46 := (out_new (w := wl) hl (.lst ([V.str wd] ++ acc))).trans (out_new (w := wl) htp (.tup ([V.str wd] ++ acc)))
        refine ⟨_, t', 9 + 3 * (t.ht - 1) + 1, _, rfl, b6, ?_, zt, ?_, fun _ _ h => h⟩
        · rw [et']
          exact .tup (.of e6) (.cons (.str _) ((da.same (out_sub _ _)).same s46))
        · omega
theorem ok_gr (A : At K mg "_law_grown" s_law_grown) (T : Txt K mg w CN CT) (C_law_wrapped : Cal P w K mg base CX0 63 "_law_wrapped" ["well", "term", "given"] (spWr K)) : ∀ N : Nat, Cal P w K mg base CX0 (N + 63) "_law_grown" ["well", "term", "given"] (spGr K N)
  | 0 => cal_vac A (fun f fd F => F.binds (ps := ["well", "term", "given"]) (fun _ _ _ _ _ _ us hl => match us, hl with | [_, _, _], _ => rfl)) fun vs H Q E ⟨wl, g, v, t, k, ks, _, _, _, _, _, h, _⟩ => absurd h (Nat.not_lt_zero _)
  | N + 1 => ok_gr1 A T C_law_wrapped (ok_gr A T C_law_wrapped N)
end

/-! ## how many parts a thing has, and how high it is -/
mutual
def tsz : PyData → Nat
  | .tuple xs => 1 + tszs xs
  | _ => 0
def tszs : List PyData → Nat
  | [] => 0
  | x :: r => tsz x + tszs r
end
mutual
def nrw : PyData → Bool
  | .tuple xs => decide (xs.length ≤ 3) && nrws xs
  | _ => true
def nrws : List PyData → Bool
  | [] => true
  | x :: r => nrw x && nrws r
end
theorem nrws_at : ∀ {ds : List PyData} {i : Nat} {d : PyData}, nrws ds = true → ds[i]? = some d → nrw d = true
  | x :: r, 0, d, h, e => by cases e; simp only [nrws, Bool.and_eq_true] at h; exact h.1
  | x :: r, i + 1, d, h, e => by simp only [nrws, Bool.and_eq_true] at h; exact nrws_at (i := i) h.2 e
theorem depths_at : ∀ {ds : List PyData} {i : Nat} {d : PyData}, ds[i]? = some d → d.depth ≤ PyData.depthAll ds
  | x :: r, 0, d, e => by cases e; simp only [PyData.depthAll]; omega
  | x :: r, i + 1, d, e => by have := depths_at (ds := r) (i := i) e; simp only [PyData.depthAll]; omega
theorem tszs_append : ∀ a b : List PyData, tszs (a ++ b) = tszs a + tszs b
  | [], b => by simp [tszs]
  | x :: r, b => by simp only [List.cons_append, tszs, tszs_append r b]; omega
def spSize (K : PySem.W.Frag) (N : Nat) : Sp := fun vs H Q _ => ∃ (v : V) (ds : List PyData), vs = [v] ∧ Dq K H v (.tuple ds) ∧ (PyData.tuple ds).depth < N ∧ nrw (.tuple ds) = true ∧ ∀ H', Same H H' → Q (.int (tsz (.tuple ds) : Nat)) H'
def spHeight (K : PySem.W.Frag) (N : Nat) : Sp := fun vs H Q _ => ∃ (v : V) (ds : List PyData), vs = [v] ∧ Dq K H v (.tuple ds) ∧ (PyData.tuple ds).depth < N ∧ nrw (.tuple ds) = true ∧ ∀ (n : Nat) H', Same H H' → Q (.int (n : Nat)) H'
abbrev s_law_size : Stmt := top 34
theorem sc_law_size : FnScope ["thing", "part"] ["thing"] (defScope s_law_size) := ⟨rfl, rfl, rfl, by decide +kernel, rfl, by decide +kernel, by decide +kernel⟩
abbrev s_law_height : Stmt := top 35
theorem sc_law_height : FnScope ["thing", "part"] ["thing"] (defScope s_law_height) := ⟨rfl, rfl, rfl, by decide +kernel, rfl, by decide +kernel, by decide +kernel⟩
section
variable {P : Program} {w : World} {K : PySem.W.Frag} {mg : Str → Option Value} {base : Heap} {CN CT : Addr}
theorem ok_size1 {N : Nat} (A : At K mg "_law_size" s_law_size) (T : Txt K mg w CN CT) (C_law_size : Cal P w K mg base CX0 N "_law_size" ["thing"] (spSize K N)) : Cal P w K mg base CX0 (N + 1) "_law_size" ["thing"] (spSize K (N + 1)) := by
  obtain ⟨f, fd, F, m⟩ := A
  refine ⟨f, fd, F.ok sc_law_size (fun vs H Q E h => ?_) (fun cdv A outer s H vs Q E hr h => ?_), F.binds (ps := ["thing"]) (fun _ _ _ _ _ _ us hl => match us, hl with | [_], _ => rfl), F.kp, m⟩
  · obtain ⟨v, ds, rfl, _⟩ := h; rfl
  obtain ⟨v, ds, rfl, hd, hN, hz, q⟩ := h
  obtain ⟨a, xs, rfl, hT, hA⟩ : ∃ a xs, v = .ref a ∧ SqT K H a xs ∧ DqAll K H xs ds := by cases hd with | tup h1 h2 => exact ⟨_, _, rfl, h1, h2⟩
  simp only [nrw, Bool.and_eq_true, decide_eq_true_eq] at hz
  simp only [PyData.depth] at hN
  have xl := hA.length
  refine ⟨_, (pss_one (ps_ret (pe_op op_addA pe_int (pe_callB (cr_sum rfl) (by rfl) T.z_sum (by decide +kernel) (pa_cons (pe_lc (own := [("part", 1)]) (g := gName 1) (by rfl) sc_law_size.nd (pi_tup (pv 0)) (blkOk_by (own := [("part", 1)]) (N := ["thing", "part"]) (sc := defScope s_law_size) (by decide +kernel)) (fun _ _ _ _ _ => (pg_name (i := 1) sc_law_size.nd rfl (by first | exact Or.inl rfl | exact Or.inr rfl))) (fun _ _ _ _ _ => (pts_one (pt_val (pe_callB (r := rIsiD K) call_isiD (by rfl) T.z_isinstance (by decide +kernel) (pa_cons (pv 1) (pa_cons (pe_bltn (v := .ty "tuple") (by rfl) T.z_tuple (by decide +kernel) rfl) pa_nil)))))) (fun _ _ _ _ _ => (pe_calC C_law_size (hr.mono (by first | decide | omega)) pass0 (pa_cons (pv 1) pa_nil)))) pa_nil))))), ?_⟩
  refine ⟨_, rfl, a, rfl, ⟨_, hT⟩, fun D hD => ?_⟩
  refine lc_tup (K := K) (a := a) (xs := xs) (fun j H' => ∃ acc : List Int, H' D = some (.lst (acc.map V.int)) ∧ acc.sum = (tszs (ds.take j) : Nat) ∧ acc.length ≤ j ∧ Same H (out D H')) ⟨[], upd_same, by simp [tszs], Nat.le_refl _, same_out hD (same_new hD _)⟩ (fun j H' _ ⟨_, _, _, _, h⟩ => KB.Same.tup (h.trans (out_sub _ _)) hT) ?_ ?_
  · rintro j x H1 hx ⟨acc, eD, es, al, sm⟩
    have jl : j < xs.length := (List.getElem?_eq_some_iff.mp hx).1
    have s1 : Same H H1 := sm.trans (out_sub _ _)
    obtain ⟨d, ed, dx⟩ := hA.get hx
    have dx1 := dx.same s1
    have hn := nrws_at hz.2 ed
    have hp := depths_at ed
    refine ⟨rfl, _, rfl, x, "tuple", d, rfl, dx1, rfl, _, rfl, ?_⟩
    by_cases ht : tyN d = "tuple"
    · rw [ht]
      refine iteT' (by decide) ?_
      have ex : ∃ es, d = .tuple es := by cases d <;> simp [tyN] at ht; exact ⟨_, rfl⟩
      obtain ⟨es', rfl⟩ := ex
      refine ⟨_, rfl, x, es', rfl, dx1, by omega, hn, fun H2 s2 => ?_⟩
      have eD2 := s2 _ _ eD
      refine ⟨_, eD2, fits_lt (by rw [List.length_map]; omega), acc ++ [((tsz (.tuple es') : Nat) : Int)], by rw [List.map_append]; exact upd_same, ?_, by rw [List.length_append, List.length_singleton]; omega, (sm.trans (out_same s2)).trans (out_set _)⟩
      rw [List.take_succ, ed, tszs_append, List.sum_append, es]
      simp [tszs]
    · have e : isiN (tyN d) "tuple" = false := by cases d <;> first | rfl | (simp [tyN] at ht)
      rw [e]
      refine iteF' (by decide) ⟨acc, eD, by
        rw [List.take_succ, ed, tszs_append, es]
        have : tsz d = 0 := by cases d <;> first | rfl | (exfalso; exact ht rfl)
        simp [tszs, this], by omega, sm⟩
  · rintro H1 ⟨acc, eD, es, al, sm⟩
    have s1 : Same H H1 := sm.trans (out_sub _ _)
    refine ⟨D, acc, rfl, .of eD, .inl ⟨_, _, rfl, rfl, ?_⟩⟩
    have e := q H1 s1
    rw [show ((tsz (.tuple ds) : Nat) : Int) = 1 + acc.sum by rw [es, xl, List.take_length]; simp only [tsz]; omega] at e
    exact e
theorem ok_height1 {N : Nat} (A : At K mg "_law_height" s_law_height) (T : Txt K mg w CN CT) (C_law_height : Cal P w K mg base CX0 N "_law_height" ["thing"] (spHeight K N)) : Cal P w K mg base CX0 (N + 1) "_law_height" ["thing"] (spHeight K (N + 1)) := by
  obtain ⟨f, fd, F, m⟩ := A
  refine ⟨f, fd, F.ok sc_law_height (fun vs H Q E h => ?_) (fun cdv A outer s H vs Q E hr h => ?_), F.binds (ps := ["thing"]) (fun _ _ _ _ _ _ us hl => match us, hl with | [_], _ => rfl), F.kp, m⟩
  · obtain ⟨v, ds, rfl, _⟩ := h; rfl
  obtain ⟨v, ds, rfl, hd, hN, hz, q⟩ := h
  obtain ⟨a, xs, rfl, hT, hA⟩ : ∃ a xs, v = .ref a ∧ SqT K H a xs ∧ DqAll K H xs ds := by cases hd with | tup h1 h2 => exact ⟨_, _, rfl, h1, h2⟩
  simp only [nrw, Bool.and_eq_true, decide_eq_true_eq] at hz
  simp only [PyData.depth] at hN
  have xl := hA.length
  refine ⟨_, (pss_one (ps_ret (pe_op op_addA pe_int (pe_callB (cr_max rfl) (by rfl) T.z_max (by decide +kernel) (pa_cons (pe_op op_addA (pe_lst (pa_cons pe_int pa_nil)) (pe_lc (own := [("part", 1)]) (g := gName 1) (by rfl) sc_law_height.nd (pi_tup (pv 0)) (blkOk_by (own := [("part", 1)]) (N := ["thing", "part"]) (sc := defScope s_law_height) (by decide +kernel)) (fun _ _ _ _ _ => (pg_name (i := 1) sc_law_height.nd rfl (by first | exact Or.inl rfl | exact Or.inr rfl))) (fun _ _ _ _ _ => (pts_one (pt_val (pe_callB (r := rIsiD K) call_isiD (by rfl) T.z_isinstance (by decide +kernel) (pa_cons (pv 1) (pa_cons (pe_bltn (v := .ty "tuple") (by rfl) T.z_tuple (by decide +kernel) rfl) pa_nil)))))) (fun _ _ _ _ _ => (pe_calC C_law_height (hr.mono (by first | decide | omega)) pass0 (pa_cons (pv 1) pa_nil))))) pa_nil))))), ?_⟩
  refine ⟨Nat.le_of_ble_eq_true rfl, fun p0 hp0 => ?_⟩
  have s0 := same_new hp0 (.lst [V.int 0])
  have e0 : upd H p0 (.lst [V.int 0]) p0 = some (.lst [V.int 0]) := upd_same
  generalize upd H p0 (.lst [V.int 0]) = H0 at s0 e0 ⊢
  refine ⟨_, rfl, a, rfl, ⟨_, KB.Same.tup s0 hT⟩, fun D hD => ?_⟩
  refine lc_tup (K := K) (a := a) (xs := xs) (fun j H' => ∃ acc : List Nat, H' D = some (.lst (acc.map (fun n : Nat => V.int ((n : Nat) : Int)))) ∧ acc.length ≤ j ∧ Same H0 (out D H')) ⟨[], upd_same, Nat.le_refl _, same_out hD (same_new hD _)⟩ (fun j H' _ ⟨_, _, _, h⟩ => KB.Same.tup (s0.trans (h.trans (out_sub _ _))) hT) ?_ ?_
  · rintro j x H1 hx ⟨acc, eD, al, sm⟩
    have jl : j < xs.length := (List.getElem?_eq_some_iff.mp hx).1
    have s1 : Same H H1 := s0.trans (sm.trans (out_sub _ _))
    obtain ⟨d, ed, dx⟩ := hA.get hx
    have dx1 := dx.same s1
    have hn := nrws_at hz.2 ed
    have hp := depths_at ed
    refine ⟨rfl, _, rfl, x, "tuple", d, rfl, dx1, rfl, _, rfl, ?_⟩
    by_cases ht : tyN d = "tuple"
    · rw [ht]
      refine iteT' (by decide) ?_
      have ex : ∃ es, d = .tuple es := by cases d <;> simp [tyN] at ht; exact ⟨_, rfl⟩
      obtain ⟨es', rfl⟩ := ex
      refine ⟨_, rfl, x, es', rfl, dx1, by omega, hn, fun n H2 s2 => ?_⟩
      have eD2 := s2 _ _ eD
      refine ⟨_, eD2, fits_lt (by rw [List.length_map]; omega), acc ++ [n], by rw [List.map_append]; exact upd_same, by rw [List.length_append, List.length_singleton]; omega, (sm.trans (out_same s2)).trans (out_set _)⟩
    · have e : isiN (tyN d) "tuple" = false := by cases d <;> first | rfl | (simp [tyN] at ht)
      rw [e]
      refine iteF' (by decide) ⟨acc, eD, by omega, sm⟩
  · rintro H1 ⟨acc, eD, al, sm⟩
    have s1 : Same H0 H1 := sm.trans (out_sub _ _)
    refine .inr (.inr (.inl ⟨p0, D, _, _, rfl, rfl, s1 _ _ e0, eD, fits (by simp only [List.length_cons, List.length_nil, List.length_map]; omega), fun l hl => ?_⟩))
    refine ⟨l, (0 :: acc).map (fun n : Nat => ((n : Nat) : Int)), rfl, .of (by rw [List.map_map]; exact upd_same), by simp, fun m' hm' hle' => ?_⟩
    obtain ⟨n, _, rfl⟩ := List.mem_map.mp hm'
    have e := q (1 + n) _ ((s0.trans s1).trans (same_new hl (.lst ([V.int 0] ++ acc.map (fun n : Nat => V.int ((n : Nat) : Int))))))
    rw [show (((1 + n : Nat)) : Int) = 1 + ((n : Nat) : Int) by omega] at e
    exact .inl ⟨_, _, rfl, rfl, e⟩
theorem ok_size (A : At K mg "_law_size" s_law_size) (T : Txt K mg w CN CT) : ∀ N : Nat, Cal P w K mg base CX0 N "_law_size" ["thing"] (spSize K N)
  | 0 => cal_vac A (fun f fd F => F.binds (ps := ["thing"]) (fun _ _ _ _ _ _ us hl => match us, hl with | [_], _ => rfl)) fun vs H Q E ⟨v, ds, _, _, h, _⟩ => absurd h (Nat.not_lt_zero _)
  | N + 1 => ok_size1 A T (ok_size A T N)
theorem ok_height (A : At K mg "_law_height" s_law_height) (T : Txt K mg w CN CT) : ∀ N : Nat, Cal P w K mg base CX0 N "_law_height" ["thing"] (spHeight K N)
  | 0 => cal_vac A (fun f fd F => F.binds (ps := ["thing"]) (fun _ _ _ _ _ _ us hl => match us, hl with | [_], _ => rfl)) fun vs H Q E ⟨v, ds, _, _, h, _⟩ => absurd h (Nat.not_lt_zero _)
  | N + 1 => ok_height1 A T (ok_height A T N)
end

/-! ## bounds of things as terms -/
theorem kd_nrw : ∀ k : Kd, nrw k.dat = true
  | .b _ => by simp [Kd.dat, nrw, nrws]
  | .u => by simp [Kd.dat, nrw, nrws]
  | .p x y => by simp [Kd.dat, nrw, nrws, kd_nrw x, kd_nrw y]
  | .f x y => by simp [Kd.dat, nrw, nrws, kd_nrw x, kd_nrw y]
theorem kd_tsz : ∀ k : Kd, sz k.dat ≤ 3 * tsz k.dat
  | .b _ => by simp [Kd.dat, sz, szs, tsz, tszs]
  | .u => by simp [Kd.dat, sz, szs, tsz, tszs]
  | .p x y => by have := kd_tsz x; have := kd_tsz y; simp only [Kd.dat, sz, szs, tsz, tszs]; omega
  | .f x y => by have := kd_tsz x; have := kd_tsz y; simp only [Kd.dat, sz, szs, tsz, tszs]; omega
theorem jd_parts : ∀ (t : Trm) (ks : List Kd) (k : Kd), t.jd ks = some k → match t with
    | .fst t | .snd t => ∃ k', t.jd ks = some k'
    | .mk c t => ∃ k', t.jd (ks ++ [c]) = some k'
    | .doo a b | .both a b => (∃ k', a.jd ks = some k') ∧ ∃ k', b.jd ks = some k'
    | .giv x => ∃ n : Nat, x = .int (n : Nat)
    | .unit => True
    | .bad _ => False
  | .giv x, ks, k, h => by obtain ⟨n, rfl, _⟩ := Trm.giv_some h; exact ⟨n, rfl⟩
  | .fst t, ks, k, h => by
    cases e : t.jd ks with
    | none => simp [Trm.jd, e] at h
    | some y => exact ⟨y, e⟩
  | .snd t, ks, k, h => by
    cases e : t.jd ks with
    | none => simp [Trm.jd, e] at h
    | some y => exact ⟨y, e⟩
  | .mk c t, ks, k, h => by
    cases e : t.jd (ks ++ [c]) with
    | none => simp [Trm.jd, e] at h
    | some y => exact ⟨y, e⟩
  | .doo a b, ks, k, h => by
    cases e : a.jd ks with
    | none => simp [Trm.jd, e] at h
    | some y => cases e2 : b.jd ks with
      | none => simp [Trm.jd, e, e2] at h
      | some z => exact ⟨⟨y, e⟩, ⟨z, e2⟩⟩
  | .both a b, ks, k, h => by
    cases e : a.jd ks with
    | none => simp [Trm.jd, e] at h
    | some y => cases e2 : b.jd ks with
      | none => simp [Trm.jd, e, e2] at h
      | some z => exact ⟨⟨y, e⟩, ⟨z, e2⟩⟩
  | .unit, ks, k, h => trivial
  | .bad _, ks, k, h => by cases h
theorem good_nrw : ∀ (t : Trm) (ks : List Kd) (k : Kd), t.jd ks = some k → nrw t.dat = true ∧ sz t.dat ≤ 3 * tsz t.dat ∧ t.dat.depth ≤ t.ht + t.kdp + 1
  | .giv x, ks, k, h => by
    obtain ⟨n, rfl⟩ := jd_parts _ ks k h
    simp [Trm.dat, nrw, nrws, sz, szs, tsz, tszs, PyData.depth, PyData.depthAll, Trm.ht, Trm.kdp]
  | .fst t, ks, k, h => by
    obtain ⟨k', e⟩ := jd_parts _ ks k h
    obtain ⟨h1, h2, h3⟩ := good_nrw t ks k' e
    refine ⟨by simp [Trm.dat, nrw, nrws, h1], by simp only [Trm.dat, sz, szs, tsz, tszs]; omega, by simp only [Trm.dat, PyData.depth, PyData.depthAll, Trm.ht, Trm.kdp]; omega⟩
  | .snd t, ks, k, h => by
    obtain ⟨k', e⟩ := jd_parts _ ks k h
    obtain ⟨h1, h2, h3⟩ := good_nrw t ks k' e
    refine ⟨by simp [Trm.dat, nrw, nrws, h1], by simp only [Trm.dat, sz, szs, tsz, tszs]; omega, by simp only [Trm.dat, PyData.depth, PyData.depthAll, Trm.ht, Trm.kdp]; omega⟩
  | .mk c t, ks, k, h => by
    obtain ⟨k', e⟩ := jd_parts _ ks k h
    obtain ⟨h1, h2, h3⟩ := good_nrw t _ k' e
    have h4 := kd_tsz c
    have h5 := Kd.dat_depth c
    refine ⟨by simp [Trm.dat, nrw, nrws, h1, kd_nrw c], by simp only [Trm.dat, sz, szs, tsz, tszs]; omega, by simp only [Trm.dat, PyData.depth, PyData.depthAll, Trm.ht, Trm.kdp]; omega⟩
  | .doo a b, ks, k, h => by
    obtain ⟨⟨k', e⟩, ⟨k2, e2⟩⟩ := jd_parts _ ks k h
    obtain ⟨h1, h2, h3⟩ := good_nrw a ks k' e
    obtain ⟨g1, g2, g3⟩ := good_nrw b ks k2 e2
    refine ⟨by simp [Trm.dat, nrw, nrws, h1, g1], by simp only [Trm.dat, sz, szs, tsz, tszs]; omega, by simp only [Trm.dat, PyData.depth, PyData.depthAll, Trm.ht, Trm.kdp]; omega⟩
  | .both a b, ks, k, h => by
    obtain ⟨⟨k', e⟩, ⟨k2, e2⟩⟩ := jd_parts _ ks k h
    obtain ⟨h1, h2, h3⟩ := good_nrw a ks k' e
    obtain ⟨g1, g2, g3⟩ := good_nrw b ks k2 e2
    refine ⟨by simp [Trm.dat, nrw, nrws, h1, g1], by simp only [Trm.dat, sz, szs, tsz, tszs]; omega, by simp only [Trm.dat, PyData.depth, PyData.depthAll, Trm.ht, Trm.kdp]; omega⟩
  | .unit, ks, k, h => by simp [Trm.dat, nrw, nrws, sz, szs, tsz, tszs, PyData.depth, PyData.depthAll, Trm.ht, Trm.kdp]
  | .bad _, ks, k, h => by cases h
theorem good_pow : ∀ (t : Trm) (ks : List Kd) (k : Kd), t.jd ks = some k → t.kdp ≤ 3 → sz t.dat + 47 ≤ 50 * 2 ^ t.ht
  | .giv x, ks, k, h, _ => by
    obtain ⟨n, rfl⟩ := jd_parts _ ks k h
    simp [Trm.dat, sz, szs, Trm.ht]
  | .fst t, ks, k, h, c => by
    obtain ⟨k', e⟩ := jd_parts _ ks k h
    have := good_pow t ks k' e c
    simp only [Trm.dat, sz, szs, Trm.ht, Nat.pow_succ]; omega
  | .snd t, ks, k, h, c => by
    obtain ⟨k', e⟩ := jd_parts _ ks k h
    have := good_pow t ks k' e c
    simp only [Trm.dat, sz, szs, Trm.ht, Nat.pow_succ]; omega
  | .mk x t, ks, k, h, c => by
    obtain ⟨k', e⟩ := jd_parts _ ks k h
    simp only [Trm.kdp] at c
    have h1 := good_pow t _ k' e (by omega)
    have h2 := Kd.sz_dat x
    have h3 := leaves8 (k := x) (by omega)
    simp only [Trm.dat, sz, szs, Trm.ht, Nat.pow_succ]; omega
  | .doo a b, ks, k, h, c => by
    obtain ⟨⟨k', e⟩, ⟨k2, e2⟩⟩ := jd_parts _ ks k h
    simp only [Trm.kdp] at c
    have h1 := good_pow a ks k' e (by omega)
    have h2 := good_pow b ks k2 e2 (by omega)
    have m1 := Nat.pow_le_pow_right (n := 2) (by decide) (Nat.le_max_left a.ht b.ht)
    have m2 := Nat.pow_le_pow_right (n := 2) (by decide) (Nat.le_max_right a.ht b.ht)
    simp only [Trm.dat, sz, szs, Trm.ht, Nat.pow_succ]; omega
  | .both a b, ks, k, h, c => by
    obtain ⟨⟨k', e⟩, ⟨k2, e2⟩⟩ := jd_parts _ ks k h
    simp only [Trm.kdp] at c
    have h1 := good_pow a ks k' e (by omega)
    have h2 := good_pow b ks k2 e2 (by omega)
    have m1 := Nat.pow_le_pow_right (n := 2) (by decide) (Nat.le_max_left a.ht b.ht)
    have m2 := Nat.pow_le_pow_right (n := 2) (by decide) (Nat.le_max_right a.ht b.ht)
    simp only [Trm.dat, sz, szs, Trm.ht, Nat.pow_succ]; omega
  | .unit, ks, k, h, _ => by simp [Trm.dat, sz, szs, Trm.ht]
  | .bad _, ks, k, h, _ => by cases h
mutual
def mdD : PyData → Nat
  | .tuple (.str w :: r) => (if w = "make" then 1 else 0) + mdDs r
  | _ => 0
def mdDs : List PyData → Nat
  | [] => 0
  | x :: r => max (mdD x) (mdDs r)
end
theorem kd_md : ∀ k : Kd, mdD k.dat = 0
  | .b _ => by simp only [Kd.dat, mdD, mdDs]; decide
  | .u => by simp only [Kd.dat, mdD, mdDs]; decide
  | .p x y => by simp only [Kd.dat, mdD, mdDs, kd_md x, kd_md y]; decide
  | .f x y => by simp only [Kd.dat, mdD, mdDs, kd_md x, kd_md y]; decide
theorem md_dat : ∀ t : Trm, t.md ≤ mdD t.dat
  | .giv x => Nat.zero_le _
  | .fst t => by have := md_dat t; simp only [Trm.dat, mdD, mdDs, Trm.md]; omega
  | .snd t => by have := md_dat t; simp only [Trm.dat, mdD, mdDs, Trm.md]; omega
  | .mk k t => by have := md_dat t; simp only [Trm.dat, mdD, mdDs, Trm.md, if_true]; omega
  | .doo a b => by have := md_dat a; have := md_dat b; simp only [Trm.dat, mdD, mdDs, Trm.md]; omega
  | .both a b => by have := md_dat a; have := md_dat b; simp only [Trm.dat, mdD, mdDs, Trm.md]; omega
  | .unit => Nat.zero_le _
  | .bad _ => Nat.zero_le _
theorem ht_dat : ∀ t : Trm, t.ht ≤ t.dat.depth ∧ t.kdp ≤ t.dat.depth
  | .giv x => ⟨Nat.zero_le _, Nat.zero_le _⟩
  | .fst t => by have := ht_dat t; simp only [Trm.dat, PyData.depth, PyData.depthAll, Trm.ht, Trm.kdp]; omega
  | .snd t => by have := ht_dat t; simp only [Trm.dat, PyData.depth, PyData.depthAll, Trm.ht, Trm.kdp]; omega
  | .mk k t => by have := ht_dat t; have := Kd.dat_depth k; simp only [Trm.dat, PyData.depth, PyData.depthAll, Trm.ht, Trm.kdp]; omega
  | .doo a b => by have := ht_dat a; have := ht_dat b; simp only [Trm.dat, PyData.depth, PyData.depthAll, Trm.ht, Trm.kdp]; omega
  | .both a b => by have := ht_dat a; have := ht_dat b; simp only [Trm.dat, PyData.depth, PyData.depthAll, Trm.ht, Trm.kdp]; omega
  | .unit => ⟨Nat.zero_le _, Nat.zero_le _⟩
  | .bad _ => ⟨Nat.zero_le _, Nat.zero_le _⟩
theorem good_md : ∀ (t : Trm) (ks : List Kd) (k : Kd), t.jd ks = some k → mdD t.dat ≤ t.md ∧ t.md ≤ t.ht
  | .giv x, ks, k, h => by
    obtain ⟨n, rfl⟩ := jd_parts _ ks k h
    simp only [Trm.dat, mdD, mdDs, Trm.md, Trm.ht]; decide
  | .fst t, ks, k, h => by
    obtain ⟨k', e⟩ := jd_parts _ ks k h
    have := good_md t ks k' e
    simp only [Trm.dat, mdD, mdDs, Trm.md, Trm.ht, show (("first" : Str) = "make") = False by simp; decide, if_false]; omega
  | .snd t, ks, k, h => by
    obtain ⟨k', e⟩ := jd_parts _ ks k h
    have := good_md t ks k' e
    simp only [Trm.dat, mdD, mdDs, Trm.md, Trm.ht, show (("second" : Str) = "make") = False by simp; decide, if_false]; omega
  | .mk c t, ks, k, h => by
    obtain ⟨k', e⟩ := jd_parts _ ks k h
    have := good_md t _ k' e
    simp only [Trm.dat, mdD, mdDs, Trm.md, Trm.ht, if_true, kd_md c]; omega
  | .doo a b, ks, k, h => by
    obtain ⟨⟨k', e⟩, ⟨k2, e2⟩⟩ := jd_parts _ ks k h
    have := good_md a ks k' e
    have := good_md b ks k2 e2
    simp only [Trm.dat, mdD, mdDs, Trm.md, Trm.ht, show (("do" : Str) = "make") = False by simp; decide, if_false]; omega
  | .both a b, ks, k, h => by
    obtain ⟨⟨k', e⟩, ⟨k2, e2⟩⟩ := jd_parts _ ks k h
    have := good_md a ks k' e
    have := good_md b ks k2 e2
    simp only [Trm.dat, mdD, mdDs, Trm.md, Trm.ht, show (("both" : Str) = "make") = False by simp; decide, if_false]; omega
  | .unit, ks, k, h => by simp only [Trm.dat, mdD, mdDs, Trm.md, Trm.ht]; decide
  | .bad _, ks, k, h => by cases h
/-- any data are those of a term, good or not -/
theorem trm_of : ∀ (n : Nat) (d : PyData), sz d ≤ n → ∃ t : Trm, t.dat = d ∧ t.wf
  | 0, d, h => by have := sz_pos d; omega
  | n + 1, d, h => by
    cases hp : pcB d with
    | false => exact ⟨.bad d, rfl, hp⟩
    | true =>
      unfold pcB at hp
      split at hp
      · rename_i w r
        simp only [Bool.and_eq_true, decide_eq_true_eq, Bool.or_eq_true, Bool.not_eq_true', decide_eq_false_iff_not] at hp
        obtain ⟨hl, hk⟩ := hp
        simp only [sz, szs] at h
        unfold lenOf at hl
        split at hl
        · rename_i e; subst e
          match r, hl with
          | [x], _ => exact ⟨.giv x, rfl, trivial⟩
        split at hl
        · rename_i e; subst e
          match r, hl, hk with
          | [x, y], _, hk =>
            rcases hk with hk | hk
            · exact absurd rfl hk
            obtain ⟨k, ok, rfl⟩ := kd_of x hk
            simp only [szs] at h
            obtain ⟨t, rfl, wf⟩ := trm_of n y (by omega)
            exact ⟨.mk k t, rfl, ok, wf⟩
        split at hl
        · rename_i e; subst e
          match r, hl with
          | [x, y], _ =>
            simp only [szs] at h
            obtain ⟨a, rfl, wa⟩ := trm_of n x (by omega)
            obtain ⟨b, rfl, wb⟩ := trm_of n y (by omega)
            exact ⟨.doo a b, rfl, wa, wb⟩
        split at hl
        · rename_i e; subst e
          match r, hl with
          | [x, y], _ =>
            simp only [szs] at h
            obtain ⟨a, rfl, wa⟩ := trm_of n x (by omega)
            obtain ⟨b, rfl, wb⟩ := trm_of n y (by omega)
            exact ⟨.both a b, rfl, wa, wb⟩
        split at hl
        · rename_i e; subst e
          match r, hl with
          | [x], _ =>
            simp only [szs] at h
            obtain ⟨a, rfl, wa⟩ := trm_of n x (by omega)
            exact ⟨.fst a, rfl, wa⟩
        split at hl
        · rename_i e; subst e
          match r, hl with
          | [x], _ =>
            simp only [szs] at h
            obtain ⟨a, rfl, wa⟩ := trm_of n x (by omega)
            exact ⟨.snd a, rfl, wa⟩
        split at hl
        · rename_i e; subst e
          match r, hl with
          | [], _ => exact ⟨.unit, rfl, trivial⟩
        cases hl
      · cases hp
theorem few_of {M : Nat} : ∀ (t : Trm) (ks : List Kd), (∀ x ∈ ks, x.deep ≤ M) → t.kdp ≤ M → M + t.ht ≤ 150 → ks.length + t.md < 64 → t.Few ks
  | .giv x, ks, _, _, _, _ => trivial
  | .fst t, ks, h, c, a, b => by
    simp only [Trm.ht] at a
    exact ⟨few_of t ks h c (by omega) b, fun k e => by have := Trm.jd_deep t ks k h c e; omega⟩
  | .snd t, ks, h, c, a, b => by
    simp only [Trm.ht] at a
    exact ⟨few_of t ks h c (by omega) b, fun k e => by have := Trm.jd_deep t ks k h c e; omega⟩
  | .mk x t, ks, h, c, a, b => by
    simp only [Trm.ht] at a
    simp only [Trm.kdp] at c
    simp only [Trm.md] at b
    have h' : ∀ y ∈ ks ++ [x], y.deep ≤ M := fun y hy => by
      rcases List.mem_append.mp hy with hy | hy
      · exact h y hy
      · rw [List.mem_singleton.mp hy]; omega
    exact ⟨few_of t _ h' (by omega) (by omega) (by rw [List.length_append, List.length_singleton]; omega), fun k e => by have := Trm.jd_deep t _ k h' (by omega) e; omega⟩
  | .doo s t, ks, h, c, a, b => by
    simp only [Trm.ht] at a
    simp only [Trm.kdp] at c
    simp only [Trm.md] at b
    refine ⟨⟨few_of s ks h (by omega) (by omega) (by omega), few_of t ks h (by omega) (by omega) (by omega)⟩, fun k e => by have := Trm.jd_deep s ks k h (by omega) e; omega, fun k e => by have := Trm.jd_deep t ks k h (by omega) e; omega, fun l nd hl => ?_⟩
    have := nodup_le ks.length l nd fun q hq => (hl q hq).2
    omega
  | .both s t, ks, h, c, a, b => by
    simp only [Trm.ht] at a
    simp only [Trm.kdp] at c
    simp only [Trm.md] at b
    refine ⟨⟨few_of s ks h (by omega) (by omega) (by omega), few_of t ks h (by omega) (by omega) (by omega)⟩, fun k e => by have := Trm.jd_deep s ks k h (by omega) e; omega, fun k e => by have := Trm.jd_deep t ks k h (by omega) e; omega, fun l nd hl => ?_⟩
    have := nodup_le ks.length l nd fun q hq => (hl q hq).2
    omega
  | .unit, ks, _, _, _, _ => trivial
  | .bad _, ks, _, _, _, _ => trivial

/-! ## a grown term, or the term itself -/
theorem good_tup (t : Trm) (ks : List Kd) (k : Kd) (h : t.jd ks = some k) : ∃ ds, t.dat = .tuple ds := by
  cases t <;> first | exact ⟨_, rfl⟩ | cases h
def spSome (K : PySem.W.Frag) : Sp := fun vs H Q _ => ∃ (wl g : Addr) (v : V) (t : Trm) (k : Kd) (ks : List Kd), vs = [.ref wl, v, .ref g, .int 900] ∧ Well H wl ∧ Dq K (out wl H) v t.dat ∧ Tg t ks k t.ht ∧ t.ht ≤ 8 ∧ KsAt K (out wl H) g ks ∧ Gv ks ∧ ks.length ≤ 100 ∧
  ∀ t' v' H', Tz t' ks k 33 → sz t'.dat ≤ 13000 → Dq K (out wl H') v' t'.dat → Aft wl H H' → Q v' H'
abbrev s_law_some : Stmt := top 36
theorem sc_law_some : FnScope ["well", "term", "given", "most", "more"] ["well", "term", "given", "most"] (defScope s_law_some) := ⟨rfl, rfl, rfl, by decide +kernel, rfl, by decide +kernel, by decide +kernel⟩
section
variable {P : Program} {w : World} {K : PySem.W.Frag} {mg : Str → Option Value} {base : Heap} {CN CT : Addr}
theorem ok_some (A : At K mg "_law_some" s_law_some) (T : Txt K mg w CN CT) (C_law_grown : Cal P w K mg base CX0 72 "_law_grown" ["well", "term", "given"] (spGr K 9)) (C_law_size : Cal P w K mg base CX0 72 "_law_size" ["thing"] (spSize K 72))
    (C_law_height : Cal P w K mg base CX0 72 "_law_height" ["thing"] (spHeight K 72)) : Cal P w K mg base CX0 73 "_law_some" ["well", "term", "given", "most"] (spSome K) := by
  obtain ⟨f, fd, F, m⟩ := A
  refine ⟨f, fd, F.ok sc_law_some (fun vs H Q E h => ?_) (fun cdv A outer s H vs Q E hr h => ?_), F.binds (ps := ["well", "term", "given", "most"]) (fun _ _ _ _ _ _ us hl => match us, hl with | [_, _, _, _], _ => rfl), F.kp, m⟩
  · obtain ⟨wl, g, v, t, k, ks, rfl, _⟩ := h; rfl
  obtain ⟨wl, g, v, t, k, ks, rfl, hw, hd, tg, h8, hG, gv, hl, q⟩ := h
  refine ⟨_, (pss_cons (ps_set (i := 4) sc_law_some.nd rfl (by first | exact Or.inl rfl | exact Or.inr rfl) (pe_calC C_law_grown (hr.mono (by first | decide | omega)) pass0 (pa_cons (pv 0) (pa_cons (pv 1) (pa_cons (pv 2) pa_nil)))))
  (pss_one (ps_ret (pe_ix ix_B (pe_lst (pa_cons (pv 4) (pa_cons (pv 1) pa_nil))) (pe_callTy call_int1 (by rfl) T.z_int (by decide +kernel) (pa_cons (pe_or (pe_cmpR op_gt (pe_calC C_law_size (hr.mono (by first | decide | omega)) pass0 (pa_cons (pv 4) pa_nil)) (pv 3) (nomark _)) (pe_one (pe_cmpR op_gt (pe_calC C_law_height (hr.mono (by first | decide | omega)) pass0 (pa_cons (pv 4) pa_nil)) pe_int (nomark _)))) pa_nil)) (fun _ _ => rfl))))), ?_⟩
  refine ⟨_, rfl, _, rfl, _, rfl, wl, g, v, t, k, ks, rfl, hw, hd, tg, h8, by omega, hG, gv, by omega, fun t' v' H1 z' d' a1 => ?_⟩
  obtain ⟨ds, ed⟩ := good_tup _ _ _ z'.jd
  obtain ⟨hn, h3, hdp⟩ := good_nrw _ _ _ z'.jd
  have zz := z'.ht
  have zk := z'.kd
  rw [ed] at hn hdp h3
  refine ⟨_, rfl, _, rfl, (by show 2 ≤ sizeLine; decide), fun l hl => ?_⟩
  have el : upd H1 l (.lst [v', v]) l = some (.lst [v', v]) := upd_same
  have a2 := a1.new hl (.lst [v', v])
  have d2 := d'.same (out_new (w := wl) hl (.lst [v', v]))
  have hv2 := hd.same a2.but
  generalize upd H1 l (.lst [v', v]) = H2 at el a2 d2 hv2 ⊢
  have fin : ∀ (i : Int) H3, Same H2 H3 → (i = 0 ∧ tsz (.tuple ds) ≤ 900 ∨ i = 1) → rIxB K w (.ref l) (.int i) H3 Q := fun i H3 s3 hi => by
    have b3 : Aft wl H H3 := ⟨by obtain ⟨x, y, z, e⟩ := a2.well; exact ⟨x, y, z, s3 _ _ e⟩, a2.but.trans (out_same s3)⟩
    rcases hi with ⟨rfl, hi⟩ | rfl
    · exact .inl (.inl ⟨l, _, 0, v', rfl, rfl, .of (s3 _ _ el), at0 _ _, q t' v' H3 ⟨z'.wf, z'.jd, by omega, zk⟩ (by rw [ed]; omega) (d2.same (out_same s3)) b3⟩)
    · have := good_pow _ _ _ tg.jd tg.kd
      have p8 := Nat.pow_le_pow_right (n := 2) (by decide) h8
      exact .inl (.inl ⟨l, _, 1, v, rfl, rfl, .of (s3 _ _ el), at1 _ _ _, q t v H3 ⟨tg.wf, tg.jd, by omega, by have := tg.kd; omega⟩ (by omega) (hv2.same (out_same s3)) b3⟩)
  refine ⟨_, rfl, v', ds, rfl, by rw [← ed]; exact d2.same (out_sub _ _), by omega, hn, fun H3 s3 => ⟨_, rfl, _, _, rfl, rfl, _, rfl, ?_⟩⟩
  refine ite2 (fun c => .inr ⟨_, rfl, ?_⟩) (fun c => ⟨_, rfl, v', ds, rfl, by rw [← ed]; exact (d2.same (out_sub _ _)).same s3, by omega, hn, fun n H4 s4 => ⟨_, _, rfl, rfl, .inr ⟨_, rfl, ?_⟩⟩⟩)
  · exact fin 1 H3 s3 (.inr rfl)
  · have hs : tsz (.tuple ds) ≤ 900 := by
      have c' : ¬ ((900 : Int) < ((tsz (.tuple ds) : Nat) : Int)) := by simpa using c
      omega
    split
    · exact fin 1 H4 (s3.trans s4) (.inr rfl)
    · exact fin 0 H4 (s3.trans s4) (.inl ⟨rfl, hs⟩)
end

/-! ## what is given -/
theorem Aft.setl {w p : Addr} {H H' : Hp} (a : Aft w H H') (n : H p = none) (nw : p ≠ w) (o : HO) : Aft w H (upd H' p o) := by
  obtain ⟨x, y, z, e⟩ := a.well
  refine ⟨⟨x, y, z, (upd_ne nw.symm).trans e⟩, fun b u h => ?_⟩
  have h1 := out_some h
  have h2 := out_some (a.but b u h)
  exact out_at h1.1 ((upd_ne (ne_of_none h1.2 n)).trans h2.2)
theorem out_swap {a b : Addr} {H : Hp} : Same (out a (out b H)) (out b (out a H)) := fun x o e => by
  obtain ⟨n1, e1⟩ := out_some e
  obtain ⟨n2, e2⟩ := out_some e1
  exact out_at n2 (out_at n1 e2)
def spGiven51 (K : PySem.W.Frag) : Sp := fun vs H Q _ => ∃ (wl : Addr), vs = [.ref wl] ∧ Well H wl ∧ ∀ (l : Addr) (ks : List Kd) H', Gv ks → 8 ≤ ks.length → ks.length ≤ 10 → KsAt K (out wl H') l ks → l ≠ wl → Aft wl H H' → Q (.ref l) H'
abbrev s_law_given : Stmt := top 37
theorem sc_law_given : FnScope ["well", "more", "k", "turn"] ["well"] (defScope s_law_given) := ⟨rfl, rfl, rfl, by decide +kernel, rfl, by decide +kernel, by decide +kernel⟩
section
variable {P : Program} {w : World} {K : PySem.W.Frag} {mg : Str → Option Value} {base : Heap} {CN CT : Addr}
theorem ok_given51 (A : At K mg "_law_given" s_law_given) (T : Txt K mg w CN CT) (C_law_draw : Cal P w K mg base CX0 1 "_law_draw" ["well", "width"] spDraw) (C_law_kind : Cal P w K mg base CX0 4 "_law_kind" ["well", "deep"] (spKind51 K 3)) : Cal P w K mg base CX0 5 "_law_given" ["well"] (spGiven51 K) := by
  obtain ⟨f, fd, F, m⟩ := A
  refine ⟨f, fd, F.ok sc_law_given (fun vs H Q E h => ?_) (fun cdv A outer s H vs Q E hr h => ?_), F.binds (ps := ["well"]) (fun _ _ _ _ _ _ us hl => match us, hl with | [_], _ => rfl), F.kp, m⟩
  · obtain ⟨wl, rfl, _⟩ := h; rfl
  obtain ⟨wl, rfl, hw, q⟩ := h
  refine ⟨_, (pss_cons (ps_setLc (i := 1) (own := [("k", 2)]) (g := gName 2) (tt := tYes) (by rfl) sc_law_given.nd rfl rfl (sw_true rfl rfl rfl (by decide +kernel)) (pi_range1 (by rfl) T.z_range (pa_cons (pe_calC C_law_draw (hr.mono (by first | decide | omega)) pass0 (pa_cons (pv 0) (pa_cons pe_int pa_nil))) pa_nil)) (blkOk_by (own := [("k", 2)]) (N := ["well", "more", "k", "turn"]) (sc := defScope s_law_given) (by decide +kernel)) (fun _ _ _ _ _ => (pg_name (i := 2) sc_law_given.nd rfl (by first | exact Or.inl rfl | exact Or.inr rfl))) (fun _ _ _ _ _ => pts_nil) (fun _ _ _ _ _ => (pe_calC C_law_kind (hr.mono (by first | decide | omega)) pass0 (pa_cons (pv 0) (pa_cons pe_int pa_nil)))))
  (pss_cons (ps_set (i := 3) sc_law_given.nd rfl (by first | exact Or.inl rfl | exact Or.inr rfl) (pe_calC C_law_draw (hr.mono (by first | decide | omega)) pass0 (pa_cons (pv 0) (pa_cons pe_int pa_nil))))
  (pss_one (ps_ret (pe_op op_addA (pe_lc (own := [("k", 2)]) (g := gName 2) (tt := tYes) (by rfl) sc_law_given.nd (pi_range1 (by rfl) T.z_range (pa_cons pe_int pa_nil)) (blkOk_by (own := [("k", 2)]) (N := ["well", "more", "k", "turn"]) (sc := defScope s_law_given) (by decide +kernel)) (fun _ _ _ _ _ => (pg_name (i := 2) sc_law_given.nd rfl (by first | exact Or.inl rfl | exact Or.inr rfl))) (fun _ _ _ _ _ => pts_nil) (fun _ _ _ _ _ => (pe_tup (pa_cons pe_str (pa_cons (pe_op op_mod (pe_op (r := rAddB K) op_addB (pv 2) (pv 3)) pe_int) pa_nil))))) (pv 1)))))), ?_⟩
  refine ⟨_, rfl, wl, 3, rfl, hw, by decide, by decide, fun d0 H0 l0 u0 a0 => ?_⟩
  have w0 := a0.well
  obtain ⟨n0, rfl⟩ := Int.eq_ofNat_of_zero_le l0
  refine ⟨_, rfl, by omega, by omega, fun D hD => ?_⟩
  have hDw := w0.ne hD
  refine lc_range (lo := 0) (n := n0) (fun j H' => ∃ (vs : List V) (ks : List Kd), H' D = some (.lst vs) ∧ ks.length = j ∧ DqAll K (out D (out wl H')) vs (ks.map Kd.dat) ∧ (∀ k ∈ ks, k.ok ∧ k.deep ≤ 3) ∧ Aft wl H0 H') ⟨[], [], upd_same, rfl, .nil, (fun n h => by cases h), (Aft.refl w0).new hD _⟩ ?_ ?_
  · rintro j H7 hj ⟨vs, ks, e7, l7, h7, k7, a7⟩
    refine ⟨rfl, _, rfl, wl, 2, rfl, a7.well, by decide, fun k v H9 ok lv dv a9 => ?_⟩
    have s9 : Same (out D (out wl H7)) (out D (out wl H9)) := out_same a9.but
    have e9 := a9.at_ hDw e7
    refine ⟨_, e9, fits_lt (by have := h7.length; rw [List.length_map] at this; omega), vs ++ [v], ks ++ [k], upd_same, by rw [List.length_append, l7]; rfl, ?_, ?_, (a7.trans a9).setl hD hDw _⟩
    · rw [List.map_append]
      have sU : Same (out D (out wl H9)) (out D (out wl (upd H9 D (.lst (vs ++ [v]))))) := out_swap.trans ((out_same (out_set _)).trans out_swap)
      have e9' : out wl H9 D = some (.lst vs) := out_at hDw e9
      exact ((h7.same s9).same sU).append (.cons ((Dq.outp e9' k.pure dv).same sU) .nil)
    · intro k' hk
      rcases List.mem_append.mp hk with hk | hk
      · exact k7 k' hk
      · rw [List.mem_singleton.mp hk]
        exact ⟨ok, lv⟩
  rintro H3 ⟨vs, ks, e3, l3, h3, k3, a3⟩
  have h3' := h3.same (out_sub D _)
  refine ⟨_, rfl, wl, 8, rfl, a3.well, by decide, by decide, fun d4 H4 l4 u4 a4 => ?_⟩
  have w4 := a4.well
  have e4 := a4.at_ hDw e3
  have h4 := h3'.same a4.but
  obtain ⟨tn, rfl⟩ := Int.eq_ofNat_of_zero_le l4
  refine ⟨8, rfl, by decide, by decide, fun C hC => ?_⟩
  have hCw := w4.ne hC
  refine lc_range (lo := 0) (n := 8) (fun j H' => ∃ (us : List V), H' C = some (.lst us) ∧ us.length = j ∧ DqAll K (out C (out wl H')) us ((List.range j).map fun i => (Kd.b ((i + tn) % 8)).dat) ∧ Same H4 (out C H')) ⟨[], upd_same, rfl, .nil, same_out hC (same_new hC _)⟩ ?_ ?_
  · rintro j H7 hj ⟨us, e7, l7, h7, s7⟩
    refine ⟨rfl, _, rfl, _, rfl, .inl (.inl ⟨_, _, rfl, rfl, _, _, rfl, rfl, (by show (0 : Int) < 8; decide), (by show 2 ≤ sizeLine; decide), fun p hp => ?_⟩)⟩
    dsimp only
    rw [show ((0 : Int) + ((j : Nat) : Int) + ((tn : Nat) : Int)) % 8 = (((j + tn) % 8 : Nat) : Int) by omega]
    have npC : p ≠ C := (ne_of_none e7 hp).symm
    have e4w : ∃ o, H4 wl = some o := by obtain ⟨x, y, z, e⟩ := w4; exact ⟨_, e⟩
    have s47 : Same H4 H7 := s7.trans (out_sub _ _)
    have npw : p ≠ wl := by
      obtain ⟨o, e⟩ := e4w
      exact (ne_of_none (s47 _ _ e) hp).symm
    have sp := same_new hp (.tup [V.str "base", V.int (((j + tn) % 8 : Nat) : Int)])
    have sU : Same (out C (out wl H7)) (out C (out wl (upd (upd H7 p (.tup [V.str "base", V.int (((j + tn) % 8 : Nat) : Int)])) C (.lst (us ++ [.ref p]))))) := (out_same (out_same sp)).trans (out_swap.trans ((out_same (out_set _)).trans out_swap))
    refine ⟨us, sp _ _ e7, fits_lt (by omega), us ++ [.ref p], upd_same, by rw [List.length_append, l7]; rfl, ?_, (s7.trans (out_same sp)).trans (out_set _)⟩
    rw [List.range_succ, List.map_append]
    exact (h7.same sU).append (.cons (.tup (.of (out_at npC (out_at npw ((upd_ne npC).trans upd_same)))) (.cons (.str _) (.cons (.int _) .nil))) .nil)
  rintro H8 ⟨us, e8, l8, h8, s8⟩
  have s48 : Same H4 H8 := s8.trans (out_sub _ _)
  have h8' := h8.same (out_sub C _)
  have vl := h4.length
  rw [List.length_map] at vl
  have k3' : ks.length ≤ 2 := by omega
  refine ⟨_, rfl, .inr (.inr (.inl ⟨C, D, _, _, rfl, rfl, e8, s48 _ _ e4, fits (by omega), fun l hl => ?_⟩))⟩
  have a8 : Aft wl H H8 := ((a0.trans a3).trans a4).trans ⟨by obtain ⟨x, y, z, e⟩ := w4; exact ⟨x, y, z, s48 _ _ e⟩, out_same s48⟩
  have a9 := a8.new hl (.lst (us ++ vs))
  have sn := out_new (w := wl) hl (.lst (us ++ vs))
  refine q l (((List.range 8).map fun i => Kd.b ((i + tn) % 8)) ++ ks) _ ⟨fun n hn => ?_, fun x hx => ?_⟩ (by simp) (by simp; omega) ⟨us ++ vs, a8.well.laid hl _, ?_⟩ (a8.well.ne hl) a9
  · refine List.mem_append_left _ (List.mem_map.mpr ⟨(n + 8 * tn - tn) % 8, List.mem_range.mpr (by omega), ?_⟩)
    rw [show ((n + 8 * tn - tn) % 8 + tn) % 8 = n by omega]
  · rcases List.mem_append.mp hx with hx | hx
    · obtain ⟨i, _, rfl⟩ := List.mem_map.mp hx
      exact ⟨show (i + tn) % 8 < 8 by omega, by simp [Kd.deep]⟩
    · exact k3 x hx
  · rw [List.map_append, List.map_map]
    exact (h8'.same sn).append ((h4.same (out_same s48)).same sn)
end

/-! ## data with something in them otherwise -/
theorem deps_app (l m : List PyData) : PyData.depthAll (l ++ m) = max (PyData.depthAll l) (PyData.depthAll m) := by
  induction l with
  | nil => simp [PyData.depthAll]
  | cons d r ih => simp only [List.cons_append, PyData.depthAll, ih]; omega
theorem mds_app (l m : List PyData) : mdDs (l ++ m) = max (mdDs l) (mdDs m) := by
  induction l with
  | nil => simp [mdDs]
  | cons d r ih => simp only [List.cons_append, mdDs, ih]; omega
theorem md_word (w : Str) (r : List PyData) : mdD (.tuple (.str w :: r)) ≤ 1 + mdDs r := by
  simp only [mdD]; split <;> omega
theorem md_cut : ∀ (ds : List PyData) (n : Nat), mdD (.tuple (ds.take n)) ≤ mdD (.tuple ds)
  | [], n => by simp
  | x :: r, 0 => by
    have e : mdD (.tuple ((x :: r).take 0)) = 0 := by rw [List.take_zero]; simp only [mdD]
    rw [e]; exact Nat.zero_le _
  | .str w :: r, n + 1 => by
    have : mdDs (r.take n) ≤ mdDs r := by
      have h := mds_app (r.take n) (r.drop n)
      rw [List.take_append_drop] at h
      omega
    simp only [List.take_succ_cons, mdD]; omega
  | .none :: r, n + 1 => by simp [mdD]
  | .bool _ :: r, n + 1 => by simp [mdD]
  | .int _ :: r, n + 1 => by simp [mdD]
  | .list _ :: r, n + 1 => by simp [mdD]
  | .tuple _ :: r, n + 1 => by simp [mdD]
  | .dict _ :: r, n + 1 => by simp [mdD]
theorem md_more : ∀ (ds : List PyData) (i : Int), mdD (.tuple (ds ++ [.int i])) ≤ mdD (.tuple ds)
  | [], i => by simp [mdD]
  | .str w :: r, i => by simp only [List.cons_append, mdD, mds_app, mdDs]; omega
  | .none :: r, i => by simp [mdD]
  | .bool _ :: r, i => by simp [mdD]
  | .int _ :: r, i => by simp [mdD]
  | .list _ :: r, i => by simp [mdD]
  | .tuple _ :: r, i => by simp [mdD]
  | .dict _ :: r, i => by simp [mdD]
theorem md_put : ∀ (a b : List PyData) (e d : PyData), a ≠ [] → mdD d ≤ mdD e + 1 → mdD (.tuple (a ++ d :: b)) ≤ mdD (.tuple (a ++ e :: b)) + 1
  | [], b, e, d, h, _ => absurd rfl h
  | .str w :: r, b, e, d, _, h => by simp only [List.cons_append, mdD, mds_app, mdDs]; omega
  | .none :: r, b, e, d, _, h => by simp [mdD]
  | .bool _ :: r, b, e, d, _, h => by simp [mdD]
  | .int _ :: r, b, e, d, _, h => by simp [mdD]
  | .list _ :: r, b, e, d, _, h => by simp [mdD]
  | .tuple _ :: r, b, e, d, _, h => by simp [mdD]
  | .dict _ :: r, b, e, d, _, h => by simp [mdD]
structure Od (d0 d : PyData) : Prop where
  size : sz d ≤ 2 * sz d0 + 10
  dp : d.depth ≤ d0.depth + 1
  md : mdD d ≤ mdD d0 + 1
theorem Od.inn {a b : List PyData} {e d : PyData} (ne : a ≠ []) (o : Od e d) : Od (.tuple (a ++ e :: b)) (.tuple (a ++ d :: b)) := by
  refine ⟨?_, ?_, md_put a b e d ne o.md⟩
  · have := o.size
    simp only [sz, szs_append, szs]; omega
  · have := o.dp
    simp only [PyData.depth, deps_app, PyData.depthAll]; omega
theorem Od.word {ds es : List PyData} (w : Str) (h1 : szs es ≤ 2 * sz (.tuple ds) + 8) (h2 : PyData.depthAll es ≤ (PyData.tuple ds).depth) (h3 : mdDs es ≤ mdD (.tuple ds)) : Od (.tuple ds) (.tuple (.str w :: es)) := by
  refine ⟨by simp only [sz, szs] at *; omega, by simp only [PyData.depth, PyData.depthAll] at *; omega, by have := md_word w es; omega⟩
/-! ## all that is put together stays -/
theorem cat_q {K : PySem.W.Frag} {wl : Addr} {H : Hp} {x y : V} {ds es : List PyData} {Q : VK} (hw : Well H wl) (h1 : Dq K (out wl H) x (.tuple ds)) (h2 : Dq K (out wl H) y (.tuple es)) (hz : ds.length + es.length ≤ 2000000) (q : ∀ v H', Aft wl H H' → Dq K (out wl H') v (.tuple (ds ++ es)) → Q v H') : KB.rCatA K x y H Q := by
  have h1' := h1
  have h2' := h2
  cases h1 with
  | tup s1 a1 =>
    cases h2 with
    | tup s2 a2 =>
      have l1 := a1.length
      have l2 := a2.length
      refine ⟨_, _, _, _, rfl, rfl, KB.Same.tup (out_sub wl H) s1, KB.Same.tup (out_sub wl H) s2, by omega, fun e => ?_, fun _ e => ?_, fun _ _ p hp => ?_⟩
      · refine q _ _ (Aft.refl hw) ?_
        subst e
        cases a1
        exact h2'
      · refine q _ _ (Aft.refl hw) ?_
        subst e
        cases a2
        rw [List.append_nil]
        exact h1'
      · exact q _ _ ((Aft.refl hw).new hp _) (.tup (.of (hw.laid hp _)) ((a1.append a2).same (out_new hp _)))
theorem cut_q {K : PySem.W.Frag} {wl : Addr} {H : Hp} {x : V} {ds : List PyData} {lo hi : Option Int} {Q : VK} (hw : Well H wl) (h1 : Dq K (out wl H) x (.tuple ds))
    (q : ∀ v H', Aft wl H H' → Dq K (out wl H') v (.tuple ((ds.drop (HT.sIx ds.length 0 lo)).take (HT.sIx ds.length ds.length hi - HT.sIx ds.length 0 lo))) → Q v H') : L2.rSlA K x lo hi H Q := by
  have h1' := h1
  cases h1 with
  | tup s1 a1 =>
    have l1 := a1.length
    refine ⟨_, _, rfl, KB.Same.tup (out_sub wl H) s1, fun e => ?_, fun _ p hp => ?_⟩
    · refine q _ _ (Aft.refl hw) ?_
      rw [l1] at e
      rw [e.1, e.2, List.drop_zero, Nat.sub_zero, List.take_of_length_le (Nat.le_refl _)]
      exact h1'
    · refine q _ _ ((Aft.refl hw).new hp _) ?_
      unfold cutV
      rw [l1]
      exact .tup (.of (hw.laid hp _)) (((a1.drop _).take _).same (out_new hp _))
theorem ixT {K : PySem.W.Frag} {W : World} {a : Addr} {xs : List V} {j : Nat} {x : V} {H : Hp} {Q : VK} (hT : SqT K H a xs) (hj : xs[j]? = some x) (q : Q x H) : rIxB K W (.ref a) (.int (j : Nat)) H Q := .inl (.inr (.inl ⟨_, _, (j : Int), _, rfl, rfl, hT, atI_nat hj, q⟩))
/-- what there is after some things were put together: the term, the list of what is odd -/
structure OvS (K : PySem.W.Frag) (wl : Addr) (v : V) (ds : List PyData) (H0 H : Hp) (us : List V) : Prop where
  aft : Aft wl H0 H
  term : Dq K (out wl H) v (.tuple ds)
  odd : ∀ x ∈ us, ∃ d, Od (.tuple ds) d ∧ Dq K (out wl H) x d
section
variable {K : PySem.W.Frag} {wl : Addr} {v : V} {ds : List PyData} {H0 H : Hp} {us : List V}
theorem OvS.aft' (S : OvS K wl v ds H0 H us) {H' : Hp} (a : Aft wl H H') : OvS K wl v ds H0 H' us := ⟨S.aft.trans a, S.term.same a.but, fun x hx => by
  obtain ⟨d, o, q⟩ := S.odd x hx
  exact ⟨d, o, q.same a.but⟩⟩
theorem OvS.new (S : OvS K wl v ds H0 H us) {p : Addr} (hp : H p = none) (o : HO) : OvS K wl v ds H0 (upd H p o) us := S.aft' ((Aft.refl S.aft.well).new hp o)
theorem OvS.more (S : OvS K wl v ds H0 H us) {x : V} {d : PyData} (o : Od (.tuple ds) d) (q : Dq K (out wl H) x d) : OvS K wl v ds H0 H (us ++ [x]) := ⟨S.aft, S.term, fun y hy => by
  rcases List.mem_append.mp hy with hy | hy
  · exact S.odd y hy
  · rw [List.mem_singleton.mp hy]; exact ⟨d, o, q⟩⟩
theorem OvS.tup (S : OvS K wl v ds H0 H us) {p : Addr} (hp : H p = none) {xs : List V} {es : List PyData} (o : Od (.tuple ds) (.tuple es)) (a : DqAll K (out wl H) xs es) : OvS K wl v ds H0 (upd H p (.tup xs)) (us ++ [.ref p]) :=
  (S.new hp _).more o (.tup (.of (S.aft.well.laid hp _)) (a.same (out_new hp _)))
theorem OvS.laid (S : OvS K wl v ds H0 H us) {p : Addr} (hp : H p = none) {xs : List V} {es : List PyData} (a : DqAll K (out wl H) xs es) : Dq K (out wl (upd H p (.tup xs))) (.ref p) (.tuple es) :=
  .tup (.of (S.aft.well.laid hp _)) (a.same (out_new hp _))
end

/-! ## a term with something in it otherwise -/
def spOdd (K : PySem.W.Frag) (N : Nat) : Sp := fun vs H Q _ => ∃ (wl g : Addr) (v : V) (gs : List V) (ds : List PyData), vs = [.ref wl, v, .ref g] ∧ Well H wl ∧ g ≠ wl ∧ H g = some (.lst gs) ∧ gs.length ≤ 100 ∧ Dq K (out wl H) v (.tuple ds) ∧ (PyData.tuple ds).depth < N ∧ nrw (.tuple ds) = true ∧
  ∀ d v' H', Od (.tuple ds) d → Dq K (out wl H') v' d → Aft wl H H' → Q v' H'
def OdI (K : PySem.W.Frag) (wl g : Addr) (v : V) (gs : List V) (ds : List PyData) (H : Hp) (Q : VK) (n : Nat) : TS := fun D σ H1 => ∃ (ol : Addr) (us : List V) (o3 o4 o5 : Option V), σ = [some (.ref wl), some v, some (.ref g), o3, o4, o5, some (.ref ol)] ∧ OvS K wl v ds H H1 us ∧ H1 ol = some (.lst us) ∧ us.length = n ∧ ∀ v' H', Q v' H' → D.rt v' H'
/-- a number, a truth, a text, None -/
def Sc (x : PyData) : Prop := sz x = 1 ∧ x.depth = 0 ∧ mdD x = 0
theorem Sc.int (i : Int) : Sc (.int i) := by simp [Sc, sz, PyData.depth, mdD]
theorem Sc.bl (b : Bool) : Sc (.bool b) := by simp [Sc, sz, PyData.depth, mdD]
theorem Sc.str (x : Str) : Sc (.str x) := by simp [Sc, sz, PyData.depth, mdD]
theorem Sc.non : Sc .none := by simp [Sc, sz, PyData.depth, mdD]
theorem Od.sc {ds : List PyData} {x : PyData} (h : Sc x) : Od (.tuple ds) x := ⟨by have := h.1; omega, by have := h.2.1; omega, by have := h.2.2; omega⟩
theorem Od.s0 {ds : List PyData} (w : Str) : Od (.tuple ds) (.tuple [.str w]) := Od.word w (by simp [szs]) (by simp [PyData.depthAll]) (by simp [mdDs])
theorem Od.s1 {ds : List PyData} (w : Str) {x : PyData} (h : Sc x) : Od (.tuple ds) (.tuple [.str w, x]) := Od.word w (by have := h.1; simp only [szs, sz]; omega) (by have := h.2.1; simp only [PyData.depthAll, PyData.depth]; omega) (by have := h.2.2; simp only [mdDs]; omega)
theorem Od.nil {ds : List PyData} : Od (.tuple ds) (.tuple []) := ⟨by simp [sz, szs], by simp [PyData.depth, PyData.depthAll], by rw [show mdD (.tuple []) = 0 by simp only [mdD]]; exact Nat.zero_le _⟩
theorem Od.t1 {ds : List PyData} (w : Str) : Od (.tuple ds) (.tuple [.str w, .tuple ds]) := Od.word w (by simp only [szs]; omega) (by simp only [PyData.depthAll]; omega) (by simp only [mdDs]; omega)
theorem Od.tt {ds : List PyData} (w : Str) : Od (.tuple ds) (.tuple [.str w, .tuple ds, .tuple ds]) := Od.word w (by simp only [szs]; omega) (by simp only [PyData.depthAll]; omega) (by simp only [mdDs]; omega)
theorem Od.tx {ds : List PyData} (w : Str) {x : PyData} (h1 : sz x ≤ 4) (h2 : x.depth ≤ 1) (h3 : mdD x = 0) : Od (.tuple ds) (.tuple [.str w, .tuple ds, x]) := Od.word w (by simp only [szs]; omega) (by simp only [PyData.depthAll, PyData.depth] at *; omega) (by simp only [mdDs]; omega)
theorem Od.xt {ds : List PyData} (w : Str) {x : PyData} (h1 : sz x ≤ 4) (h2 : x.depth ≤ 1) (h3 : mdD x = 0) : Od (.tuple ds) (.tuple [.str w, x, .tuple ds]) := Od.word w (by simp only [szs]; omega) (by simp only [PyData.depthAll, PyData.depth] at *; omega) (by simp only [mdDs]; omega)
theorem Od.one {ds : List PyData} : Od (.tuple ds) (.tuple [.tuple ds]) := ⟨by simp only [sz, szs]; omega, by simp only [PyData.depth, PyData.depthAll]; omega, by rw [show mdD (.tuple [.tuple ds]) = 0 by simp only [mdD]]; exact Nat.zero_le _⟩
theorem Od.lst {ds : List PyData} : Od (.tuple ds) (.list ds) := ⟨by simp only [sz]; omega, by simp only [PyData.depth]; omega, by rw [show mdD (.list ds) = 0 by simp only [mdD]]; exact Nat.zero_le _⟩
theorem Od.more0 {ds : List PyData} : Od (.tuple ds) (.tuple (ds ++ [.int 0])) := ⟨by simp only [sz, szs_append, szs]; omega, by simp only [PyData.depth, deps_app, PyData.depthAll]; omega, by have := md_more ds 0; omega⟩
theorem Od.cut {ds : List PyData} (n : Nat) : Od (.tuple ds) (.tuple (ds.take n)) := by
  have e1 := szs_append (ds.take n) (ds.drop n)
  have e2 := deps_app (ds.take n) (ds.drop n)
  rw [List.take_append_drop] at e1 e2
  exact ⟨by simp only [sz]; omega, by simp only [PyData.depth]; omega, by have := md_cut ds n; omega⟩
theorem ol_ne {wl ol : Addr} {H : Hp} {us : List V} {n : Nat} (hw : Well H wl) (eo : H ol = some (.lst us)) (ul : us.length = n) (n3 : n ≠ 3) : ol ≠ wl := fun z => by
  subst z
  obtain ⟨x, y, z, e⟩ := hw
  rw [eo] at e
  have := congrArg List.length (HO.lst.inj (Option.some.inj e))
  rw [ul] at this
  exact n3 this
/-- the list grown by what was put together -/
theorem odd_end {K : PySem.W.Frag} {wl g : Addr} {v : V} {gs : List V} {ds : List PyData} {H H1 H2 : Hp} {Q : VK} {D : Ends} {o3 o4 o5 : Option V} {ol nl : Addr} {us ys vs : List V} {n : Nat} (S : OvS K wl v ds H H1 us) (S2 : OvS K wl v ds H1 H2 vs) (eo : H1 ol = some (.lst us)) (ul : us.length = n) (n3 : n ≠ 3) (nM : n ≤ 1000) (yM : ys.length ≤ 1000) (hv : ∀ x ∈ us ++ ys, x ∈ vs) (hn : H2 nl = none) (hq : ∀ v' H', Q v' H' → D.rt v' H') :
    rAddA K (.ref ol) (.ref nl) (upd H2 nl (.lst ys)) fun x H' => OdI K wl g v gs ds H Q (n + ys.length) D [some (.ref wl), some v, some (.ref g), o3, o4, o5, some x] H' := by
  have S3 := S2.new hn (.lst ys)
  have e1 : upd H2 nl (.lst ys) ol = some (.lst us) := S3.aft.at_ (ol_ne S.aft.well eo ul n3) eo
  refine .inr (.inr (.inl ⟨ol, nl, _, _, rfl, rfl, e1, upd_same, fits (by omega), fun l hl => ?_⟩))
  have S4 := S3.new hl (.lst (us ++ ys))
  exact ⟨l, us ++ ys, o3, o4, o5, rfl, ⟨S.aft.trans S4.aft, S4.term, fun x hx => S4.odd x (hv x hx)⟩, upd_same, by rw [List.length_append, ul], hq⟩
abbrev s_law_odd : Stmt := top 40
theorem sc_law_odd : FnScope ["well", "term", "given", "way", "inner", "k", "odd"] ["well", "term", "given"] (defScope s_law_odd) := ⟨rfl, rfl, rfl, by decide +kernel, rfl, by decide +kernel, by decide +kernel⟩
section
variable {P : Program} {w : World} {K : PySem.W.Frag} {mg : Str → Option Value} {base : Heap} {CN CT : Addr}
theorem ok_odd1 {N : Nat} (A : At K mg "_law_odd" s_law_odd) (T : Txt K mg w CN CT) (C_law_draw : Cal P w K mg base CX0 1 "_law_draw" ["well", "width"] spDraw) (C_law_odd : Cal P w K mg base CX0 (N + 1) "_law_odd" ["well", "term", "given"] (spOdd K N)) : Cal P w K mg base CX0 (N + 2) "_law_odd" ["well", "term", "given"] (spOdd K (N + 1)) := by
  obtain ⟨f, fd, F, m⟩ := A
  refine ⟨f, fd, F.ok sc_law_odd (fun vs H Q E h => ?_) (fun cdv A outer s H vs Q E hr h => ?_), F.binds (ps := ["well", "term", "given"]) (fun _ _ _ _ _ _ us hl => match us, hl with | [_, _, _], _ => rfl), F.kp, m⟩
  · obtain ⟨wl, g, v, gs, ds, rfl, _⟩ := h; rfl
  obtain ⟨wl, g, v, gs, ds, rfl, hw, hgw, hg, hgl, hd, hN, hn, q⟩ := h
  refine ⟨_, (pss_cons (ps_set (i := 3) sc_law_odd.nd rfl (by first | exact Or.inl rfl | exact Or.inr rfl) (pe_calC C_law_draw (hr.mono (by first | decide | omega)) pass0 (pa_cons (pv 0) (pa_cons pe_int pa_nil))))
  (pss_cons (ps_setLc (i := 4) (own := [("k", 5)]) (g := gName 5) (by rfl) sc_law_odd.nd rfl rfl (sw_true rfl rfl rfl (by decide +kernel)) (pi_range2 (by rfl) T.z_range (pa_cons pe_int (pa_cons (pe_callB call_len (by rfl) T.z_len (by decide +kernel) (pa_cons (pv 1) pa_nil)) pa_nil))) (blkOk_by (own := [("k", 5)]) (N := ["well", "term", "given", "way", "inner", "k", "odd"]) (sc := defScope s_law_odd) (by decide +kernel)) (fun _ _ _ _ _ => (pg_name (i := 5) sc_law_odd.nd rfl (by first | exact Or.inl rfl | exact Or.inr rfl))) (fun _ _ _ _ _ => (pts_one (pt_val (pe_callB (r := rIsiD K) call_isiD (by rfl) T.z_isinstance (by decide +kernel) (pa_cons (pe_ix (r := rIxB K w) ix_B (pv 1) (pv 5) (fun _ _ => rfl)) (pa_cons (pe_bltn (v := .ty "tuple") (by rfl) T.z_tuple (by decide +kernel) rfl) pa_nil)))))) (fun _ _ _ _ _ => (pv 5)))
  (pss_gen (I := (fun D σ H1 => ∃ (wy : Int) (il : Addr) (ns : List Nat), σ = [some (.ref wl), some v, some (.ref g), some (.int wy), some (.ref il), none, none] ∧ Aft wl H H1 ∧ H1 il = some (.lst (ns.map fun n : Nat => V.int ((n : Nat) : Int))) ∧ il ≠ wl ∧ ns.length ≤ 3 ∧ (∀ n ∈ ns, 1 ≤ n ∧ ∃ es, ds[n]? = some (.tuple es)) ∧ ∀ v' H', Q v' H' → D.rt v' H')) (pss_cons (ps_if (PW.pt (pw_and (pt_cmpR op_lt (pv 3) pe_int (nomark _)) (pw_and1 (pt_cmpR (op_neA (room200 hr)) (pv 4) (pe_lst pa_nil) (nomark _)))))
   (pss_cons (ps_set (i := 5) sc_law_odd.nd rfl (by first | exact Or.inl rfl | exact Or.inr rfl) (pe_ix ix_B (pv 4) (pe_calC C_law_draw (hr.mono (by first | decide | omega)) pass0 (pa_cons (pv 0) (pa_cons (pe_callB call_len (by rfl) T.z_len (by decide +kernel) (pa_cons (pv 4) pa_nil)) pa_nil))) (fun _ _ => rfl)))
  (pss_one (ps_ret (pe_op op_catD (pe_op op_catD (pe_slice sl_tupA (pv 1) po_none (po_some (pv 5))) (pe_tup (pa_cons (pe_calC C_law_odd (hr.mono (by first | decide | omega)) pass0 (pa_cons (pv 0) (pa_cons (pe_ix ix_B (pv 1) (pv 5) (fun _ _ => rfl)) (pa_cons (pv 2) pa_nil)))) pa_nil))) (pe_slice sl_tupA (pv 1) (po_some (pe_op op_addA (pv 5) pe_int)) po_none)))))
   pss_nil)
  (pss_gen (I := (fun D σ H1 => ∃ (o3 o4 o5 : Option V), σ = [some (.ref wl), some v, some (.ref g), o3, o4, o5, none] ∧ Aft wl H H1 ∧ ∀ v' H', Q v' H' → D.rt v' H')) (pss_cons (ps_set (i := 6) sc_law_odd.nd rfl (by first | exact Or.inl rfl | exact Or.inr rfl) (pe_lst (pa_cons (pe_tup (pa_cons pe_str (pa_cons (pe_op op_addA (pe_callB call_len (by rfl) T.z_len (by decide +kernel) (pa_cons (pv 2) pa_nil)) pe_int) pa_nil))) (pa_cons (pe_tup (pa_cons pe_str (pa_cons pe_bl pa_nil))) (pa_cons (pe_tup (pa_cons pe_str (pa_cons (pe_un un_neg pe_int) pa_nil))) (pa_cons (pe_tup (pa_cons pe_str (pa_cons (pe_calC C_law_draw (hr.mono (by first | decide | omega)) pass0 (pa_cons (pv 0) (pa_cons pe_int pa_nil))) pa_nil))) (pa_cons (pe_tup (pa_cons pe_str pa_nil)) (pa_cons (pe_tup pa_nil) pa_nil))))))))
  (pss_gen (I := (OdI K wl g v gs ds H Q 6)) (pss_cons (ps_set (i := 6) sc_law_odd.nd rfl (by first | exact Or.inl rfl | exact Or.inr rfl) (pe_op op_addA (pv 6) (pe_lst (pa_cons pe_non (pa_cons (pe_callTy call_list_of (by rfl) T.z_list (by decide +kernel) (pa_cons (pv 1) pa_nil)) (pa_cons (pe_op op_catD (pv 1) (pe_tup (pa_cons pe_int pa_nil))) (pa_cons (pe_slice sl_tupA (pv 1) po_none (po_some (pe_un un_neg pe_int))) (pa_cons (pe_tup (pa_cons pe_str (pa_cons (pv 1) pa_nil))) (pa_cons (pe_tup (pa_cons pe_str (pa_cons (pv 1) pa_nil))) (pa_cons (pe_tup (pa_cons pe_str (pa_cons (pv 1) (pa_cons (pv 1) pa_nil)))) pa_nil))))))))))
  (pss_gen (I := (OdI K wl g v gs ds H Q 13)) (pss_cons (ps_set (i := 6) sc_law_odd.nd rfl (by first | exact Or.inl rfl | exact Or.inr rfl) (pe_op op_addA (pv 6) (pe_lst (pa_cons (pe_tup (pa_cons pe_str (pa_cons (pv 1) (pa_cons (pe_tup (pa_cons pe_str pa_nil)) pa_nil)))) (pa_cons (pe_tup (pa_cons pe_str (pa_cons (pe_tup (pa_cons pe_str (pa_cons pe_int pa_nil))) (pa_cons (pv 1) pa_nil)))) (pa_cons (pe_tup (pa_cons pe_str (pa_cons pe_non (pa_cons (pv 1) pa_nil)))) (pa_cons (pe_tup (pa_cons pe_str (pa_cons pe_int pa_nil))) (pa_cons pe_str (pa_cons pe_int pa_nil)))))))))
  (pss_gen (I := (OdI K wl g v gs ds H Q 19)) (pss_cons (ps_set (i := 6) sc_law_odd.nd rfl (by first | exact Or.inl rfl | exact Or.inr rfl) (pe_op op_addA (pv 6) (pe_lst (pa_cons (pe_tup (pa_cons pe_str (pa_cons (pe_tup (pa_cons pe_str pa_nil)) (pa_cons (pv 1) pa_nil)))) (pa_cons (pe_tup (pa_cons pe_str (pa_cons (pv 1) (pa_cons (pv 1) pa_nil)))) (pa_cons (pe_tup (pa_cons pe_str (pa_cons pe_int pa_nil))) (pa_cons (pe_tup (pa_cons (pv 1) pa_nil)) (pa_cons (pe_tup (pa_cons pe_str (pa_cons pe_str pa_nil))) pa_nil))))))))
  (pss_gen (I := (OdI K wl g v gs ds H Q 24)) (pss_one (ps_ret (pe_ix ix_B (pv 6) (pe_calC C_law_draw (hr.mono (by first | decide | omega)) pass0 (pa_cons (pv 0) (pa_cons (pe_callB call_len (by rfl) T.z_len (by decide +kernel) (pa_cons (pv 6) pa_nil)) pa_nil))) (fun _ _ => rfl)))) ?i7)) ?i6)) ?i5)) ?i4)) ?i3)) ?i2))), ?first⟩
  case i2 =>
    rintro D σ H1 ⟨wy, il, ns, rfl, a1, ei, hil, nl, hns, hq⟩
    have fall : ∀ H2, Aft wl H1 H2 → (∃ (o3 o4 o5 : Option V), [some (.ref wl), some v, some (.ref g), some (.int wy), some (.ref il), none, none] = [some (.ref wl), some v, some (.ref g), o3, o4, o5, none] ∧ Aft wl H H2 ∧ ∀ v' H', Q v' H' → D.rt v' H') := fun H2 a2 => ⟨_, _, _, rfl, a1.trans a2, hq⟩
    refine ⟨_, rfl, _, _, rfl, rfl, _, rfl, ?_⟩
    refine ite2 (fun c => ?_) (fun c => fall H1 (Aft.refl a1.well))
    refine ⟨_, rfl, Nat.zero_le _, fun e0 he0 => ?_⟩
    have b1 := (Aft.refl a1.well).new he0 (.lst [])
    have s0 := same_new he0 (.lst [])
    have ei1 := s0 _ _ ei
    have ee0 : upd H1 e0 (.lst []) e0 = some (.lst []) := upd_same
    generalize upd H1 e0 (.lst []) = H2 at b1 s0 ei1 ee0 ⊢
    have dn : ∀ l : List Nat, DqAll K H2 (l.map fun n : Nat => V.int ((n : Nat) : Int)) (l.map fun n : Nat => PyData.int ((n : Nat) : Int)) := fun l => by
      induction l with
      | nil => exact .nil
      | cons x r ih => exact .cons (.int _) ih
    have cl : (PyData.list (ns.map fun n : Nat => PyData.int ((n : Nat) : Int))).canLay0 = true := by
      rw [PyData.canLay0]
      exact lays_of fun d hd => by obtain ⟨n, _, rfl⟩ := List.mem_map.mp hd; simp [PyData.canLay0]
    refine .inr ⟨_, _, (Dq.lst (.of ei1) (dn ns)).dp cl, (Dq.lst (.of ee0) .nil).dp (by simp [PyData.canLay0, PyData.canLayAll0]), cl, by simp [PyData.canLay0, PyData.canLayAll0], by simp only [PyData.depth, PyData.depthAll]; omega, _, rfl, ?_⟩
    cases ns with
    | nil =>
      have e : (!PyData.eqv (.list ([] : List PyData)) (.list [])) = false := by simp [PyData.eqv, PyData.eqvAll]
      exact iteF' (by simpa using e) (fall _ b1)
    | cons n0 nr =>
      refine iteT' (by simp [PyData.eqv, PyData.eqvAll]) ?_
      have c2 := a1.trans b1
      have hd2 := hd.same c2.but
      refine ⟨_, rfl, _, rfl, _, rfl, _, _, rfl, .inl ⟨_, .of ei1, rfl⟩, wl, _, rfl, c2.well, by simp only [List.length_map, List.length_cons]; omega, by simp only [List.length_map, List.length_cons] at *; omega, fun di H3 l3 u3 a3 => ?_⟩
      obtain ⟨i, rfl⟩ := Int.eq_ofNat_of_zero_le l3
      have hi : i < (n0 :: nr).length := by rw [List.length_map] at u3; omega
      have c3 := c2.trans a3
      have hd3 := hd2.same a3.but
      have ei3 : H3 il = some (.lst ((n0 :: nr).map fun n : Nat => V.int ((n : Nat) : Int))) := a3.at_ hil ei1
      obtain ⟨j, hj⟩ : ∃ j, (n0 :: nr)[i]? = some j := ⟨_, List.getElem?_eq_getElem hi⟩
      obtain ⟨j1, es, he⟩ := hns j (List.mem_of_getElem? hj)
      have hjl : j < ds.length := (List.getElem?_eq_some_iff.mp he).1
      refine ixLi (.of ei3) (by rw [List.getElem?_map, hj]; rfl) ⟨_, rfl, ?_⟩
      refine ⟨_, rfl, _, rfl, cut_q c3.well hd3 fun v1 H4 a4 dq4 => ?_⟩
      have c4 := c3.trans a4
      have hd4 := hd3.same a4.but
      have hd5 := hd4
      obtain ⟨ta, xs, ev, hs4, hA4⟩ : ∃ ta xs, v = .ref ta ∧ SqT K (out wl H4) ta xs ∧ DqAll K (out wl H4) xs ds := by
        cases hd5 with
        | tup h1 h2 => exact ⟨_, _, rfl, h1, h2⟩
      clear hd5
      subst ev
      have dlen := len_szs ds
      simp only [nrw, Bool.and_eq_true, decide_eq_true_eq] at hn
      obtain ⟨x, hx, dx⟩ := hA4.getD he
      have dep := depths_at he
      simp only [PyData.depth] at hN dep
      refine ⟨_, rfl, _, rfl, _, rfl, ixT (j := j) (KB.Same.tup (out_sub wl H4) hs4) hx ⟨_, rfl, wl, g, x, gs, es, rfl, c4.well, hgw, c4.at_ hgw hg, hgl, dx, by simp only [PyData.depth]; omega, nrws_at hn.2 he, fun d' v' H5 od dq5 a5 => ⟨(by show 1 ≤ sizeLine; decide), fun p hp => ?_⟩⟩⟩
      have c5 := (c4.trans a5).new hp (.tup [v'])
      have y5 := a5.well.laid hp (.tup [v'])
      have sn5 := out_new (w := wl) hp (.tup [v'])
      have dq4 := (dq4.same a5.but).same sn5
      have dq5 := dq5.same sn5
      have hd5 := (hd4.same a5.but).same sn5
      generalize upd H5 p (.tup [v']) = G5 at c5 y5 dq4 dq5 hd5 ⊢
      have lz : ∀ a b, ((ds.drop a).take b).length ≤ ds.length := fun a b => by rw [List.length_take, List.length_drop]; omega
      refine cat_q c5.well dq4 (.tup (.of y5) (.cons dq5 .nil)) (by have := lz (HT.sIx ds.length 0 none) (HT.sIx ds.length ds.length (some (j : Int)) - HT.sIx ds.length 0 none); simp only [List.length_cons, List.length_nil]; omega) fun v6 H6 a6 dq6 => ?_
      have c6 := c5.trans a6
      have hd6 := hd5.same a6.but
      refine ⟨_, rfl, _, rfl, .inl ⟨_, _, rfl, rfl, _, rfl, ?_⟩⟩
      dsimp only [tNoPart]
      refine cut_q c6.well hd6 fun v7 H7 a7 dq7 => ?_
      have c7 := c6.trans a7
      refine cat_q c7.well (dq6.same a7.but) dq7 ?_ fun v8 H8 a8 dq8 => ?_
      · have h1 := lz (HT.sIx ds.length 0 none) (HT.sIx ds.length ds.length (some (j : Int)) - HT.sIx ds.length 0 none)
        have h2 := lz (HT.sIx ds.length 0 (some ((j : Int) + 1))) (HT.sIx ds.length ds.length none - HT.sIx ds.length 0 (some ((j : Int) + 1)))
        rw [List.length_append]
        simp only [List.length_cons, List.length_nil]
        omega
      · have e1 : HT.sIx ds.length 0 none = 0 := rfl
        have e2 : HT.sIx ds.length ds.length none = ds.length := rfl
        have e3 : HT.sIx ds.length ds.length (some (j : Int)) = j := by rw [HT.sIx_nat]; omega
        have e4 : HT.sIx ds.length 0 (some ((j : Int) + 1)) = j + 1 := by
          have := HT.sIx_nat ds.length 0 (j + 1)
          rw [show (((j + 1 : Nat) : Int)) = (j : Int) + 1 from rfl] at this
          rw [this]; omega
        rw [e1, e2, e3, e4, List.drop_zero, Nat.sub_zero, List.take_of_length_le (l := ds.drop (j + 1)) (by rw [List.length_drop]; exact Nat.le_refl _), List.append_assoc, List.cons_append, List.nil_append] at dq8
        have el : ds = ds.take j ++ .tuple es :: ds.drop (j + 1) := by
          have h := (List.take_append_drop j ds).symm
          rw [List.drop_eq_getElem_cons hjl] at h
          rw [List.getElem?_eq_getElem hjl] at he
          rw [Option.some.inj he] at h
          exact h
        have o := Od.inn (b := ds.drop (j + 1)) (a := ds.take j) (fun z => by have := congrArg List.length z; rw [List.length_take] at this; simp only [List.length_nil] at this; omega) od
        rw [← el] at o
        exact hq _ _ (q _ _ _ o dq8 (c7.trans a8))
  case i3 =>
    rintro D σ H1 ⟨o3, o4, o5, rfl, a1, hq⟩
    have S0 : OvS K wl v ds H H1 [] := ⟨a1, hd.same a1.but, fun x h => by cases h⟩
    have g1 := a1.at_ hgw hg
    refine ⟨_, rfl, _, _, rfl, .inl ⟨_, .of g1, rfl⟩, .inl ⟨_, _, rfl, rfl, (by show 2 ≤ sizeLine; decide), fun p1 hp1 => ?_⟩⟩
    have S1 := S0.tup hp1 (xs := [.str "given", .int (((gs.length : Nat) : Int) + 3)]) (Od.s1 "given" (.int _)) (.cons (.str _) (.cons (.int _) .nil))
    refine ⟨(by show 2 ≤ sizeLine; decide), fun p2 hp2 => ?_⟩
    have S2 := S1.tup hp2 (xs := [.str "given", .bl true]) (Od.s1 "given" (.bl true)) (.cons (.str _) (.cons (.bl _) .nil))
    refine ⟨_, rfl, (by show 2 ≤ sizeLine; decide), fun p3 hp3 => ?_⟩
    have S3 := S2.tup hp3 (xs := [.str "given", .int (-1)]) (Od.s1 "given" (.int (-1))) (.cons (.str _) (.cons (.int _) .nil))
    refine ⟨_, rfl, wl, 5, rfl, S3.aft.well, by decide, by decide, fun d4 H4 l4 u4 a4 => ⟨(by show 2 ≤ sizeLine; decide), fun p4 hp4 => ?_⟩⟩
    have S4 := (S3.aft' a4).tup hp4 (xs := [.str "given", .int d4]) (Od.s1 "given" (.int d4)) (.cons (.str _) (.cons (.int _) .nil))
    refine ⟨(by show 1 ≤ sizeLine; decide), fun p5 hp5 => ?_⟩
    have S5 := S4.tup hp5 (xs := [.str "given"]) (Od.s0 "given") (.cons (.str _) .nil)
    refine ⟨Nat.zero_le _, fun p6 hp6 => ?_⟩
    have S6 := S5.tup hp6 (xs := []) .nil .nil
    exact ⟨(by show 6 ≤ sizeLine; decide), fun ol hol => ⟨ol, _, o3, o4, o5, rfl, S6.new hol _, upd_same, rfl, hq⟩⟩
  case i4 =>
    rintro D σ H1 ⟨ol, us, o3, o4, o5, rfl, S, eo, ul, hq⟩
    have S0 : OvS K wl v ds H1 H1 us := ⟨Aft.refl S.aft.well, S.term, S.odd⟩
    have S1 := S0.more (x := .non) (Od.sc .non) .non
    have hd1 := S.term
    obtain ⟨ta, xs, ev, hT, hA⟩ : ∃ ta xs, v = .ref ta ∧ SqT K (out wl H1) ta xs ∧ DqAll K (out wl H1) xs ds := by
      cases hd1 with
      | tup h1 h2 => exact ⟨_, _, rfl, h1, h2⟩
    clear hd1
    subst ev
    simp only [nrw, Bool.and_eq_true, decide_eq_true_eq] at hn
    refine ⟨_, rfl, _, rfl, ta, xs, rfl, .inr (KB.Same.tup (out_sub wl _) hT), fun p1 hp1 => ?_⟩
    have S2 := (S1.new hp1 (.lst xs)).more Od.lst (.lst (.of (S1.aft.well.laid hp1 (.lst xs))) (hA.same (out_new hp1 (.lst xs))))
    refine ⟨_, rfl, (by show 1 ≤ sizeLine; decide), fun p2 hp2 => ?_⟩
    have S3 := S2.new hp2 (.tup [.int 0])
    have y3 := S2.laid hp2 (xs := [.int 0]) (es := [.int 0]) (.cons (.int 0) .nil)
    refine cat_q S3.aft.well S3.term y3 (by simp only [List.length_cons, List.length_nil]; omega) fun v4 H4 a4 dq4 => ?_
    have S4 := (S3.aft' a4).more Od.more0 dq4
    refine ⟨_, rfl, _, rfl, _, rfl, cut_q S4.aft.well S4.term fun v5 H5 a5 dq5 => ?_⟩
    have S5 := (S4.aft' a5).more (Od.cut _) dq5
    refine ⟨_, rfl, (by show 2 ≤ sizeLine; decide), fun p6 hp6 => ?_⟩
    have S6 := S5.tup hp6 (xs := [.str "first", .ref ta]) (Od.t1 "first") (.cons (.str _) (.cons S5.term .nil))
    refine ⟨_, rfl, (by show 2 ≤ sizeLine; decide), fun p7 hp7 => ?_⟩
    have S7 := S6.tup hp7 (xs := [.str "second", .ref ta]) (Od.t1 "second") (.cons (.str _) (.cons S6.term .nil))
    refine ⟨_, rfl, _, rfl, (by show 3 ≤ sizeLine; decide), fun p8 hp8 => ?_⟩
    have S8 := S7.tup hp8 (xs := [.str "do", .ref ta, .ref ta]) (Od.tt "do") (.cons (.str _) (.cons S7.term (.cons S7.term .nil)))
    exact ⟨(by show 7 ≤ sizeLine; decide), fun nl hnl => odd_end (gs := gs) (ys := [.non, .ref p1, v4, v5, .ref p6, .ref p7, .ref p8]) S S8 eo ul (by decide) (by decide) (by simp) (fun x hx => by simp only [List.mem_append, List.mem_cons, List.not_mem_nil, or_false, or_assoc] at hx ⊢; exact hx) hnl hq⟩
  case i5 =>
    rintro D σ H1 ⟨ol, us, o3, o4, o5, rfl, S, eo, ul, hq⟩
    have S0 : OvS K wl v ds H1 H1 us := ⟨Aft.refl S.aft.well, S.term, S.odd⟩
    refine ⟨_, rfl, _, rfl, (by show 1 ≤ sizeLine; decide), fun q1 hq1 => ⟨(by show 3 ≤ sizeLine; decide), fun p1 hp1 => ?_⟩⟩
    have R1 := S0.new hq1 (.tup [.str "unit"])
    have y1 := S0.laid hq1 (xs := [.str "unit"]) (es := [.str "unit"]) (.cons (.str _) .nil)
    have S1 := R1.tup hp1 (xs := [.str "do", v, .ref q1]) (Od.tx "do" (by simp [sz, szs]) (by simp [PyData.depth, PyData.depthAll]) (by simp only [mdD, mdDs]; decide)) (.cons (.str _) (.cons R1.term (.cons y1 .nil)))
    refine ⟨(by show 2 ≤ sizeLine; decide), fun q2 hq2 => ⟨_, rfl, (by show 3 ≤ sizeLine; decide), fun p2 hp2 => ?_⟩⟩
    have R2 := S1.new hq2 (.tup [.str "base", .int 8])
    have y2 := S1.laid hq2 (xs := [.str "base", .int 8]) (es := [.str "base", .int 8]) (.cons (.str _) (.cons (.int _) .nil))
    have S2 := R2.tup hp2 (xs := [.str "make", .ref q2, v]) (Od.xt "make" (by simp [sz, szs]) (by simp [PyData.depth, PyData.depthAll]) (by simp only [mdD, mdDs]; decide)) (.cons (.str _) (.cons y2 (.cons R2.term .nil)))
    refine ⟨_, rfl, (by show 3 ≤ sizeLine; decide), fun p3 hp3 => ?_⟩
    have S3 := S2.tup hp3 (xs := [.str "make", .non, v]) (Od.xt "make" (by simp [sz]) (by simp [PyData.depth]) (by simp only [mdD])) (.cons (.str _) (.cons .non (.cons S2.term .nil)))
    refine ⟨(by show 2 ≤ sizeLine; decide), fun p4 hp4 => ?_⟩
    have S4 := S3.tup hp4 (xs := [.str "unit", .int 0]) (Od.s1 "unit" (.int 0)) (.cons (.str _) (.cons (.int _) .nil))
    have S5 := (S4.more (x := .str "given") (Od.sc (.str _)) (.str _)).more (x := .int 0) (Od.sc (.int 0)) (.int _)
    exact ⟨(by show 6 ≤ sizeLine; decide), fun nl hnl => odd_end (gs := gs) (ys := [.ref p1, .ref p2, .ref p3, .ref p4, .str "given", .int 0]) S S5 eo ul (by decide) (by decide) (by simp) (fun x hx => by simp only [List.mem_append, List.mem_cons, List.not_mem_nil, or_false, or_assoc] at hx ⊢; exact hx) hnl hq⟩
  case i6 =>
    rintro D σ H1 ⟨ol, us, o3, o4, o5, rfl, S, eo, ul, hq⟩
    have S0 : OvS K wl v ds H1 H1 us := ⟨Aft.refl S.aft.well, S.term, S.odd⟩
    refine ⟨_, rfl, (by show 1 ≤ sizeLine; decide), fun q1 hq1 => ⟨_, rfl, (by show 3 ≤ sizeLine; decide), fun p1 hp1 => ?_⟩⟩
    have R1 := S0.new hq1 (.tup [.str "unit"])
    have y1 := S0.laid hq1 (xs := [.str "unit"]) (es := [.str "unit"]) (.cons (.str _) .nil)
    have S1 := R1.tup hp1 (xs := [.str "make", .ref q1, v]) (Od.xt "make" (by simp [sz, szs]) (by simp [PyData.depth, PyData.depthAll]) (by simp only [mdD, mdDs]; decide)) (.cons (.str _) (.cons y1 (.cons R1.term .nil)))
    refine ⟨_, rfl, _, rfl, (by show 3 ≤ sizeLine; decide), fun p2 hp2 => ?_⟩
    have S2 := S1.tup hp2 (xs := [.str "both", v, v]) (Od.tt "both") (.cons (.str _) (.cons S1.term (.cons S1.term .nil)))
    refine ⟨(by show 2 ≤ sizeLine; decide), fun p3 hp3 => ?_⟩
    have S3 := S2.tup hp3 (xs := [.str "base", .int 0]) (Od.s1 "base" (.int 0)) (.cons (.str _) (.cons (.int _) .nil))
    refine ⟨_, rfl, (by show 1 ≤ sizeLine; decide), fun p4 hp4 => ?_⟩
    have S4 := S3.tup hp4 (xs := [v]) Od.one (.cons S3.term .nil)
    refine ⟨(by show 2 ≤ sizeLine; decide), fun p5 hp5 => ?_⟩
    have S5 := S4.tup hp5 (xs := [.str "given", .str "0"]) (Od.s1 "given" (.str "0")) (.cons (.str _) (.cons (.str _) .nil))
    exact ⟨(by show 5 ≤ sizeLine; decide), fun nl hnl => odd_end (gs := gs) (ys := [.ref p1, .ref p2, .ref p3, .ref p4, .ref p5]) S S5 eo ul (by decide) (by decide) (by simp) (fun x hx => by simp only [List.mem_append, List.mem_cons, List.not_mem_nil, or_false, or_assoc] at hx ⊢; exact hx) hnl hq⟩
  case i7 =>
    rintro D σ H1 ⟨ol, us, o3, o4, o5, rfl, S, eo, ul, hq⟩
    refine ⟨_, rfl, _, rfl, _, rfl, _, _, rfl, .inl ⟨_, .of eo, rfl⟩, wl, _, rfl, S.aft.well, by rw [ul]; decide, by rw [ul]; decide, fun di H3 l3 u3 a3 => ?_⟩
    obtain ⟨i, rfl⟩ := Int.eq_ofNat_of_zero_le l3
    have hol : ol ≠ wl := fun z => by
      subst z
      obtain ⟨x, y, z, e⟩ := S.aft.well
      rw [eo] at e
      have := congrArg List.length (HO.lst.inj (Option.some.inj e))
      rw [ul] at this
      simp at this
    have hi : i < us.length := by omega
    obtain ⟨d, o, dq⟩ := S.odd us[i] (List.getElem_mem hi)
    exact ixLi (.of (a3.at_ hol eo)) (List.getElem?_eq_getElem hi) (hq _ _ (q d _ H3 o (dq.same a3.but) (S.aft.trans a3)))
  case first =>
    simp only [nrw, Bool.and_eq_true, decide_eq_true_eq] at hn
    refine ⟨_, rfl, wl, 10, rfl, hw, by decide, by decide, fun d1 H1 l1 u1 a1 => ?_⟩
    have hd1 := hd.same a1.but
    obtain ⟨ta, xs, ev, hT, hA⟩ : ∃ ta xs, v = .ref ta ∧ SqT K (out wl H1) ta xs ∧ DqAll K (out wl H1) xs ds := by
      cases hd1 with
      | tup h1 h2 => exact ⟨_, _, rfl, h1, h2⟩
    clear hd1
    subst ev
    have xl := hA.length
    refine ⟨_, rfl, _, _, rfl, .inr ⟨_, KB.Same.tup (out_sub wl H1) hT, rfl⟩, ?_⟩
    obtain ⟨hlen, hns⟩ := hn
    refine ⟨1, _, rfl, ⟨by decide, by decide, by omega, by omega⟩, fun D hD => ?_⟩
    have hDw := a1.well.ne hD
    refine lc_range (lo := 1) (n := (((xs.length : Nat) : Int) - 1).toNat) (fun j H' => ∃ ns : List Nat, H' D = some (.lst (ns.map fun n : Nat => V.int ((n : Nat) : Int))) ∧ ns.length ≤ j ∧ (∀ n ∈ ns, 1 ≤ n ∧ ∃ es, ds[n]? = some (.tuple es)) ∧ Same H1 (out D H')) ⟨[], upd_same, Nat.le_refl _, (fun n h => by cases h), same_out hD (same_new hD _)⟩ ?_ ?_
    · rintro j H2 hj ⟨ns, eD, nl, hin, sm⟩
      have s12 : Same H1 H2 := sm.trans (out_sub _ _)
      have hj1 : 1 + j < xs.length := by omega
      have hT2 := KB.Same.tup ((out_sub wl H1).trans s12) hT
      obtain ⟨d, ed, dx⟩ := hA.get (List.getElem?_eq_getElem hj1)
      have dx2 := dx.same ((out_sub wl H1).trans s12)
      rw [show ((1 : Int) + ((j : Nat) : Int)) = (((1 + j : Nat)) : Int) by omega]
      refine ⟨rfl, _, rfl, _, rfl, ixT hT2 (List.getElem?_eq_getElem hj1) ⟨_, "tuple", d, rfl, dx2, rfl, _, rfl, ?_⟩⟩
      by_cases ht : tyN d = "tuple"
      · rw [ht]
        obtain ⟨es, rfl⟩ : ∃ es, d = .tuple es := by cases d <;> simp [tyN] at ht; exact ⟨_, rfl⟩
        refine iteT' (by decide) ⟨_, rfl, _, eD, fits_lt (by rw [List.length_map]; omega), ns ++ [1 + j], by rw [List.map_append]; exact upd_same, by rw [List.length_append, List.length_singleton]; omega, fun n h => ?_, sm.trans (out_set _)⟩
        rcases List.mem_append.mp h with h | h
        · exact hin n h
        · rw [List.mem_singleton.mp h]; exact ⟨by omega, es, ed⟩
      · have e : isiN (tyN d) "tuple" = false := by cases d <;> first | rfl | (simp [tyN] at ht)
        rw [e]
        exact iteF' (by decide) ⟨ns, eD, by omega, hin, sm⟩
    · rintro H2 ⟨ns, eD, nl, hin, sm⟩
      have s12 : Same H1 H2 := sm.trans (out_sub _ _)
      exact ⟨d1, D, ns, rfl, a1.trans ⟨by obtain ⟨x, y, z, e⟩ := a1.well; exact ⟨x, y, z, s12 _ _ e⟩, out_same s12⟩, eD, hDw, by omega, hin, fun _ _ h => h⟩
theorem ok_odd (A : At K mg "_law_odd" s_law_odd) (T : Txt K mg w CN CT) (C_law_draw : Cal P w K mg base CX0 1 "_law_draw" ["well", "width"] spDraw) : ∀ N : Nat, Cal P w K mg base CX0 (N + 1) "_law_odd" ["well", "term", "given"] (spOdd K N)
  | 0 => cal_vac A (fun f fd F => F.binds (ps := ["well", "term", "given"]) (fun _ _ _ _ _ _ us hl => match us, hl with | [_, _, _], _ => rfl)) fun vs H Q E ⟨wl, g, v, gs, ds, _, _, _, _, _, _, h, _⟩ => absurd h (Nat.not_lt_zero _)
  | N + 1 => ok_odd1 A T C_law_draw (ok_odd A T C_law_draw N)
end

/-! ## a term that leads to a term, by many parts within one another -/
theorem lift_sz (m : Nat) : ∀ t : Trm, sz (liftT m t).dat = sz t.dat ∧ (liftT m t).md = t.md
  | .giv (.int _) => by simp [liftT, Trm.dat, sz, szs, Trm.md]
  | .giv .none => ⟨rfl, rfl⟩
  | .giv (.bool _) => ⟨rfl, rfl⟩
  | .giv (.str _) => ⟨rfl, rfl⟩
  | .giv (.list _) => ⟨rfl, rfl⟩
  | .giv (.tuple _) => ⟨rfl, rfl⟩
  | .giv (.dict _) => ⟨rfl, rfl⟩
  | .fst t => by have := lift_sz m t; simp only [liftT, Trm.dat, sz, szs, Trm.md, this]; simp
  | .snd t => by have := lift_sz m t; simp only [liftT, Trm.dat, sz, szs, Trm.md, this]; simp
  | .mk c t => by have := lift_sz m t; simp only [liftT, Trm.dat, sz, szs, Trm.md, this]; simp
  | .doo a b => by have h1 := lift_sz m a; have h2 := lift_sz m b; simp only [liftT, Trm.dat, sz, szs, Trm.md, h1, h2]; simp
  | .both a b => by have h1 := lift_sz m a; have h2 := lift_sz m b; simp only [liftT, Trm.dat, sz, szs, Trm.md, h1, h2]; simp
  | .unit => ⟨rfl, rfl⟩
  | .bad _ => ⟨rfl, rfl⟩
structure Dz (t : Trm) (ks : List Kd) (k : Kd) (i : Nat) : Prop where
  wf : t.wf
  jd : t.jd ks = some k
  ht : t.ht ≤ 6 + 2 * i
  kd : t.kdp ≤ 3
  md : t.md ≤ 6 + i
  sz : sz t.dat ≤ 3200 + 20 * i
theorem Dz.s0 {t : Trm} {ks : List Kd} {k : Kd} {i : Nat} (z : Dz t ks k i) : Dz (.fst (.both t .unit)) ks k (i + 1) := by
  obtain ⟨wf, jd, ht, kd, md, hs⟩ := z
  exact ⟨⟨wf, trivial⟩, by simp [Trm.jd, jd, half], by simp only [Trm.ht]; omega, by simp only [Trm.kdp]; omega, by simp only [Trm.md]; omega, by simp only [Trm.dat, KB.sz, szs]; omega⟩
theorem Dz.s1 {t : Trm} {ks : List Kd} {k : Kd} {i : Nat} (z : Dz t ks k i) : Dz (.snd (.both .unit t)) ks k (i + 1) := by
  obtain ⟨wf, jd, ht, kd, md, hs⟩ := z
  exact ⟨⟨trivial, wf⟩, by simp [Trm.jd, jd, half], by simp only [Trm.ht]; omega, by simp only [Trm.kdp]; omega, by simp only [Trm.md]; omega, by simp only [Trm.dat, KB.sz, szs]; omega⟩
theorem Dz.s2 {t : Trm} {ks : List Kd} {k : Kd} {i : Nat} (z : Dz t ks k i) : Dz (.doo (.mk .u (liftT ks.length t)) .unit) ks k (i + 1) := by
  obtain ⟨wf, jd, ht, kd, md, hs⟩ := z
  obtain ⟨e1, e2⟩ := lift_ht ks.length t
  obtain ⟨e3, e4⟩ := lift_sz ks.length t
  have lj := lift_jd (A := ks) (c := .u) t [] k (by rw [List.append_nil]; exact jd)
  exact ⟨⟨⟨trivial, lift_wf _ t wf⟩, trivial⟩, by simp [Trm.jd, lj, hand], by simp only [Trm.ht, e1]; omega, by simp only [Trm.kdp, e2, Kd.deep]; omega, by simp only [Trm.md, e4]; omega, by simp only [Trm.dat, Kd.dat, KB.sz, szs, e3]; omega⟩
theorem Dz.s3 {t : Trm} {ks : List Kd} {k : Kd} {i : Nat} (z : Dz t ks k i) (ok : k.ok) (kd1 : k.deep ≤ 1) : Dz (.doo (.mk k (.giv (.int (ks.length : Nat)))) t) ks k (i + 1) := by
  obtain ⟨wf, jd, ht, kd, md, hs⟩ := z
  have h1 := Kd.sz_dat k
  have h2 := Nat.le_trans (leaves_pow k) (Nat.pow_le_pow_right (n := 2) (by decide) kd1)
  have lj := jd_new ks k
  refine ⟨⟨⟨ok, trivial⟩, wf⟩, ?_, by simp only [Trm.ht]; omega, by simp only [Trm.kdp]; omega, by simp only [Trm.md]; omega, by simp only [Trm.dat, KB.sz, szs]; omega⟩
  simp only [Trm.jd] at lj ⊢
  simp [lj, jd, hand]
theorem Aft.lay {K : PySem.W.Frag} {wl p : Addr} {H H1 : Hp} (a : Aft wl H H1) (hp : H1 p = none) {xs : List V} {es : List PyData} (q : DqAll K (out wl H1) xs es) : Dq K (out wl (upd H1 p (.tup xs))) (.ref p) (.tuple es) :=
  .tup (.of (a.well.laid hp _)) (q.same (out_new hp _))
def spDeep (K : PySem.W.Frag) : Sp := fun vs H Q _ => ∃ (wl g : Addr) (v kv : V) (t : Trm) (k : Kd) (ks : List Kd), vs = [.ref wl, v, kv, .ref g] ∧ Well H wl ∧ Dq K (out wl H) v t.dat ∧ Dq K (out wl H) kv k.dat ∧ k.ok ∧ k.deep ≤ 1 ∧ Dz t ks k 0 ∧ KsAt K (out wl H) g ks ∧ ks.length ≤ 100 ∧
  ∀ t' v' H', Dz t' ks k 38 → Dq K (out wl H') v' t'.dat → Aft wl H H' → Q v' H'
abbrev s_law_deep : Stmt := top 41
theorem sc_law_deep : FnScope ["well", "term", "kind", "given", "k", "way"] ["well", "term", "kind", "given"] (defScope s_law_deep) := ⟨rfl, rfl, rfl, by decide +kernel, rfl, by decide +kernel, by decide +kernel⟩
section
variable {P : Program} {w : World} {K : PySem.W.Frag} {mg : Str → Option Value} {base : Heap} {CN CT : Addr}
theorem ok_deep (A : At K mg "_law_deep" s_law_deep) (T : Txt K mg w CN CT) (C_law_draw : Cal P w K mg base CX0 1 "_law_draw" ["well", "width"] spDraw) (C_law_lift : Cal P w K mg base CX0 90 "_law_lift" ["term", "at"] (spLift K 90)) : Cal P w K mg base CX0 91 "_law_deep" ["well", "term", "kind", "given"] (spDeep K) := by
  obtain ⟨f, fd, F, m⟩ := A
  refine ⟨f, fd, F.ok sc_law_deep (fun vs H Q E h => ?_) (fun cdv A outer s H vs Q E hr h => ?_), F.binds (ps := ["well", "term", "kind", "given"]) (fun _ _ _ _ _ _ us hl => match us, hl with | [_, _, _, _], _ => rfl), F.kp, m⟩
  · obtain ⟨wl, g, v, kv, t, k, ks, rfl, _⟩ := h; rfl
  obtain ⟨wl, g, v, kv, t, k, ks, rfl, hw, hd, dk, kok, kd, dz, hG, hkl, q⟩ := h
  refine ⟨_, (pss_cons (ps_for PassesOwn.never rfl (pi_range1 (by rfl) T.z_range (pa_cons pe_int pa_nil)) (pg_name (i := 4) sc_law_deep.nd rfl (by first | exact Or.inl rfl | exact Or.inr rfl))
   (pss_cons (ps_set (i := 5) sc_law_deep.nd rfl (by first | exact Or.inl rfl | exact Or.inr rfl) (pe_calC C_law_draw (hr.mono (by first | decide | omega)) pass0 (pa_cons (pv 0) (pa_cons pe_int pa_nil))))
  (pss_one (ps_if (pt_cmpR (op_eqA (room200 hr)) (pv 5) pe_int (nomark _))
   (pss_one (ps_set (i := 1) sc_law_deep.nd rfl (by first | exact Or.inl rfl | exact Or.inr rfl) (pe_tup (pa_cons pe_str (pa_cons (pe_tup (pa_cons pe_str (pa_cons (pv 1) (pa_cons (pe_tup (pa_cons pe_str pa_nil)) pa_nil)))) pa_nil)))))
   (pss_one (ps_if (pt_cmpR (op_eqA (room200 hr)) (pv 5) pe_int (nomark _))
   (pss_one (ps_set (i := 1) sc_law_deep.nd rfl (by first | exact Or.inl rfl | exact Or.inr rfl) (pe_tup (pa_cons pe_str (pa_cons (pe_tup (pa_cons pe_str (pa_cons (pe_tup (pa_cons pe_str pa_nil)) (pa_cons (pv 1) pa_nil)))) pa_nil)))))
   (pss_one (ps_if (pt_cmpR (op_eqA (room200 hr)) (pv 5) pe_int (nomark _))
   (pss_one (ps_set (i := 1) sc_law_deep.nd rfl (by first | exact Or.inl rfl | exact Or.inr rfl) (pe_tup (pa_cons pe_str (pa_cons (pe_tup (pa_cons pe_str (pa_cons (pe_tup (pa_cons pe_str pa_nil)) (pa_cons (pe_calC C_law_lift (hr.mono (by first | decide | omega)) pass0 (pa_cons (pv 1) (pa_cons (pe_callB call_len (by rfl) T.z_len (by decide +kernel) (pa_cons (pv 3) pa_nil)) pa_nil))) pa_nil)))) (pa_cons (pe_tup (pa_cons pe_str pa_nil)) pa_nil))))))
   (pss_one (ps_set (i := 1) sc_law_deep.nd rfl (by first | exact Or.inl rfl | exact Or.inr rfl) (pe_tup (pa_cons pe_str (pa_cons (pe_tup (pa_cons pe_str (pa_cons (pv 2) (pa_cons (pe_tup (pa_cons pe_str (pa_cons (pe_callB call_len (by rfl) T.z_len (by decide +kernel) (pa_cons (pv 3) pa_nil)) pa_nil))) pa_nil)))) (pa_cons (pv 1) pa_nil))))))))))))))
  (pss_one (ps_ret (pv 1)))), ?_⟩
  refine ⟨38, rfl, by decide, by decide, ?_⟩
  refine for_range (lo := 0) (n := 38) (fun i σ H' => ∃ (v' : V) (t' : Trm) (o4 o5 : Option V), σ = [some (.ref wl), some v', some kv, some (.ref g), o4, o5] ∧ Aft wl H H' ∧ Dq K (out wl H') v' t'.dat ∧ Dz t' ks k i) ⟨v, t, _, _, rfl, Aft.refl hw, hd, dz⟩ ?_ ?_
  · rintro i σ H1 hi ⟨v1, t1, o4, o5, rfl, a1, hd1, z1⟩
    refine ⟨_, rfl, wl, 4, rfl, a1.well, by decide, by decide, fun d H2 d0 d1 a2 => ?_⟩
    have b0 := a1.trans a2
    have hd2 := hd1.same a2.but
    have dk2 := dk.same b0.but
    obtain ⟨gs, eg, hgA⟩ := hG.same b0.but
    have gsl := hgA.length
    rw [List.length_map] at gsl
    refine ⟨_, rfl, .inl ⟨rfl, _, rfl, ite2 (fun _ => ?_) (fun _ => ?_)⟩⟩
    · refine ⟨_, rfl, (by show 1 ≤ sizeLine; decide), fun p1 hp1 => ⟨(by show 3 ≤ sizeLine; decide), fun p2 hp2 => ⟨(by show 2 ≤ sizeLine; decide), fun p3 hp3 => ?_⟩⟩⟩
      have b1 := b0.new hp1 (.tup [.str "unit"])
      have y1 := b0.lay (K := K) hp1 (xs := [.str "unit"]) (es := [.str "unit"]) (.cons (.str _) .nil)
      have h1 := hd2.same (out_new (w := wl) hp1 (.tup [.str "unit"]))
      have b2 := b1.new hp2 (.tup [.str "both", v1, .ref p1])
      have y2 := b1.lay (K := K) hp2 (xs := [.str "both", v1, .ref p1]) (.cons (.str _) (.cons h1 (.cons y1 .nil)))
      have b3 := b2.new hp3 (.tup [.str "first", .ref p2])
      have y3 := b2.lay (K := K) hp3 (xs := [.str "first", .ref p2]) (.cons (.str _) (.cons y2 .nil))
      exact ⟨_, .fst (.both t1 .unit), _, _, rfl, b3, y3, z1.s0⟩
    refine ⟨_, rfl, .inl ⟨rfl, _, rfl, ite2 (fun _ => ?_) (fun _ => ?_)⟩⟩
    · refine ⟨(by show 1 ≤ sizeLine; decide), fun p1 hp1 => ⟨_, rfl, (by show 3 ≤ sizeLine; decide), fun p2 hp2 => ⟨(by show 2 ≤ sizeLine; decide), fun p3 hp3 => ?_⟩⟩⟩
      have b1 := b0.new hp1 (.tup [.str "unit"])
      have y1 := b0.lay (K := K) hp1 (xs := [.str "unit"]) (es := [.str "unit"]) (.cons (.str _) .nil)
      have h1 := hd2.same (out_new (w := wl) hp1 (.tup [.str "unit"]))
      have b2 := b1.new hp2 (.tup [.str "both", .ref p1, v1])
      have y2 := b1.lay (K := K) hp2 (xs := [.str "both", .ref p1, v1]) (.cons (.str _) (.cons y1 (.cons h1 .nil)))
      have b3 := b2.new hp3 (.tup [.str "second", .ref p2])
      have y3 := b2.lay (K := K) hp3 (xs := [.str "second", .ref p2]) (.cons (.str _) (.cons y2 .nil))
      exact ⟨_, .snd (.both .unit t1), _, _, rfl, b3, y3, z1.s1⟩
    refine ⟨_, rfl, .inl ⟨rfl, _, rfl, ite2 (fun _ => ?_) (fun _ => ?_)⟩⟩
    · refine ⟨(by show 1 ≤ sizeLine; decide), fun p1 hp1 => ?_⟩
      have b1 := b0.new hp1 (.tup [.str "unit"])
      have y1 := b0.lay (K := K) hp1 (xs := [.str "unit"]) (es := [.str "unit"]) (.cons (.str _) .nil)
      have s1 := out_new (w := wl) hp1 (.tup [.str "unit"])
      have h1 := hd2.same s1
      generalize upd H2 p1 (.tup [.str "unit"]) = H3 at b1 y1 s1 h1 ⊢
      refine ⟨_, rfl, _, rfl, _, _, rfl, .inl ⟨_, .of (out_some (s1 _ _ eg)).2, rfl⟩, v1, gs.length, t1, ks, k, rfl, h1.same (out_sub _ _), by have := z1.ht; omega, z1.jd, fun v4 H4 s4 dl => ⟨(by show 3 ≤ sizeLine; decide), fun p2 hp2 => ⟨(by show 1 ≤ sizeLine; decide), fun p3 hp3 => ⟨(by show 3 ≤ sizeLine; decide), fun p4 hp4 => ?_⟩⟩⟩⟩
      rw [gsl] at dl
      have hw4 : Well H4 wl := by
        obtain ⟨x, y, z, e⟩ := b1.well
        exact ⟨x, y, z, s4 _ _ e⟩
      have b4 : Aft wl H H4 := b1.trans ⟨hw4, out_same s4⟩
      have y4 := y1.same (out_same s4)
      have lj := lift_jd (A := ks) (c := .u) t1 [] k (by rw [List.append_nil]; exact z1.jd)
      have dl4 : Dq K (out wl H4) v4 (liftT ks.length t1).dat := by
        obtain ⟨x, y, z, e⟩ := hw4
        exact Dq.outp e (pure_jd _ _ _ lj) dl
      have b5 := b4.new hp2 (.tup [.str "make", .ref p1, v4])
      have y5 := b4.lay (K := K) hp2 (xs := [.str "make", .ref p1, v4]) (.cons (.str _) (.cons y4 (.cons dl4 .nil)))
      have b6 := b5.new hp3 (.tup [.str "unit"])
      have y6 := b5.lay (K := K) hp3 (xs := [.str "unit"]) (es := [.str "unit"]) (.cons (.str _) .nil)
      have y56 := y5.same (out_new (w := wl) hp3 (.tup [.str "unit"]))
      have b7 := b6.new hp4 (.tup [.str "do", .ref p2, .ref p3])
      have y7 := b6.lay (K := K) hp4 (xs := [.str "do", .ref p2, .ref p3]) (.cons (.str _) (.cons y56 (.cons y6 .nil)))
      exact ⟨_, .doo (.mk .u (liftT ks.length t1)) .unit, _, _, rfl, b7, y7, z1.s2⟩
    · refine ⟨_, rfl, _, rfl, _, _, rfl, .inl ⟨_, .of (out_some eg).2, rfl⟩, (by show 2 ≤ sizeLine; decide), fun p1 hp1 => ⟨(by show 3 ≤ sizeLine; decide), fun p2 hp2 => ⟨_, rfl, (by show 3 ≤ sizeLine; decide), fun p3 hp3 => ?_⟩⟩⟩
      rw [gsl] at *
      have b1 := b0.new hp1 (.tup [.str "given", .int (ks.length : Nat)])
      have y1 := b0.lay (K := K) hp1 (xs := [.str "given", .int (ks.length : Nat)]) (.cons (.str _) (.cons (.int _) .nil))
      have s1 := out_new (w := wl) hp1 (.tup [.str "given", .int (ks.length : Nat)])
      have b2 := b1.new hp2 (.tup [.str "make", kv, .ref p1])
      have y2 := b1.lay (K := K) hp2 (xs := [.str "make", kv, .ref p1]) (.cons (.str _) (.cons (dk2.same s1) (.cons y1 .nil)))
      have s2 := out_new (w := wl) hp2 (.tup [.str "make", kv, .ref p1])
      have b3 := b2.new hp3 (.tup [.str "do", .ref p2, v1])
      have y3 := b2.lay (K := K) hp3 (xs := [.str "do", .ref p2, v1]) (.cons (.str _) (.cons y2 (.cons (hd2.same (s1.trans s2)) .nil)))
      exact ⟨_, .doo (.mk k (.giv (.int (ks.length : Nat)))) t1, _, _, rfl, b3, y3, z1.s3 kok kd⟩
  · rintro σ H1 ⟨v1, t1, o4, o5, rfl, a1, hd1, z1⟩
    exact ⟨_, rfl, q t1 v1 H1 z1 hd1 a1⟩
end

/-! ## a term that makes functions of units, many within one another -/
def longT (d : Nat) : Nat → Trm
  | 0 => .both .unit (.giv (.int (d : Nat)))
  | n + 1 => .mk .u (longT d n)
theorem long_ht (d : Nat) : ∀ n, (longT d n).ht = n + 1 ∧ (longT d n).kdp ≤ 1 ∧ (longT d n).dat.depth = n + 2 ∧ sz (longT d n).dat = 4 * n + 7 ∧ (longT d n).wf
  | 0 => by simp [longT, Trm.ht, Trm.kdp, Trm.dat, PyData.depth, PyData.depthAll, sz, szs, Trm.wf]
  | n + 1 => by
    obtain ⟨h1, h2, h3, h4, h5⟩ := long_ht d n
    refine ⟨by simp only [longT, Trm.ht, h1], by simp only [longT, Trm.kdp, Kd.deep]; omega, ?_, by simp only [longT, Trm.dat, Kd.dat, sz, szs, h4]; omega, ⟨trivial, h5⟩⟩
    simp only [longT, Trm.dat, Kd.dat, PyData.depth, PyData.depthAll, h3]
    omega
theorem long_few (d : Nat) : ∀ (n : Nat) (ks : List Kd), (∀ x ∈ ks, x.deep ≤ 3) → n ≤ 80 → (longT d n).Few ks
  | 0, ks, h, _ => by
    refine ⟨⟨trivial, trivial⟩, fun k e => by have := Trm.jd_deep .unit ks k h (by simp [Trm.kdp]) e; simp only [Trm.ht] at this; omega, fun k e => by have := Trm.jd_deep (.giv (.int (d : Nat))) ks k h (by simp [Trm.kdp]) e; simp only [Trm.ht] at this; omega, fun l nd hl => ?_⟩
    have all : ∀ q ∈ l, q = ((d : Nat) : Int) := fun q hq => by
      have := (hl q hq).1
      simp only [Trm.fv, Bool.false_or, decide_eq_true_eq] at this
      exact this
    match l, nd, all with
    | [], _, _ => simp
    | [x], _, _ => simp
    | x :: y :: r, nd, all =>
      have e1 := all x (by simp)
      have e2 := all y (by simp)
      have := (List.nodup_cons.mp nd).1
      exact absurd (by rw [e1, ← e2]; simp) this
  | n + 1, ks, h, hn => by
    have h' : ∀ y ∈ ks ++ [Kd.u], y.deep ≤ 3 := fun y hy => by
      rcases List.mem_append.mp hy with hy | hy
      · exact h y hy
      · rw [List.mem_singleton.mp hy]; simp [Kd.deep]
    obtain ⟨e1, e2, _⟩ := long_ht d n
    exact ⟨long_few d n _ h' (by omega), fun k e => by have := Trm.jd_deep (longT d n) _ k h' (by omega) e; omega⟩
theorem long_jd (d : Nat) : ∀ (n : Nat) (ks : List Kd), d < ks.length → ∃ k, (longT d n).jd ks = some k
  | 0, ks, h => by
    refine ⟨.p .u ks[d], ?_⟩
    have : KB.giv (.int ((d : Nat) : Int)) ks = some ks[d] := by
      show (if 0 ≤ ((d : Nat) : Int) ∧ ((d : Nat) : Int) < (ks.length : Nat) then ks[((d : Nat) : Int).toNat]? else none) = _
      rw [if_pos ⟨by omega, by omega⟩, Int.toNat_natCast, List.getElem?_eq_getElem h]
    simp [longT, Trm.jd, this]
  | n + 1, ks, h => by
    obtain ⟨k, e⟩ := long_jd d n (ks ++ [.u]) (by rw [List.length_append]; omega)
    exact ⟨.f .u k, by simp [longT, Trm.jd, e]⟩
def spLong (K : PySem.W.Frag) : Sp := fun vs H Q _ => ∃ (wl : Addr) (u : V), vs = [.ref wl, u] ∧ Well H wl ∧ ∀ (d : Nat) v' H', d < 8 → Dq K (out wl H') v' (longT d 80).dat → Aft wl H H' → Q v' H'
abbrev s_law_long : Stmt := top 42
theorem sc_law_long : FnScope ["well", "given", "term", "k"] ["well", "given"] (defScope s_law_long) := ⟨rfl, rfl, rfl, by decide +kernel, rfl, by decide +kernel, by decide +kernel⟩
section
variable {P : Program} {w : World} {K : PySem.W.Frag} {mg : Str → Option Value} {base : Heap} {CN CT : Addr}
theorem ok_long (A : At K mg "_law_long" s_law_long) (T : Txt K mg w CN CT) (C_law_draw : Cal P w K mg base CX0 1 "_law_draw" ["well", "width"] spDraw) : Cal P w K mg base CX0 2 "_law_long" ["well", "given"] (spLong K) := by
  obtain ⟨f, fd, F, m⟩ := A
  refine ⟨f, fd, F.ok sc_law_long (fun vs H Q E h => ?_) (fun cdv A outer s H vs Q E hr h => ?_), F.binds (ps := ["well", "given"]) (fun _ _ _ _ _ _ us hl => match us, hl with | [_, _], _ => rfl), F.kp, m⟩
  · obtain ⟨wl, u, rfl, _⟩ := h; rfl
  obtain ⟨wl, u, rfl, hw, q⟩ := h
  refine ⟨_, (pss_cons (ps_set (i := 2) sc_law_long.nd rfl (by first | exact Or.inl rfl | exact Or.inr rfl) (pe_tup (pa_cons pe_str (pa_cons (pe_tup (pa_cons pe_str pa_nil)) (pa_cons (pe_tup (pa_cons pe_str (pa_cons (pe_calC C_law_draw (hr.mono (by first | decide | omega)) pass0 (pa_cons (pv 0) (pa_cons pe_int pa_nil))) pa_nil))) pa_nil)))))
  (pss_cons (ps_for PassesOwn.never rfl (pi_range1 (by rfl) T.z_range (pa_cons pe_int pa_nil)) (pg_name (i := 3) sc_law_long.nd rfl (by first | exact Or.inl rfl | exact Or.inr rfl))
   (pss_one (ps_set (i := 2) sc_law_long.nd rfl (by first | exact Or.inl rfl | exact Or.inr rfl) (pe_tup (pa_cons pe_str (pa_cons (pe_tup (pa_cons pe_str pa_nil)) (pa_cons (pv 2) pa_nil)))))))
  (pss_one (ps_ret (pv 2))))), ?_⟩
  refine ⟨(by show 1 ≤ sizeLine; decide), fun p1 hp1 => ⟨_, rfl, wl, 8, rfl, hw.new hp1 _, by decide, by decide, fun d0 H1 l0 u0 a1 => ⟨(by show 2 ≤ sizeLine; decide), fun p2 hp2 => ⟨(by show 3 ≤ sizeLine; decide), fun p3 hp3 => ?_⟩⟩⟩⟩
  obtain ⟨d, rfl⟩ := Int.eq_ofNat_of_zero_le l0
  have b0 := Aft.refl hw
  have b1 := (b0.new hp1 (.tup [.str "unit"])).trans a1
  have y1 := (b0.lay (K := K) hp1 (xs := [.str "unit"]) (es := [.str "unit"]) (.cons (.str _) .nil)).same a1.but
  have b2 := b1.new hp2 (.tup [.str "given", .int (d : Nat)])
  have y2 := b1.lay (K := K) hp2 (xs := [.str "given", .int (d : Nat)]) (.cons (.str _) (.cons (.int _) .nil))
  have y12 := y1.same (out_new (w := wl) hp2 (.tup [.str "given", .int (d : Nat)]))
  have b3 := b2.new hp3 (.tup [.str "both", .ref p1, .ref p2])
  have y3 := b2.lay (K := K) hp3 (xs := [.str "both", .ref p1, .ref p2]) (.cons (.str _) (.cons y12 (.cons y2 .nil)))
  refine ⟨80, rfl, by decide, by decide, ?_⟩
  refine for_range (lo := 0) (n := 80) (fun i σ H' => ∃ (v' : V) (o3 : Option V), σ = [some (.ref wl), some u, some v', o3] ∧ Aft wl H H' ∧ Dq K (out wl H') v' (longT d i).dat) ⟨.ref p3, _, rfl, b3, y3⟩ ?_ ?_
  · rintro i σ H4 hi ⟨v1, o3, rfl, a4, hd4⟩
    refine ⟨(by show 1 ≤ sizeLine; decide), fun p4 hp4 => ⟨_, rfl, (by show 3 ≤ sizeLine; decide), fun p5 hp5 => ?_⟩⟩
    have b5 := a4.new hp4 (.tup [.str "unit"])
    have y5 := a4.lay (K := K) hp4 (xs := [.str "unit"]) (es := [.str "unit"]) (.cons (.str _) .nil)
    have h5 := hd4.same (out_new (w := wl) hp4 (.tup [.str "unit"]))
    have b6 := b5.new hp5 (.tup [.str "make", .ref p4, v1])
    have y6 := b5.lay (K := K) hp5 (xs := [.str "make", .ref p4, v1]) (.cons (.str _) (.cons y5 (.cons h5 .nil)))
    exact ⟨_, _, rfl, b6, y6⟩
  · rintro σ H4 ⟨v1, o3, rfl, a4, hd4⟩
    exact ⟨_, rfl, q d v1 H4 (by omega) hd4 a4⟩
end

/-! ## what is told against what is due -/
def TdR (K : PySem.W.Frag) (H : Hp) (r : Option Kd) (x : V) : Prop := (r = none ∧ x = .str "term") ∨ ∃ k, r = some k ∧ Dq K H x k.dat ∧ k.deep ≤ 150
theorem TdR.same {K : PySem.W.Frag} {H H' : Hp} {r : Option Kd} {x : V} (s : Same H H') (h : TdR K H r x) : TdR K H' r x := by
  rcases h with h | ⟨k, e, d, h⟩
  · exact .inl h
  · exact .inr ⟨k, e, d.same s, h⟩
theorem TdR.ne {K : PySem.W.Frag} {H : Hp} {r : Option Kd} {x y : V} {Q : VK} (a : TdR K H r x) (b : TdR K H r y) (q : Q (.bl false) H) : rNeA K x y H Q := by
  rcases a with ⟨e, rfl⟩ | ⟨k, e, d, h⟩
  · rcases b with ⟨_, rfl⟩ | ⟨k, e2, _⟩
    · exact .inl ⟨rfl, q⟩
    · rw [e] at e2; cases e2
  · rcases b with ⟨e2, rfl⟩ | ⟨k2, e2, d2, h2⟩
    · rw [e] at e2; cases e2
    · rw [e] at e2
      cases e2
      refine ne_kd d d2 (by rw [Kd.dat_depth]; omega) ?_
      rw [decide_eq_true rfl]
      exact q
theorem ks_all {ks : List Kd} (h : ∀ x ∈ ks, x.ok) : isKs (.list (ks.map Kd.dat)) = true := by
  simp only [isKs, List.all_eq_true]
  intro d hd
  obtain ⟨k, hk, rfl⟩ := List.mem_map.mp hd
  exact isKd_dat k (h k hk)
theorem dats_inj {ks js : List Kd} (h : ks.map Kd.dat = js.map Kd.dat) : ks = js := by
  induction ks generalizing js with
  | nil => cases js with
    | nil => rfl
    | cons y s => cases h
  | cons x r ih => cases js with
    | nil => cases h
    | cons y s =>
      simp only [List.map_cons, List.cons.injEq] at h
      rw [Kd.dat_inj _ _ h.1, ih h.2]
theorem ks_sz {ks : List Kd} (h : ∀ x ∈ ks, x.deep ≤ 3) : szs (ks.map Kd.dat) ≤ 45 * ks.length := by
  induction ks with
  | nil => simp [szs]
  | cons x r ih =>
    have h1 := ih fun y hy => h y (List.mem_cons_of_mem _ hy)
    have h2 := Kd.sz_dat x
    have h3 := leaves8 (h x (by simp))
    simp only [List.map_cons, szs, List.length_cons]
    omega
/-- data as a term of which few givens are wanted at once -/
structure Tm1 (t : Trm) (ks : List Kd) : Prop where
  wf : t.wf
  few : t.Few ks
  dp : t.jd ks = none ∨ ∃ k, t.jd ks = some k ∧ k.deep ≤ 150
theorem told_q {K : PySem.W.Frag} {H : Hp} {Q : VK} {E : XK} {v : V} {g : Addr} {t : Trm} {ks : List Kd} (hd : Dq K H v t.dat) (m : Tm1 t ks) (hz : sz t.dat ≤ 1000000) (hG : KsAt K H g ks) (ok : ∀ x ∈ ks, x.ok ∧ x.deep ≤ 3) (hl : ks.length ≤ 1000)
    (q : ∀ x H', Same H H' → TdR K H' (t.jd ks) x → Q x H') : spTold51 K [v, .ref g] H Q E := by
  obtain ⟨gs, eg, hgA⟩ := id hG
  have h3 := ks_sz fun x hx => (ok x hx).2
  refine ⟨v, .ref g, t.dat, .list (ks.map Kd.dat), rfl, hd, .lst (.of eg) hgA, hz, by simp only [sz]; omega, fun h => ?_, fun js ej okj => ?_⟩
  · rw [ks_all fun x hx => (ok x hx).1] at h; cases h
  · obtain rfl := dats_inj (PyData.list.inj ej)
    exact ⟨t, rfl, m.wf, m.few, ⟨g, rfl, hG⟩, fun hn H' s => q _ H' s (.inl ⟨hn, rfl⟩), fun k hk kv H' s d => q kv H' s (.inr ⟨k, hk, d, by
      rcases m.dp with h | ⟨k', h, h2⟩
      · rw [hk] at h; cases h
      · rw [hk] at h; cases h; exact h2⟩)⟩
theorem due_q {K : PySem.W.Frag} {H : Hp} {Q : VK} {E : XK} {v : V} {g : Addr} {t : Trm} {ks : List Kd} (hd : Dq K H v t.dat) (m : Tm1 t ks) (hz : t.dat.depth < 100) (hG : KsAt K H g ks) (hl : ks.length ≤ 1000)
    (q : ∀ x H', Same H H' → TdR K H' (t.jd ks) x → Q x H') : spDue51 K [v, .ref g] H Q E :=
  ⟨v, g, t, ks, rfl, hd, m.wf, m.few, hz, hG, hl, fun hn H' s => q _ H' s (.inl ⟨hn, rfl⟩), fun k hk kv H' s d => q kv H' s (.inr ⟨k, hk, d, by
      rcases m.dp with h | ⟨k', h, h2⟩
      · rw [hk] at h; cases h
      · rw [hk] at h; cases h; exact h2⟩)⟩
theorem none_q {K : PySem.W.Frag} {H : Hp} {Q : VK} {E : XK} {v u : V} {d e : PyData} (hd : Dq K H v d) (he : Dq K H u e) (zd : sz d ≤ 1000000) (ze : sz e ≤ 1000000) (h : isKs e = false) (q : ∀ H', Same H H' → Q (.str "kind") H') : spTold51 K [v, u] H Q E :=
  ⟨v, u, d, e, rfl, hd, he, zd, ze, fun _ => q, fun js ej okj => by rw [ej, ks_all okj] at h; cases h⟩
theorem tm1_of {t : Trm} {ks : List Kd} {M : Nat} (wf : t.wf) (hM : ∀ x ∈ ks, x.deep ≤ M) (kd : t.kdp ≤ M) (hh : M + t.ht ≤ 149) (hm : ks.length + t.md < 64) : Tm1 t ks :=
  ⟨wf, few_of t ks hM kd (by omega) hm, by
    cases e : t.jd ks with
    | none => exact .inl rfl
    | some k => exact .inr ⟨k, rfl, by have := Trm.jd_deep t ks k hM kd e; omega⟩⟩
theorem eq_ks {K : PySem.W.Frag} {H : Hp} {a b : Addr} {ks : List Kd} {Q : VK} (h1 : KsAt K H a ks) (h2 : KsAt K H b ks) (hk : ∀ x ∈ ks, x.deep ≤ 3) (q : Q (.bl false) H) : rNeA K (.ref a) (.ref b) H Q := by
  obtain ⟨us, e1, d1⟩ := h1
  obtain ⟨vs, e2, d2⟩ := h2
  have c1 : (PyData.list (ks.map Kd.dat)).canLay0 = true := by rw [PyData.canLay0]; exact lays_of fun d hd => by obtain ⟨k, _, rfl⟩ := List.mem_map.mp hd; exact Kd.dat_lay k
  have c2 : PyData.depthAll (ks.map Kd.dat) ≤ 3 := deps_of fun d hd => by obtain ⟨k, h, rfl⟩ := List.mem_map.mp hd; rw [Kd.dat_depth]; exact hk k h
  refine .inr ⟨_, _, (Dq.lst (.of e1) d1).dp c1, (Dq.lst (.of e2) d2).dp c1, c1, c1, by simp only [PyData.depth]; omega, ?_⟩
  rw [SeqAt.eqv_refl _ c1]
  exact q
theorem Aft.stay {wl : Addr} {H H1 H2 : Hp} (a : Aft wl H H1) (s : Same H1 H2) : Aft wl H H2 := a.trans ⟨by obtain ⟨x, y, z, e⟩ := a.well; exact ⟨x, y, z, s _ _ e⟩, out_same s⟩

/-! ## the law -/
def spLaw (K : PySem.W.Frag) : Sp := fun vs H Q _ => ∃ (a : Addr) (ns : List Int), vs = [.ref a] ∧ SqL K H a (ns.map V.int) ∧ ns.length ≤ 63 ∧ ∀ H', Q (.bl true) H'
theorem cut_ints (ns : List Int) (lo hi : Option Int) : ∀ x ∈ cutV (ns.map V.int) lo hi, ∃ i : Int, x = .int i := fun x h => by
  have h2 := List.mem_of_mem_drop (List.mem_of_mem_take h)
  obtain ⟨i, _, rfl⟩ := List.mem_map.mp h2
  exact ⟨i, rfl⟩
/-- a turn of the law: the list that is walked, the draws, what is given, the term -/
structure L51 (K : PySem.W.Frag) (l : Addr) (xs : List V) (wl g : Addr) (H : Hp) (v : V) (t : Trm) (k : Kd) (ks : List Kd) : Prop where
  el : H l = some (.lst xs)
  nl : l ≠ wl
  ng : g ≠ wl
  well : Well H wl
  term : Dq K (out wl H) v t.dat
  tz : Tz t ks k 33
  size : sz t.dat ≤ 13000
  giv : KsAt K (out wl H) g ks
  gv : Gv ks
  lo : 8 ≤ ks.length
  hi : ks.length ≤ 10
section
variable {K : PySem.W.Frag} {l : Addr} {xs : List V} {wl g : Addr} {H H' : Hp} {v : V} {t : Trm} {k : Kd} {ks : List Kd}
theorem L51.aft (h : L51 K l xs wl g H v t k ks) (a : Aft wl H H') : L51 K l xs wl g H' v t k ks := ⟨a.at_ h.nl h.el, h.nl, h.ng, a.well, h.term.same a.but, h.tz, h.size, h.giv.same a.but, h.gv, h.lo, h.hi⟩
theorem L51.same (h : L51 K l xs wl g H v t k ks) (s : Same H H') : L51 K l xs wl g H' v t k ks := h.aft ((Aft.refl h.well).stay s)
theorem L51.dq (h : L51 K l xs wl g H v t k ks) : Dq K H v t.dat := h.term.same (out_sub _ _)
theorem L51.ksat (h : L51 K l xs wl g H v t k ks) : KsAt K H g ks := h.giv.same (out_sub _ _)
theorem L51.at (h : L51 K l xs wl g H v t k ks) : ∃ gs, H g = some (.lst gs) ∧ gs.length = ks.length ∧ DqAll K (out wl H) gs (ks.map Kd.dat) := by
  obtain ⟨gs, e, a⟩ := h.giv
  exact ⟨gs, (out_some e).2, by have := a.length; rwa [List.length_map] at this, a⟩
theorem L51.tm (h : L51 K l xs wl g H v t k ks) : Tm1 t ks := by
  have h1 := h.tz.ht
  have h2 := h.tz.kd
  have h3 := good_md _ _ _ h.tz.jd
  have h4 := h.hi
  exact tm1_of (M := 12) h.tz.wf (fun x hx => by have := (h.gv.ok x hx).2; omega) h2 (by omega) (by omega)
theorem L51.deep (h : L51 K l xs wl g H v t k ks) : t.dat.depth < 80 := by
  have h1 := h.tz.ht
  have h2 := h.tz.kd
  have h3 := (good_nrw _ _ _ h.tz.jd).2.2
  omega
end
/-- the turn's end -/
def Nx51 (a l : Addr) (xs : List V) (D : Ends) : Prop := ∀ (o1 o2 o3 o4 o5 o6 o7 o8 o9 o10 o11 o12 o13 : Option V) (H' : Hp), H' l = some (.lst xs) → D.nx [some (.ref a), o1, o2, o3, o4, o5, o6, o7, o8, o9, o10, o11, o12, o13] H'
def J51 (K : PySem.W.Frag) (a : Addr) : TS := fun D σ H' => ∃ (l : Addr) (xs : List V) (wl g : Addr) (v : V) (t : Trm) (k : Kd) (ks : List Kd) (o1 o4 o6 o7 o8 o9 o10 o11 o12 o13 : Option V), σ = [some (.ref a), o1, some (.ref wl), some (.ref g), o4, some v, o6, o7, o8, o9, o10, o11, o12, o13] ∧ L51 K l xs wl g H' v t k ks ∧ Nx51 a l xs D
theorem jd_q {K : PySem.W.Frag} {H : Hp} {Q : VK} {E : XK} {v : V} {g : Addr} {t : Trm} {ks : List Kd} (hd : Dq K H v t.dat) (m : Tm1 t ks) (hz : t.dat.depth < 100) (hG : KsAt K H g ks) (hl : ks.length ≤ 1000) {k : Kd} (hk : t.jd ks = some k)
    (q : ∀ x H', Same H H' → TdR K H' (some k) x → Q x H') : spJd K 100 [v, .ref g] H Q E :=
  ⟨v, g, t, ks, rfl, hd, m.wf, m.few, hz, by decide, hG, by omega, (fun hn => by rw [hk] at hn; cases hn), fun k' hk' kv H' s d => q kv H' s (.inr ⟨k', (by rw [← hk, ← hk']), d, by
      rcases m.dp with h | ⟨k2, h, h2⟩
      · rw [hk] at h; cases h
      · rw [hk'] at h; cases h; exact h2⟩)⟩
theorem told_var {K : PySem.W.Frag} {H : Hp} {Q : VK} {σ : L2.St} {i j : Nat} {v : V} {g : Addr} {t : Trm} {ks : List Kd} (ei : σ[i]? = some (some v)) (ej : σ[j]? = some (some (.ref g))) (hd : Dq K H v t.dat) (m : Tm1 t ks) (hz : sz t.dat ≤ 1000000) (hG : KsAt K H g ks) (ok : ∀ x ∈ ks, x.ok ∧ x.deep ≤ 3) (hl : ks.length ≤ 1000)
    (q : ∀ x H', Same H H' → TdR K H' (t.jd ks) x → Q x H') : tCall (spTold51 K) [] E0 (tCons (tVar i) (tCons (tVar j) tNil)) σ H Q :=
  ⟨v, ei, .ref g, ej, told_q (E := E0) hd m hz hG ok hl q⟩
theorem told_tup {K : PySem.W.Frag} {H : Hp} {Q : VK} {σ : L2.St} {i j : Nat} {w : Str} {v : V} {g : Addr} {t : Trm} {ks : List Kd} (ei : σ[i]? = some (some v)) (ej : σ[j]? = some (some (.ref g))) (m : Tm1 t ks) (hz : sz t.dat ≤ 1000000) (ok : ∀ x ∈ ks, x.ok ∧ x.deep ≤ 3) (hl : ks.length ≤ 1000)
    (h : ∀ p, H p = none → Dq K (upd H p (.tup [.str w, v])) (.ref p) t.dat ∧ KsAt K (upd H p (.tup [.str w, v])) g ks) (q : ∀ p, H p = none → ∀ x H', Same (upd H p (.tup [.str w, v])) H' → TdR K H' (t.jd ks) x → Q x H') : tCall (spTold51 K) [] E0 (tCons (tTup (tCons (tC (.str w)) (tCons (tVar i) tNil))) (tCons (tVar j) tNil)) σ H Q :=
  ⟨v, ei, (by show 2 ≤ sizeLine; decide), fun p hp => ⟨.ref g, ej, told_q (E := E0) (h p hp).1 m hz (h p hp).2 ok hl (q p hp)⟩⟩
theorem due_var {K : PySem.W.Frag} {H : Hp} {Q : VK} {σ : L2.St} {i j : Nat} {v : V} {g : Addr} {t : Trm} {ks : List Kd} (ei : σ[i]? = some (some v)) (ej : σ[j]? = some (some (.ref g))) (hd : Dq K H v t.dat) (m : Tm1 t ks) (hz : t.dat.depth < 100) (hG : KsAt K H g ks) (hl : ks.length ≤ 1000)
    (q : ∀ x H', Same H H' → TdR K H' (t.jd ks) x → Q x H') : tCall (spDue51 K) [] E0 (tCons (tVar i) (tCons (tVar j) tNil)) σ H Q :=
  ⟨v, ei, .ref g, ej, due_q (E := E0) hd m hz hG hl q⟩
theorem jd_var {K : PySem.W.Frag} {H : Hp} {Q : VK} {σ : L2.St} {i j : Nat} {v : V} {g : Addr} {t : Trm} {ks : List Kd} (ei : σ[i]? = some (some v)) (ej : σ[j]? = some (some (.ref g))) (hd : Dq K H v t.dat) (m : Tm1 t ks) (hz : t.dat.depth < 100) (hG : KsAt K H g ks) (hl : ks.length ≤ 1000) {k : Kd} (hk : t.jd ks = some k)
    (q : ∀ x H', Same H H' → TdR K H' (some k) x → Q x H') : tCall (spJd K 100) [] E0 (tCons (tVar i) (tCons (tVar j) tNil)) σ H Q :=
  ⟨v, ei, .ref g, ej, jd_q (E := E0) hd m hz hG hl hk q⟩
theorem none_var {K : PySem.W.Frag} {H : Hp} {Q : VK} {σ : L2.St} {i j : Nat} {v u : V} {d e : PyData} (ei : σ[i]? = some (some v)) (ej : σ[j]? = some (some u)) (hd : Dq K H v d) (he : Dq K H u e) (zd : sz d ≤ 1000000) (ze : sz e ≤ 1000000) (h : isKs e = false) (q : ∀ H', Same H H' → Q (.str "kind") H') : tCall (spTold51 K) [] E0 (tCons (tVar i) (tCons (tVar j) tNil)) σ H Q :=
  ⟨v, ei, u, ej, none_q (E := E0) hd he zd ze h q⟩
theorem none_non {K : PySem.W.Frag} {H : Hp} {Q : VK} {σ : L2.St} {j : Nat} {u : V} {e : PyData} (ej : σ[j]? = some (some u)) (he : Dq K H u e) (ze : sz e ≤ 1000000) (h : isKs e = false) (q : ∀ H', Same H H' → Q (.str "kind") H') : tCall (spTold51 K) [] E0 (tCons (tC .non) (tCons (tVar j) tNil)) σ H Q :=
  ⟨u, ej, none_q (E := E0) .non he (by simp [sz]) ze h q⟩
/-- what is handed: a list of its own, and a thing that may be a term -/
structure O51 (K : PySem.W.Frag) (p g : Addr) (H : Hp) (u : V) (t : Trm) (us : List V) (js : List Kd) : Prop where
  ep : H p = some (.lst us)
  du : Dq K (out p H) u t.dat
  dk : DqAll K (out p H) us (js.map Kd.dat)
theorem O51.same {K : PySem.W.Frag} {p g : Addr} {H H' : Hp} {u : V} {t : Trm} {us : List V} {js : List Kd} (h : O51 K p g H u t us js) (s : Same H H') : O51 K p g H' u t us js := ⟨s _ _ h.ep, h.du.same (out_same s), h.dk.same (out_same s)⟩
theorem O51.set {K : PySem.W.Frag} {p g : Addr} {H : Hp} {u : V} {t : Trm} {us vs : List V} {js ms : List Kd} (h : O51 K p g H u t us js) (d : DqAll K (out p H) vs (ms.map Kd.dat)) : O51 K p g (upd H p (.lst vs)) u t vs ms := ⟨upd_same, h.du.same (out_set _), d.same (out_set _)⟩
theorem O51.at {K : PySem.W.Frag} {p g : Addr} {H : Hp} {u : V} {t : Trm} {us : List V} {js : List Kd} (h : O51 K p g H u t us js) : KsAt K H p js := ⟨us, h.ep, h.dk.same (out_sub _ _)⟩
theorem O51.dq {K : PySem.W.Frag} {p g : Addr} {H : Hp} {u : V} {t : Trm} {us : List V} {js : List Kd} (h : O51 K p g H u t us js) : Dq K H u t.dat := h.du.same (out_sub _ _)
theorem kds_outp {K : PySem.W.Frag} {H : Hp} {l : Addr} {us : List V} (e : H l = some (.lst us)) : ∀ {vs : List V} {ks : List Kd}, DqAll K H vs (ks.map Kd.dat) → DqAll K (out l H) vs (ks.map Kd.dat)
  | [], [], .nil => .nil
  | _ :: _, k :: r, .cons a b => .cons (Dq.outp e k.pure a) (kds_outp e b)
theorem L51.set {K : PySem.W.Frag} {l : Addr} {xs : List V} {wl g : Addr} {H : Hp} {v : V} {t : Trm} {k : Kd} {ks : List Kd} {p : Addr} {us vs : List V} (h : L51 K l xs wl g H v t k ks) (ep : H p = some (.lst us)) (n1 : p ≠ l) (n2 : p ≠ wl) (n3 : p ≠ g) : L51 K l xs wl g (upd H p (.lst vs)) v t k ks := by
  have sO : Same (out p (out wl H)) (out wl (upd H p (.lst vs))) := fun b o e => by
    obtain ⟨b1, e1⟩ := out_some e
    obtain ⟨b2, e2⟩ := out_some e1
    exact out_at b2 ((upd_ne b1).trans e2)
  have ep' := out_at n2 ep
  obtain ⟨gs, eg, ga⟩ := h.giv
  refine ⟨(upd_ne n1.symm).trans h.el, h.nl, h.ng, ?_, (Dq.outp ep' (pure_jd _ _ _ h.tz.jd) h.term).same sO, h.tz, h.size, ⟨gs, sO _ _ (out_at n3.symm eg), ?_⟩, h.gv, h.lo, h.hi⟩
  · obtain ⟨x, y, z, e⟩ := h.well
    exact ⟨x, y, z, (upd_ne n2.symm).trans e⟩
  · exact (kds_outp ep' ga).same sO
/-- things that are no list of kinds -/
structure BvS (K : PySem.W.Frag) (wl : Addr) (H0 H : Hp) (us : List V) : Prop where
  aft : Aft wl H0 H
  bad : ∀ x ∈ us, ∃ e, isKs e = false ∧ sz e ≤ 1000000 ∧ Dq K (out wl H) x e
theorem BvS.aft' {K : PySem.W.Frag} {wl : Addr} {H0 H H' : Hp} {us : List V} (S : BvS K wl H0 H us) (a : Aft wl H H') : BvS K wl H0 H' us := ⟨S.aft.trans a, fun x hx => by
  obtain ⟨e, h1, h2, h3⟩ := S.bad x hx
  exact ⟨e, h1, h2, h3.same a.but⟩⟩
theorem BvS.new {K : PySem.W.Frag} {wl : Addr} {H0 H : Hp} {us : List V} (S : BvS K wl H0 H us) {p : Addr} (hp : H p = none) (o : HO) : BvS K wl H0 (upd H p o) us := S.aft' ((Aft.refl S.aft.well).new hp o)
theorem BvS.laid {K : PySem.W.Frag} {wl : Addr} {H0 H : Hp} {us : List V} (S : BvS K wl H0 H us) {p : Addr} (hp : H p = none) (o : HO) : upd H p o p = some o := upd_same
theorem BvS.more {K : PySem.W.Frag} {wl : Addr} {H0 H : Hp} {us : List V} (S : BvS K wl H0 H us) {x : V} {e : PyData} (h1 : isKs e = false) (h2 : sz e ≤ 1000000) (h3 : Dq K (out wl H) x e) : BvS K wl H0 H (us ++ [x]) := ⟨S.aft, fun y hy => by
  rcases List.mem_append.mp hy with hy | hy
  · exact S.bad y hy
  · rw [List.mem_singleton.mp hy]; exact ⟨e, h1, h2, h3⟩⟩
theorem ks_not {ks : List Kd} {d : PyData} (h : isKd d = false) : isKs (.list (ks.map Kd.dat ++ [d])) = false := by
  simp only [isKs, List.all_append, List.all_cons, List.all_nil, h, Bool.false_and, Bool.and_false]
theorem BvS.cat {K : PySem.W.Frag} {wl g q : Addr} {H1 H : Hp} {us gs : List V} {ks : List Kd} {x : V} {d : PyData} {Q : VK} (B : BvS K wl H1 H us) (eg : H1 g = some (.lst gs)) (ng : g ≠ wl) (ga : DqAll K (out wl H1) gs (ks.map Kd.dat)) (h3 : ∀ k ∈ ks, k.deep ≤ 3) (hl : ks.length ≤ 10) (hq : H q = some (.lst [x])) (dx : Dq K (out wl H) x d) (nd : isKd d = false) (zd : sz d ≤ 10)
    (k : ∀ p, H p = none → BvS K wl H1 (upd H p (.lst (gs ++ [x]))) (us ++ [.ref p]) → Q (.ref p) (upd H p (.lst (gs ++ [x])))) : rAddA K (.ref g) (.ref q) H Q := by
  have gl := ga.length
  rw [List.length_map] at gl
  have z3 := ks_sz h3
  refine .inr (.inr (.inl ⟨g, q, _, _, rfl, rfl, B.aft.at_ ng eg, hq, fits (by simp only [List.length_cons, List.length_nil]; omega), fun p hp => k p hp ?_⟩))
  have sn := out_new (w := wl) hp (.lst (gs ++ [x]))
  exact (B.new hp _).more (ks_not nd) (by simp only [sz, szs_append, szs]; omega) (.lst (.of (B.aft.well.laid hp _)) (((ga.same B.aft.but).same sn).append (.cons (dx.same sn) .nil)))
abbrev s_law : Stmt := top 45
theorem sc_law : FnScope ["script", "cell", "well", "given", "kind", "term", "k", "odd", "handed", "last", "small", "deep", "long_so", "strange"] ["script"] (defScope s_law) := ⟨rfl, rfl, rfl, by decide +kernel, rfl, by decide +kernel, by decide +kernel⟩
section
variable {P : Program} {w : World} {K : PySem.W.Frag} {mg : Str → Option Value} {base : Heap} {CN CT : Addr}
theorem ok_law {f : Addr} {fd : FuncData} (F : Fun K "law" "law" s_law f fd) (T : Txt K mg w CN CT) (C_law_well : Cal P w K mg base CX0 1 "_law_well" ["cell"] spWell) (C_law_draw : Cal P w K mg base CX0 1 "_law_draw" ["well", "width"] spDraw) (C_law_given : Cal P w K mg base CX0 5 "_law_given" ["well"] (spGiven51 K))
    (C_law_kind : Cal P w K mg base CX0 4 "_law_kind" ["well", "deep"] (spKind51 K 3)) (C_law_flat : Cal P w K mg base CX0 13 "_law_flat" ["well", "kind", "given", "fuel"] (spFlat K 8)) (C_law_some : Cal P w K mg base CX0 73 "_law_some" ["well", "term", "given", "most"] (spSome K)) (C_law_told : Cal P w K mg base CX0 7 "_law_told" ["term", "given"] (spTold51 K))
    (C_law_judged : Cal P w K mg base CX0 201 "_law_judged" ["term", "given"] (spJd K 100)) (C_law_due : Cal P w K mg base CX0 202 "_law_due" ["term", "given"] (spDue51 K)) (C_law_odd : Cal P w K mg base CX0 81 "_law_odd" ["well", "term", "given"] (spOdd K 80)) (C_law_deep : Cal P w K mg base CX0 91 "_law_deep" ["well", "term", "kind", "given"] (spDeep K)) (C_law_long : Cal P w K mg base CX0 2 "_law_long" ["well", "given"] (spLong K)) : FnOk P w K mg base CX0 203 f fd ["script"] (spLaw K) := by
  refine F.ok sc_law (fun vs H Q E h => ?_) (fun cdv A outer s H vs Q E hr h => ?_)
  · obtain ⟨a, ns, rfl, _⟩ := h; rfl
  obtain ⟨a, ns, rfl, hS, hl, q⟩ := h
  refine ⟨_, (pss_cons (ps_for PassesOwn.never rfl (pi_list (pe_op op_addA (pe_lst (pa_cons pe_int (pa_cons pe_int pa_nil))) (pe_slice sl_A (pv 0) po_none (po_some pe_int)))) (pg_name (i := 1) sc_law.nd rfl (by first | exact Or.inl rfl | exact Or.inr rfl))
   (pss_cons (ps_set (i := 2) sc_law.nd rfl (by first | exact Or.inl rfl | exact Or.inr rfl) (pe_calC C_law_well (hr.mono (by first | decide | omega)) pass0 (pa_cons (pv 1) pa_nil)))
  (pss_cons (ps_set (i := 3) sc_law.nd rfl (by first | exact Or.inl rfl | exact Or.inr rfl) (pe_calC C_law_given (hr.mono (by first | decide | omega)) pass0 (pa_cons (pv 2) pa_nil)))
  (pss_cons (ps_set (i := 4) sc_law.nd rfl (by first | exact Or.inl rfl | exact Or.inr rfl) (pe_calC C_law_kind (hr.mono (by first | decide | omega)) pass0 (pa_cons (pv 2) (pa_cons pe_int pa_nil))))
  (pss_cons (ps_set (i := 5) sc_law.nd rfl (by first | exact Or.inl rfl | exact Or.inr rfl) (pe_calC C_law_some (hr.mono (by first | decide | omega)) pass0 (pa_cons (pv 2) (pa_cons (pe_calC C_law_flat (hr.mono (by first | decide | omega)) pass0 (pa_cons (pv 2) (pa_cons (pv 4) (pa_cons (pv 3) (pa_cons pe_int pa_nil))))) (pa_cons (pv 3) (pa_cons pe_int pa_nil))))))
  (pss_cons (ps_if (PW.pt (pw_or (pt_cmpR (op_neA (room200 hr)) (pe_calC C_law_told (hr.mono (by first | decide | omega)) pass0 (pa_cons (pv 5) (pa_cons (pv 3) pa_nil))) (pv 4) (nomark _)) (pw_or1 (pt_cmpR (op_neA (room200 hr)) (pe_calC C_law_judged (hr.mono (by first | decide | omega)) pass0 (pa_cons (pv 5) (pa_cons (pv 3) pa_nil))) (pv 4) (nomark _)))))
   (pss_one (ps_ret pe_bl))
   pss_nil)
  (pss_gen (I := J51 K a) (pss_cons (ps_for PassesOwn.never rfl (pi_range1 (by rfl) T.z_range (pa_cons pe_int pa_nil)) (pg_name (i := 6) sc_law.nd rfl (by first | exact Or.inl rfl | exact Or.inr rfl))
   (pss_cons (ps_set (i := 7) sc_law.nd rfl (by first | exact Or.inl rfl | exact Or.inr rfl) (pe_calC C_law_odd (hr.mono (by first | decide | omega)) pass0 (pa_cons (pv 2) (pa_cons (pv 5) (pa_cons (pv 3) pa_nil)))))
  (pss_cons (ps_set (i := 8) sc_law.nd rfl (by first | exact Or.inl rfl | exact Or.inr rfl) (pe_callTy call_list_of (by rfl) T.z_list (by decide +kernel) (pa_cons (pv 3) pa_nil)))
  (pss_cons (ps_if (PW.pt (pw_or (pt_cmpR (op_neA (room200 hr)) (pe_calC C_law_told (hr.mono (by first | decide | omega)) pass0 (pa_cons (pv 7) (pa_cons (pv 8) pa_nil))) (pe_calC C_law_due (hr.mono (by first | decide | omega)) pass0 (pa_cons (pv 7) (pa_cons (pv 3) pa_nil))) (nomark _)) (pw_or1 (pt_cmpR (op_neA (room200 hr)) (pv 8) (pv 3) (nomark _)))))
   (pss_one (ps_ret pe_bl))
   pss_nil)
  (pss_cons (ps_set (i := 9) sc_law.nd rfl (by first | exact Or.inl rfl | exact Or.inr rfl) (pe_bm0 PySem.F.plainAttrs_list PySem.F.slot_list_pop PySem.F.type_list_pop (r := rPop) mt_pop (pv 8) ))
  (pss_cons (ps_if (pt_cmpR (op_neA (room200 hr)) (pe_calC C_law_told (hr.mono (by first | decide | omega)) pass0 (pa_cons (pv 7) (pa_cons (pv 8) pa_nil))) (pe_calC C_law_due (hr.mono (by first | decide | omega)) pass0 (pa_cons (pv 7) (pa_cons (pv 8) pa_nil))) (nomark _))
   (pss_one (ps_ret pe_bl))
   pss_nil)
  (pss_cons (ps_expr (pe_bm PySem.F.plainAttrs_list PySem.F.slot_list_insert PySem.F.type_list_insert mt_insert (pv 8) (pa_cons pe_int (pa_cons (pv 9) pa_nil))))
  (pss_one (ps_if (pt_cmpR (op_neA (room200 hr)) (pe_calC C_law_told (hr.mono (by first | decide | omega)) pass0 (pa_cons (pv 7) (pa_cons (pv 8) pa_nil))) (pe_calC C_law_due (hr.mono (by first | decide | omega)) pass0 (pa_cons (pv 7) (pa_cons (pv 8) pa_nil))) (nomark _))
   (pss_one (ps_ret pe_bl))
   pss_nil)))))))))
  (pss_gen (I := J51 K a) (pss_cons (ps_set (i := 10) sc_law.nd rfl (by first | exact Or.inl rfl | exact Or.inr rfl) (pe_tup (pa_cons pe_str (pa_cons (pe_calC C_law_draw (hr.mono (by first | decide | omega)) pass0 (pa_cons (pv 2) (pa_cons pe_int pa_nil))) pa_nil))))
  (pss_cons (ps_set (i := 11) sc_law.nd rfl (by first | exact Or.inl rfl | exact Or.inr rfl) (pe_calC C_law_deep (hr.mono (by first | decide | omega)) pass0 (pa_cons (pv 2) (pa_cons (pe_calC C_law_flat (hr.mono (by first | decide | omega)) pass0 (pa_cons (pv 2) (pa_cons (pv 10) (pa_cons (pv 3) (pa_cons pe_int pa_nil))))) (pa_cons (pv 10) (pa_cons (pv 3) pa_nil))))))
  (pss_cons (ps_if (PW.pt (pw_or (pt_cmpR (op_neA (room200 hr)) (pe_calC C_law_told (hr.mono (by first | decide | omega)) pass0 (pa_cons (pv 11) (pa_cons (pv 3) pa_nil))) (pv 10) (nomark _)) (pw_or1 (pt_cmpR (op_neA (room200 hr)) (pe_calC C_law_told (hr.mono (by first | decide | omega)) pass0 (pa_cons (pe_tup (pa_cons pe_str (pa_cons (pv 11) pa_nil))) (pa_cons (pv 3) pa_nil))) pe_str (nomark _)))))
   (pss_one (ps_ret pe_bl))
   pss_nil)
  (pss_gen (I := J51 K a) (pss_cons (ps_set (i := 12) sc_law.nd rfl (by first | exact Or.inl rfl | exact Or.inr rfl) (pe_calC C_law_long (hr.mono (by first | decide | omega)) pass0 (pa_cons (pv 2) (pa_cons (pv 3) pa_nil))))
  (pss_cons (ps_if (pt_cmpR (op_neA (room200 hr)) (pe_calC C_law_told (hr.mono (by first | decide | omega)) pass0 (pa_cons (pv 12) (pa_cons (pv 3) pa_nil))) (pe_calC C_law_judged (hr.mono (by first | decide | omega)) pass0 (pa_cons (pv 12) (pa_cons (pv 3) pa_nil))) (nomark _))
   (pss_one (ps_ret pe_bl))
   pss_nil)
  (pss_gen (I := J51 K a) (pss_cons (ps_set (i := 13) sc_law.nd rfl (by first | exact Or.inl rfl | exact Or.inr rfl) (pe_lst (pa_cons pe_non (pa_cons (pe_callTy call_tuple_of (by rfl) T.z_tuple (by decide +kernel) (pa_cons (pv 3) pa_nil)) (pa_cons (pe_op op_addA (pv 3) (pe_lst (pa_cons pe_non pa_nil))) (pa_cons (pe_op op_addA (pv 3) (pe_lst (pa_cons (pe_tup (pa_cons pe_str (pa_cons pe_int pa_nil))) pa_nil))) (pa_cons (pe_op op_addA (pv 3) (pe_lst (pa_cons (pe_tup (pa_cons pe_str (pa_cons pe_bl pa_nil))) pa_nil))) (pa_cons pe_str (pa_cons pe_dnewK (pa_cons pe_int pa_nil))))))))))
  (pss_cons (ps_set (i := 13) sc_law.nd rfl (by first | exact Or.inl rfl | exact Or.inr rfl) (pe_ix ix_B (pv 13) (pe_calC C_law_draw (hr.mono (by first | decide | omega)) pass0 (pa_cons (pv 2) (pa_cons pe_int pa_nil))) (fun _ _ => rfl)))
  (pss_one (ps_if (PW.pt (pw_or (pt_cmpR (op_neA (room200 hr)) (pe_calC C_law_told (hr.mono (by first | decide | omega)) pass0 (pa_cons (pv 5) (pa_cons (pv 13) pa_nil))) pe_str (nomark _)) (pw_or1 (pt_cmpR (op_neA (room200 hr)) (pe_calC C_law_told (hr.mono (by first | decide | omega)) pass0 (pa_cons pe_non (pa_cons (pv 13) pa_nil))) pe_str (nomark _)))))
   (pss_one (ps_ret pe_bl))
   pss_nil)))) ?j11))) ?j9)))) ?j6)) ?j5)))))))
  (pss_one (ps_ret pe_bl))), ?first⟩
  case j5 =>
    rintro D σ H1 ⟨l, xs, wl, g, v, t, k, ks, o1, o4, o6, o7, o8, o9, o10, o11, o12, o13, rfl, S, hn⟩
    refine ⟨6, rfl, by decide, by decide, ?_⟩
    refine for_range (lo := 0) (n := 6) (fun _ σ H' => ∃ (o6 o7 o8 o9 : Option V), σ = [some (.ref a), o1, some (.ref wl), some (.ref g), o4, some v, o6, o7, o8, o9, o10, o11, o12, o13] ∧ L51 K l xs wl g H' v t k ks) ⟨_, _, _, _, rfl, S⟩ ?_ ?_
    · rintro i σ H2 hi ⟨o6, o7, o8, o9, rfl, S⟩
      obtain ⟨ds, ed⟩ := good_tup _ _ _ S.tz.jd
      obtain ⟨gn, _, gdp⟩ := good_nrw _ _ _ S.tz.jd
      have gm := good_md _ _ _ S.tz.jd
      have tht := S.tz.ht
      have tkd := S.tz.kd
      have tsz := S.size
      have klo := S.lo
      have khi := S.hi
      obtain ⟨gs, eg, gl, ga⟩ := S.at
      refine ⟨_, rfl, _, rfl, _, rfl, wl, g, v, gs, ds, rfl, S.well, S.ng, eg, by omega, by rw [← ed]; exact S.term, by rw [← ed]; omega, by rw [← ed]; exact gn, fun d u H3 od du a3 => ?_⟩
      rw [← ed] at od
      obtain ⟨t2, e2, wf2⟩ := trm_of (KB.sz d) d (Nat.le_refl _)
      subst e2
      have b1 := od.size
      have b2 := od.dp
      have b3 := od.md
      have c1 := md_dat t2
      have c2 := ht_dat t2
      have mm : ∀ js : List Kd, (∀ x ∈ js, x.ok ∧ x.deep ≤ 3) → js.length ≤ 10 → Tm1 t2 js := fun js hj hl => tm1_of (M := 47) wf2 (fun x hx => by have := (hj x hx).2; omega) (by omega) (by omega) (by omega)
      have S3 := S.aft a3
      have eg3 := a3.at_ S.ng eg
      refine ⟨_, rfl, g, gs, rfl, .inl (.of eg3), fun p hp => ?_⟩
      have S4 := S3.aft ((Aft.refl S3.well).new hp (.lst gs))
      have O4 : O51 K p g (upd H3 p (.lst gs)) u t2 gs ks := ⟨upd_same, (du.same (out_sub _ _)).same (same_out hp (same_new hp _)), ((ga.same a3.but).same (out_sub _ _)).same (same_out hp (same_new hp _))⟩
      have n1 : p ≠ l := (ne_of_none S3.el hp).symm
      have n2 : p ≠ wl := S3.well.ne hp
      have n3 : p ≠ g := (ne_of_none eg3 hp).symm
      generalize upd H3 p (.lst gs) = H4 at S4 O4 ⊢
      dsimp only [gName, tSeq, tIfS, tOr, tTest, tOp, tAsg, tDrop]
      refine told_var rfl rfl O4.dq (mm ks S.gv.ok khi) (by omega) O4.at S.gv.ok (by omega) fun x H5 s5 r5 => ?_
      refine due_var rfl rfl (O4.same s5).dq (mm ks S.gv.ok khi) (by omega) (S4.same s5).ksat (by omega) fun y H6 s6 r6 => ?_
      have O6 := (O4.same s5).same s6
      have S6 := (S4.same s5).same s6
      refine TdR.ne (r5.same s6) r6 ⟨_, rfl, iteF' rfl ?_⟩
      refine ⟨_, rfl, _, rfl, eq_ks O6.at S6.ksat (fun x hx => (S.gv.ok x hx).2) ⟨_, rfl, iteF' rfl ?_⟩⟩
      have kl : ks.length - 1 < ks.length := by omega
      have gk : gs.length - 1 < gs.length := by omega
      obtain ⟨yd, eyd, dy⟩ := O6.dk.get (List.getElem?_eq_getElem gk)
      rw [List.getElem?_map, gl, List.getElem?_eq_getElem kl] at eyd
      cases eyd
      have km := List.getElem_mem kl
      refine ⟨_, rfl, .inl ⟨rfl, _, .of O6.ep⟩, p, gs, _, rfl, rfl, O6.ep, List.getElem?_eq_getElem gk, ?_⟩
      have dl : DqAll K (out p H6) gs.dropLast (ks.dropLast.map Kd.dat) := by
        have h := O6.dk.take (gs.length - 1)
        rw [← List.map_take, gl, ← List.dropLast_eq_take] at h
        rw [List.dropLast_eq_take, gl]
        exact h
      have S7 := S6.set (vs := gs.dropLast) O6.ep n1 n2 n3
      have O7 := O6.set dl
      have dy7 := dy.same (out_set (w := p) (H := H6) (o := .lst gs.dropLast))
      generalize upd H6 p (.lst gs.dropLast) = H7 at S7 O7 dy7 ⊢
      have okd : ∀ x ∈ ks.dropLast, x.ok ∧ x.deep ≤ 3 := fun x hx => S.gv.ok x (List.dropLast_subset _ hx)
      have ld : ks.dropLast.length ≤ 9 := by rw [List.length_dropLast]; omega
      dsimp only [gName, tSeq, tIfS, tOr, tTest, tOp, tAsg, tDrop]
      refine told_var rfl rfl O7.dq (mm _ okd (by omega)) (by omega) O7.at okd (by omega) fun x8 H8 s8 r8 => ?_
      refine due_var rfl rfl (O7.same s8).dq (mm _ okd (by omega)) (by omega) (O7.same s8).at (by omega) fun y9 H9 s9 r9 => ?_
      refine TdR.ne (r8.same s9) r9 ⟨_, rfl, iteF' rfl ?_⟩
      have O9 := (O7.same s8).same s9
      have S9 := (S7.same s8).same s9
      have dy9 := dy7.same (out_same (s8.trans s9))
      have gdl : gs.dropLast.length ≤ 10 := by rw [List.length_dropLast]; omega
      refine ⟨_, rfl, .inl ⟨rfl, _, .of O9.ep⟩, _, rfl, p, gs.dropLast, 0, _, rfl, rfl, O9.ep, fits_lt (by omega), by decide, by decide, ?_⟩
      have S10 := S9.set (vs := gs.dropLast.take (0 : Int).toNat ++ [gs[gs.length - 1]] ++ gs.dropLast.drop (0 : Int).toNat) O9.ep n1 n2 n3
      have O10 := O9.set (vs := gs.dropLast.take (0 : Int).toNat ++ [gs[gs.length - 1]] ++ gs.dropLast.drop (0 : Int).toNat) (ms := ks[ks.length - 1] :: ks.dropLast) (.cons dy9 O9.dk)
      generalize upd H9 p (.lst (gs.dropLast.take (0 : Int).toNat ++ [gs[gs.length - 1]] ++ gs.dropLast.drop (0 : Int).toNat)) = H10 at S10 O10 ⊢
      have okc : ∀ x ∈ ks[ks.length - 1] :: ks.dropLast, x.ok ∧ x.deep ≤ 3 := fun x hx => by
        rcases List.mem_cons.mp hx with rfl | hx
        · exact S.gv.ok _ km
        · exact okd x hx
      have lc : (ks[ks.length - 1] :: ks.dropLast).length ≤ 10 := by rw [List.length_cons]; omega
      dsimp only [gName, tSeq, tIfS, tOr, tTest, tOp, tAsg, tDrop]
      refine told_var rfl rfl O10.dq (mm _ okc lc) (by omega) O10.at okc (by omega) fun x11 H11 s11 r11 => ?_
      refine due_var rfl rfl (O10.same s11).dq (mm _ okc lc) (by omega) (O10.same s11).at (by omega) fun y12 H12 s12 r12 => ?_
      exact TdR.ne (r11.same s12) r12 ⟨_, rfl, iteF' rfl ⟨_, _, _, _, rfl, (S10.same s11).same s12⟩⟩
    · rintro σ H2 ⟨o6, o7, o8, o9, rfl, S⟩
      exact ⟨l, xs, wl, g, v, t, k, ks, _, _, _, _, _, _, _, _, _, _, rfl, S, hn⟩
  case j6 =>
    rintro D σ H1 ⟨l, xs, wl, g, v, t, k, ks, o1, o4, o6, o7, o8, o9, o10, o11, o12, o13, rfl, S, hn⟩
    refine ⟨_, rfl, wl, 8, rfl, S.well, by decide, by decide, fun d0 H2 l0 u0 a2 => ⟨(by show 2 ≤ sizeLine; decide), fun p hp => ?_⟩⟩
    obtain ⟨d, rfl⟩ := Int.eq_ofNat_of_zero_le l0
    have S3 := (S.aft a2).aft ((Aft.refl a2.well).new hp (.tup [.str "base", .int (d : Nat)]))
    have y3 : Dq K (out wl (upd H2 p (.tup [.str "base", .int (d : Nat)]))) (.ref p) (Kd.b d).dat := (Aft.refl a2.well).lay (K := K) hp (xs := [.str "base", .int (d : Nat)]) (.cons (.str _) (.cons (.int _) .nil))
    generalize upd H2 p (.tup [.str "base", .int (d : Nat)]) = H3 at S3 y3 ⊢
    have hh := S.hi
    refine ⟨_, rfl, _, rfl, _, rfl, _, rfl, wl, g, .ref p, .b d, ks, 1, rfl, S3.well, y3, (by show d < 8; omega), by simp [Kd.deep], by decide, by simp [Kd.deep], by decide, S3.giv, S3.gv, by omega, fun t4 v4 H4 g4 q4 a4 => ?_⟩
    have S4 := S3.aft a4
    have y4 := y3.same a4.but
    have z0 : Dz t4 ks (.b d) 0 := by
      have h1 := g4.ht
      simp only [Kd.deep] at h1
      have h2 := good_md _ _ _ g4.jd
      have h3 := good_pow _ _ _ g4.jd g4.kd
      have p6 := Nat.pow_le_pow_right (n := 2) (by decide) (show t4.ht ≤ 6 by omega)
      exact ⟨g4.wf, g4.jd, by omega, g4.kd, by omega, by omega⟩
    refine ⟨_, rfl, _, rfl, wl, g, v4, .ref p, t4, .b d, ks, rfl, S4.well, q4, y4, (by show d < 8; omega), by simp [Kd.deep], z0, S4.giv, by omega, fun t5 v5 H5 z5 q5 a5 => ?_⟩
    have S5 := S4.aft a5
    have y5 := y4.same a5.but
    have ks3 : ∀ x ∈ ks, x.deep ≤ 3 := fun x hx => (S5.gv.ok x hx).2
    have e1 := z5.ht
    have e2 := z5.md
    have e3 := z5.sz
    have m5 : Tm1 t5 ks := tm1_of (M := 3) z5.wf ks3 z5.kd (by omega) (by omega)
    have mF : Tm1 (.fst t5) ks := tm1_of (M := 3) z5.wf ks3 z5.kd (by simp only [Trm.ht]; omega) (by simp only [Trm.md]; omega)
    dsimp only [tSeq, tIfS, tOr, tTest, tOp]
    refine told_var rfl rfl (q5.same (out_sub _ _)) m5 (by omega) S5.ksat S5.gv.ok (by omega) fun x H6 s6 r6 => ?_
    have S6 := S5.same s6
    rw [z5.jd] at r6
    refine ⟨_, rfl, TdR.ne r6 (.inr ⟨.b d, rfl, (y5.same (out_sub _ _)).same s6, by simp [Kd.deep]⟩) ⟨_, rfl, iteF' rfl ?_⟩⟩
    have q6 := q5.same ((Aft.refl S5.well).stay s6).but
    refine told_tup (t := .fst t5) (ks := ks) rfl rfl mF (by simp only [Trm.dat, sz, szs]; omega) S6.gv.ok (by omega) (fun p7 hp7 => ?_) fun p7 hp7 x2 H8 s8 r8 => ?_
    · have y7 : Dq K (out wl (upd H6 p7 (.tup [.str "first", v5]))) (.ref p7) (Trm.fst t5).dat := (Aft.refl S6.well).lay (K := K) hp7 (xs := [.str "first", v5]) (.cons (.str _) (.cons q6 .nil))
      exact ⟨y7.same (out_sub _ _), (S6.aft ((Aft.refl S6.well).new hp7 (.tup [.str "first", v5]))).ksat⟩
    have S7 := S6.aft ((Aft.refl S6.well).new hp7 (.tup [.str "first", v5]))
    rw [show (Trm.fst t5).jd ks = none by simp [Trm.jd, z5.jd, half]] at r8
    exact TdR.ne r8 (.inl ⟨rfl, rfl⟩) ⟨_, rfl, iteF' rfl ⟨l, xs, wl, g, v, t, k, ks, _, _, _, _, _, _, _, _, _, _, rfl, S7.same s8, hn⟩⟩
  case j9 =>
    rintro D σ H1 ⟨l, xs, wl, g, v, t, k, ks, o1, o4, o6, o7, o8, o9, o10, o11, o12, o13, rfl, S, hn⟩
    refine ⟨_, rfl, _, rfl, wl, .ref g, rfl, S.well, fun d u H2 d8 q2 a2 => ?_⟩
    have S2 := S.aft a2
    have hl := S.lo
    have hh := S.hi
    obtain ⟨k2, jd2⟩ := long_jd d 80 ks (by omega)
    obtain ⟨e1, e2, e3, e4, e5⟩ := long_ht d 80
    have ks3 : ∀ x ∈ ks, x.deep ≤ 3 := fun x hx => (S.gv.ok x hx).2
    have m2 : Tm1 (longT d 80) ks := ⟨e5, long_few d 80 ks ks3 (by omega), .inr ⟨k2, jd2, by have := Trm.jd_deep _ ks k2 ks3 (by omega) jd2; omega⟩⟩
    dsimp only [tSeq, tIfS, tOr, tTest, tOp]
    refine told_var rfl rfl (q2.same (out_sub _ _)) m2 (by omega) S2.ksat S2.gv.ok (by omega) fun x H3 s3 r3 => ?_
    have S3 := S2.same s3
    rw [jd2] at r3
    refine jd_var rfl rfl ((q2.same (out_sub _ _)).same s3) m2 (by omega) S3.ksat (by omega) jd2 fun y H4 s4 r4 => ?_
    exact TdR.ne (r3.same s4) r4 ⟨_, rfl, iteF' rfl ⟨l, xs, wl, g, v, t, k, ks, _, _, _, _, _, _, _, _, _, _, rfl, S3.same s4, hn⟩⟩
  case j11 =>
    rintro D σ H1 ⟨l, xs, wl, g, v, t, k, ks, o1, o4, o6, o7, o8, o9, o10, o11, o12, o13, rfl, S, hn⟩
    obtain ⟨gs, eg, gl, ga⟩ := S.at
    have k3 : ∀ x ∈ ks, x.deep ≤ 3 := fun x hx => (S.gv.ok x hx).2
    have khi := S.hi
    have z3 := ks_sz k3
    have tsz := S.size
    have B0 : BvS K wl H1 H1 [] := ⟨Aft.refl S.well, fun x h => by cases h⟩
    have B1 := B0.more (x := .non) (e := .none) rfl (by simp [sz]) .non
    refine ⟨_, rfl, g, gs, rfl, .inl ⟨.of eg, fun p1 hp1 => ?_⟩⟩
    have B2 := (B1.new hp1 (.tup gs)).more (e := .tuple (ks.map Kd.dat)) rfl (by simp only [sz]; omega) (.tup (.of (S.well.laid hp1 (.tup gs))) (ga.same (out_new hp1 (.tup gs))))
    refine ⟨_, rfl, (by show 1 ≤ sizeLine; decide), fun q3 hq3 => (B2.new hq3 _).cat eg S.ng ga k3 khi upd_same .non (by simp [isKd]) (by simp [sz]) fun p3 hp3 B3 => ?_⟩
    refine ⟨_, rfl, (by show 2 ≤ sizeLine; decide), fun t4 ht4 => ⟨(by show 1 ≤ sizeLine; decide), fun q4 hq4 => ?_⟩⟩
    have y4 : Dq K _ (.ref t4) (.tuple [.str "base", .int 8]) := (B3.aft.lay (K := K) ht4 (xs := [.str "base", .int 8]) (.cons (.str _) (.cons (.int _) .nil))).same (out_new (w := wl) hq4 (.lst [.ref t4]))
    refine ((B3.new ht4 _).new hq4 _).cat eg S.ng ga k3 khi upd_same y4 (by decide +kernel) (by simp [sz, szs]) fun p4 hp4 B4 => ?_
    refine ⟨_, rfl, (by show 2 ≤ sizeLine; decide), fun t5 ht5 => ⟨(by show 1 ≤ sizeLine; decide), fun q5 hq5 => ?_⟩⟩
    have y5 : Dq K _ (.ref t5) (.tuple [.str "base", .bool true]) := (B4.aft.lay (K := K) ht5 (xs := [.str "base", .bl true]) (.cons (.str _) (.cons (.bl _) .nil))).same (out_new (w := wl) hq5 (.lst [.ref t5]))
    refine ((B4.new ht5 _).new hq5 _).cat eg S.ng ga k3 khi upd_same y5 (by decide +kernel) (by simp [sz, szs]) fun p5 hp5 B5 => ?_
    have B6 := B5.more (x := .str "given") (e := .str "given") rfl (by simp [sz]) (.str _)
    refine fun p7 hp7 => ?_
    have B7 := (B6.new hp7 (.dK [])).more (x := .ref p7) (e := .dict []) rfl (by simp [sz]) (.dct (B6.aft.well.laid hp7 _))
    have B8 := B7.more (x := .int 3) (e := .int 3) rfl (by simp [sz]) (.int _)
    refine ⟨(by show 8 ≤ sizeLine; decide), fun sl hsl => ?_⟩
    have B9 := B8.new hsl (.lst [.non, .ref p1, .ref p3, .ref p4, .ref p5, .str "given", .ref p7, .int 3])
    have e9 := B8.laid hsl (.lst [.non, .ref p1, .ref p3, .ref p4, .ref p5, .str "given", .ref p7, .int 3])
    have n9 : sl ≠ wl := B8.aft.well.ne hsl
    refine ⟨_, rfl, _, rfl, wl, 8, rfl, B9.aft.well, by decide, by decide, fun di H10 l10 u10 a10 => ?_⟩
    obtain ⟨i, rfl⟩ := Int.eq_ofNat_of_zero_le l10
    have B10 := B9.aft' a10
    have hi : i < ([.non, .ref p1, .ref p3, .ref p4, .ref p5, .str "given", .ref p7, .int 3] : List V).length := by simp only [List.length_cons, List.length_nil]; omega
    obtain ⟨e, ne, ze, de⟩ := B10.bad _ (List.getElem_mem hi)
    refine ixLi (.of (a10.at_ n9 e9)) (List.getElem?_eq_getElem hi) ?_
    have S10 := S.aft B10.aft
    generalize ([.non, .ref p1, .ref p3, .ref p4, .ref p5, .str "given", .ref p7, .int 3] : List V)[i] = sv at de ⊢
    dsimp only [gName, tSeq, tIfS, tOr, tTest, tOp, tAsg, tDrop]
    refine none_var rfl rfl S10.dq (de.same (out_sub _ _)) (by omega) ze ne fun H11 s11 => ?_
    refine .inl ⟨rfl, _, rfl, iteF' (by decide) ?_⟩
    refine none_non rfl ((de.same (out_sub _ _)).same s11) ze ne fun H12 s12 => ?_
    exact .inl ⟨rfl, _, rfl, iteF' (by decide) (hn _ _ _ _ _ _ _ _ _ _ _ _ _ _ ((S10.same s11).same s12).el)⟩
  case first =>
    refine ⟨(by show 2 ≤ sizeLine; decide), fun p hp => ?_⟩
    have hS2 : SqL K (upd H p (.lst [.int 0, .int 3])) a (ns.map V.int) := (same_new hp _).seq hS
    refine ⟨_, rfl, _, rfl, .inl ⟨a, _, rfl, hS2, fun p2 hp2 => ?_⟩⟩
    have e1 : upd (upd H p (.lst [.int 0, .int 3])) p2 (.lst (cutV (ns.map V.int) none (some 8))) p = some (.lst [.int 0, .int 3]) := by rw [upd_ne (ne_of_none upd_same hp2)]; exact upd_same
    have hcl := cutV_length (ns.map V.int) none (some 8)
    rw [List.length_map] at hcl
    refine .inr (.inr (.inl ⟨p, p2, _, _, rfl, rfl, e1, upd_same, fits (by simp only [List.length_cons, List.length_nil]; omega), fun l hl' => ⟨l, rfl, ⟨_, .of upd_same⟩, ?_⟩⟩))
    generalize hxs : [V.int 0, V.int 3] ++ cutV (ns.map V.int) none (some 8) = xs
    have hint : ∀ x ∈ xs, ∃ i : Int, x = .int i := fun x h => by
      rw [← hxs] at h
      rcases List.mem_append.mp h with h | h
      · simp only [List.mem_cons, List.not_mem_nil, or_false] at h
        rcases h with rfl | rfl
        · exact ⟨0, rfl⟩
        · exact ⟨3, rfl⟩
      · exact cut_ints ns _ _ x h
    refine for_list (K := K) (a := l) (xs := xs) (fun _ σ H' => ∃ (o1 o2 o3 o4 o5 o6 o7 o8 o9 o10 o11 o12 o13 : Option V), σ = [some (.ref a), o1, o2, o3, o4, o5, o6, o7, o8, o9, o10, o11, o12, o13] ∧ H' l = some (.lst xs)) ⟨_, _, _, _, _, _, _, _, _, _, _, _, _, rfl, upd_same⟩ ?_ ?_ ?_
    · rintro i σ H5 _ ⟨o1, o2, o3, o4, o5, o6, o7, o8, o9, o10, o11, o12, o13, rfl, e⟩
      exact .of e
    · rintro i x σ H5 hx ⟨o1, o2, o3, o4, o5, o6, o7, o8, o9, o10, o11, o12, o13, rfl, e⟩
      obtain ⟨z, rfl⟩ := hint x (List.mem_of_getElem? hx)
      refine ⟨_, rfl, z, rfl, fun wl x y z' hpw => ?_⟩
      have nl := ne_of_none e hpw
      have e6 : upd H5 wl (.lst [.int x, .int y, .int z']) l = some (.lst xs) := by rw [upd_ne nl]; exact e
      have w6 : Well (upd H5 wl (.lst [.int x, .int y, .int z'])) wl := ⟨x, y, z', upd_same⟩
      generalize upd H5 wl (.lst [.int x, .int y, .int z']) = H6 at e6 w6 ⊢
      refine ⟨_, rfl, wl, rfl, w6, fun g ks H7 gv lo hi hG ng a7 => ?_⟩
      refine ⟨_, rfl, wl, 2, rfl, a7.well, by decide, fun k kv H8 ok kd dk a8 => ?_⟩
      refine ⟨_, rfl, _, rfl, _, rfl, _, rfl, wl, g, kv, k, ks, 1, rfl, a8.well, dk, ok, by omega, by decide, by omega, by decide, hG.same a8.but, gv, by omega, fun t v H9 tg dq a9 => ?_⟩
      have tht := tg.ht
      refine ⟨_, rfl, wl, g, v, t, k, ks, rfl, a9.well, dq, ⟨tg.wf, tg.jd, Nat.le_refl _, tg.kd⟩, by omega, (hG.same a8.but).same a9.but, gv, by omega, fun t2 v2 H10 z2 zz d2 a10 => ?_⟩
      have S10 : L51 K l xs wl g H10 v2 t2 k ks := ⟨(((a7.trans a8).trans a9).trans a10).at_ nl e6, nl, ng, a10.well, d2, z2, zz, ((hG.same a8.but).same a9.but).same a10.but, gv, lo, hi⟩
      have dk10 := ((dk.same a9.but).same a10.but).same (out_sub wl H10)
      have tdp := S10.deep
      dsimp only [gName, tSeq, tIfS, tOr, tTest, tOp, tAsg, tDrop]
      refine told_var rfl rfl S10.dq S10.tm (by omega) S10.ksat gv.ok (by omega) fun x11 H11 s11 r11 => ?_
      rw [z2.jd] at r11
      refine ⟨_, rfl, TdR.ne r11 (.inr ⟨k, rfl, dk10.same s11, by omega⟩) ⟨_, rfl, iteF' rfl ?_⟩⟩
      refine jd_var rfl rfl (S10.same s11).dq S10.tm (by omega) (S10.same s11).ksat (by omega) z2.jd fun x12 H12 s12 r12 => ?_
      exact ⟨_, rfl, TdR.ne r12 (.inr ⟨k, rfl, (dk10.same s11).same s12, by omega⟩) ⟨_, rfl, iteF' rfl ⟨l, xs, wl, g, v2, t2, k, ks, _, _, _, _, _, _, _, _, _, _, rfl, (S10.same s11).same s12, fun o1 o2 o3 o4 o5 o6 o7 o8 o9 o10 o11 o12 o13 H' e => ⟨o1, o2, o3, o4, o5, o6, o7, o8, o9, o10, o11, o12, o13, rfl, e⟩⟩⟩⟩
    · rintro σ H5 ⟨o1, o2, o3, o4, o5, o6, o7, o8, o9, o10, o11, o12, o13, rfl, e⟩
      exact q H5
end

section
variable {P : Program} {w : World} {K : PySem.W.Frag} {mg : Str → Option Value} {base : Heap} {CN CT CP CE CO CW : Addr}
theorem law_fn {l : PySem.W.OpenLaw} {fa : Addr} (hfa : mg "law" = some (.ref fa)) (A : At K mg "law" s_law) (h : ∀ (f : Addr) (fd : FuncData), Fun K "law" "law" s_law f fd → ∀ base : Heap, FnOk l.prog w K mg base CX0 203 f fd ["script"] (spLaw K)) :
    ∃ fd : FuncData, (∀ (s : Shared) (v : Value), BindsTo s fd ⟨[v], []⟩ [("script", v)]) ∧ ∀ base : Heap, K.In base → base.Ns mainGlobals mg → FnOk l.prog w K mg base CX0 203 fa fd ["script"] (spLaw K) := by
  obtain ⟨f, fd, F, m⟩ := A
  have e := hfa.symm.trans m
  cases e
  obtain ⟨oc, od, kV, doc, pm, an, cdv, ct, osl, rfl, lk, hcd⟩ := id F.ex
  exact ⟨_, fun s v => .of_eq rfl, fun base _ _ => h _ _ F base⟩
theorem law_end {l : PySem.W.OpenLaw} {fa : Addr} (hfa : mg "law" = some (.ref fa)) (T : Txt K mg w CN CT) (R : TxT K mg w CP CE) (E : TxE K mg CN CE CO CW) (A_is_base_number : At K mg "is_base_number" s_is_base_number) (A_is_kind : At K mg "is_kind" s_is_kind) (A__is_kind_but_for_parts : At K mg "_is_kind_but_for_parts" s_is_kind_but_for_parts) (A_need_kind : At K mg "need_kind" s_need_kind) (A_read_term : At K mg "read_term" s_read_term) (A__pieces : At K mg "_pieces" s_pieces) (A__part : At K mg "_part" s_part) (A__needs_of_parts : At K mg "_needs_of_parts" s_needs_of_parts) (A__given_part : At K mg "_given_part" s_given_part) (A__kind_by_parts : At K mg "_kind_by_parts" s_kind_by_parts) (A_term_kind : At K mg "term_kind" s_term_kind) (A_need_kinds : At K mg "need_kinds" s_need_kinds) (A__law_well : At K mg "_law_well" s_law_well) (A__law_draw : At K mg "_law_draw" s_law_draw) (A__law_kind : At K mg "_law_kind" s_law_kind) (A__law_ways : At K mg "_law_ways" s_law_ways) (A__law_flat : At K mg "_law_flat" s_law_flat) (A__law_lift : At K mg "_law_lift" s_law_lift) (A__law_kind_of : At K mg "_law_kind_of" s_law_kind_of) (A__law_wrapped : At K mg "_law_wrapped" s_law_wrapped) (A__law_grown : At K mg "_law_grown" s_law_grown) (A__law_size : At K mg "_law_size" s_law_size) (A__law_height : At K mg "_law_height" s_law_height) (A__law_some : At K mg "_law_some" s_law_some) (A__law_given : At K mg "_law_given" s_law_given) (A__law_good_kind : At K mg "_law_good_kind" s_law_good_kind) (A__law_judged : At K mg "_law_judged" s_law_judged) (A__law_odd : At K mg "_law_odd" s_law_odd) (A__law_deep : At K mg "_law_deep" s_law_deep) (A__law_long : At K mg "_law_long" s_law_long) (A__law_told : At K mg "_law_told" s_law_told) (A__law_due : At K mg "_law_due" s_law_due) (A_law : At K mg "law" s_law) :
    ∃ fd : FuncData, (∀ (s : Shared) (v : Value), BindsTo s fd ⟨[v], []⟩ [("script", v)]) ∧ ∀ base : Heap, K.In base → base.Ns mainGlobals mg → FnOk l.prog w K mg base CX0 203 fa fd ["script"] (spLaw K) :=
  law_fn hfa A_law fun f fd F base => by
    have Cb := ok_is_base_number (P := l.prog) (base := base) A_is_base_number T
    have Cs := ok_is_kind_but_for_parts A__is_kind_but_for_parts T Cb
    have Ci := ok_is_kind A_is_kind T Cs
    have Cn := ok_need_kind A_need_kind T Ci
    have Cpi := ok_pieces A__pieces R Ci
    have Cgi := ok_given (P := l.prog) (base := base) A__given_part R
    have Cnp := ok_np (P := l.prog) (base := base) A__needs_of_parts R
    have Ckb := ok_kbp (P := l.prog) (base := base) A__kind_by_parts R
    have Cpa := ok_part A__part R Cgi Cnp Ckb
    have Crd := ok_read A_read_term R Cpi Cpa
    have Cnk := ok_nks A_need_kinds T Cn
    have Ctk := ok_tk A_term_kind R Cnk Crd
    have Cw := ok_well (P := l.prog) (base := base) A__law_well T
    have Cd := ok_draw (P := l.prog) (base := base) A__law_draw T
    have Ck := ok_kind A__law_kind T Cd 3
    have Cgk := ok_gk (P := l.prog) (base := base) A__law_good_kind T 100
    have Cjd := ok_jd A__law_judged T Cgk 100
    have Cto := ok_told A__law_told E Ctk
    have Cdu := ok_due A__law_due T Cjd
    have Cko := ok_ko (P := l.prog) (base := base) A__law_kind_of T 62
    have Cli := ok_lift (P := l.prog) (base := base) A__law_lift T
    have Cwy := ok_ways (P := l.prog) (base := base) A__law_ways T 5
    have Cfl := ok_flat A__law_flat T Cd Cwy 8
    have Cwr := ok_wr A__law_wrapped T Cd Cko (Cli 62) Ck Cfl
    have Cgr := ok_gr A__law_grown T Cwr 9
    have Csz := ok_size (P := l.prog) (base := base) A__law_size T 72
    have Cht := ok_height (P := l.prog) (base := base) A__law_height T 72
    have Cso := ok_some A__law_some T Cgr Csz Cht
    have Cgv := ok_given51 A__law_given T Cd Ck
    have Cod := ok_odd A__law_odd T Cd 80
    have Cde := ok_deep A__law_deep T Cd (Cli 90)
    have Clo := ok_long A__law_long T Cd
    exact ok_law F T Cw Cd Cgv Ck Cfl Cso Cto Cjd Cdu Cod Cde Clo
end
theorem walk {l : PySem.W.OpenLaw} {q : Program} {loose : List Str} {XP : (Str → Option Value) → Heap → Prop} {YP : World → Heap → Prop} {d : DefRec} {K : Params → PySem.W.Frag} (hn : l.most = some 63) (hdf : d.params.defaults = [])
    (hY : ∀ (w : World) (h : Heap), YP w h → (K w.params).In h)
    (F : ∀ (w : World) (mg : Str → Option Value) (fa : Addr) (h : Heap), (K w.params).In h → h.Ns mainGlobals mg → mg d.name = some (.ref fa) →
      ∃ fd : FuncData, (∀ (s : Shared) (u : Value), BindsTo s fd ⟨[u], []⟩ [("script", u)]) ∧ ∀ base : Heap, (K w.params).In base → base.Ns mainGlobals mg → FnOk l.prog w (K w.params) mg base CX0 203 fa fd ["script"] (spLaw (K w.params))) :
    PySem.W.WalkO q loose XP YP l.row.toRowW d [] (fun f vs => PySem.call f vs) :=
  L2.walk_of (n := 63) (k := 203) (x := "script") (CX := fun _ => CX0) (sp := fun w => spLaw (K w.params)) hn (by decide) hdf ⟨rfl, by decide, by decide⟩ hY F (fun _ _ a ns hl _ hS => ⟨a, ns, rfl, hS, hl, fun _ => rfl⟩) fun _ _ _ _ _ z => z
end KW
open PySem PySem.W PyProof.Rows in
set_option maxRecDepth 100000 in
set_option maxHeartbeats 0 in
theorem PySem.Challenge.cw_kindswap_k51_kinds_of_terms_holds : PySem.Challenge.rw_kindswap_k51_kinds_of_terms.Holds := by
  w_on; o_law; k_head; (case hw => w_witness2)
  k_fill
  refine KW.walk (l := PySem.Challenge.rw_kindswap_k51_kinds_of_terms) rfl rfl (fun w h Y => by first | exact PySem.W.kIn_of Y | exact PySem.W.km_in_of Y) ?F
  case F =>
    intro w mg fa h KX G hmg
    have A_is_base_number := KB.at_mk (x := "is_base_number") (st := KW.s_is_base_number) KX G (by k_is) (by k_is) (by k_is) (by k_is)
    have A_is_kind := KB.at_mk (x := "is_kind") (st := KW.s_is_kind) KX G (by k_is) (by k_is) (by k_is) (by k_is)
    have A__is_kind_but_for_parts := KB.at_mk (x := "_is_kind_but_for_parts") (st := KW.s_is_kind_but_for_parts) KX G (by k_is) (by k_is) (by k_is) (by k_is)
    have A_need_kind := KB.at_mk (x := "need_kind") (st := KW.s_need_kind) KX G (by k_is) (by k_is) (by k_is) (by k_is)
    have A_read_term := KB.at_mk (x := "read_term") (st := KW.s_read_term) KX G (by k_is) (by k_is) (by k_is) (by k_is)
    have A__pieces := KB.at_mk (x := "_pieces") (st := KW.s_pieces) KX G (by k_is) (by k_is) (by k_is) (by k_is)
    have A__part := KB.at_mk (x := "_part") (st := KW.s_part) KX G (by k_is) (by k_is) (by k_is) (by k_is)
    have A__needs_of_parts := KB.at_mk (x := "_needs_of_parts") (st := KW.s_needs_of_parts) KX G (by k_is) (by k_is) (by k_is) (by k_is)
    have A__given_part := KB.at_mk (x := "_given_part") (st := KW.s_given_part) KX G (by k_is) (by k_is) (by k_is) (by k_is)
    have A__kind_by_parts := KB.at_mk (x := "_kind_by_parts") (st := KW.s_kind_by_parts) KX G (by k_is) (by k_is) (by k_is) (by k_is)
    have A_term_kind := KB.at_mk (x := "term_kind") (st := KW.s_term_kind) KX G (by k_is) (by k_is) (by k_is) (by k_is)
    have A_need_kinds := KB.at_mk (x := "need_kinds") (st := KW.s_need_kinds) KX G (by k_is) (by k_is) (by k_is) (by k_is)
    have A__law_well := KB.at_mk (x := "_law_well") (st := KW.s_law_well) KX G (by k_is) (by k_is) (by k_is) (by k_is)
    have A__law_draw := KB.at_mk (x := "_law_draw") (st := KW.s_law_draw) KX G (by k_is) (by k_is) (by k_is) (by k_is)
    have A__law_kind := KB.at_mk (x := "_law_kind") (st := KW.s_law_kind) KX G (by k_is) (by k_is) (by k_is) (by k_is)
    have A__law_ways := KB.at_mk (x := "_law_ways") (st := KW.s_law_ways) KX G (by k_is) (by k_is) (by k_is) (by k_is)
    have A__law_flat := KB.at_mk (x := "_law_flat") (st := KW.s_law_flat) KX G (by k_is) (by k_is) (by k_is) (by k_is)
    have A__law_lift := KB.at_mk (x := "_law_lift") (st := KW.s_law_lift) KX G (by k_is) (by k_is) (by k_is) (by k_is)
    have A__law_kind_of := KB.at_mk (x := "_law_kind_of") (st := KW.s_law_kind_of) KX G (by k_is) (by k_is) (by k_is) (by k_is)
    have A__law_wrapped := KB.at_mk (x := "_law_wrapped") (st := KW.s_law_wrapped) KX G (by k_is) (by k_is) (by k_is) (by k_is)
    have A__law_grown := KB.at_mk (x := "_law_grown") (st := KW.s_law_grown) KX G (by k_is) (by k_is) (by k_is) (by k_is)
    have A__law_size := KB.at_mk (x := "_law_size") (st := KW.s_law_size) KX G (by k_is) (by k_is) (by k_is) (by k_is)
    have A__law_height := KB.at_mk (x := "_law_height") (st := KW.s_law_height) KX G (by k_is) (by k_is) (by k_is) (by k_is)
    have A__law_some := KB.at_mk (x := "_law_some") (st := KW.s_law_some) KX G (by k_is) (by k_is) (by k_is) (by k_is)
    have A__law_given := KB.at_mk (x := "_law_given") (st := KW.s_law_given) KX G (by k_is) (by k_is) (by k_is) (by k_is)
    have A__law_good_kind := KB.at_mk (x := "_law_good_kind") (st := KW.s_law_good_kind) KX G (by k_is) (by k_is) (by k_is) (by k_is)
    have A__law_judged := KB.at_mk (x := "_law_judged") (st := KW.s_law_judged) KX G (by k_is) (by k_is) (by k_is) (by k_is)
    have A__law_odd := KB.at_mk (x := "_law_odd") (st := KW.s_law_odd) KX G (by k_is) (by k_is) (by k_is) (by k_is)
    have A__law_deep := KB.at_mk (x := "_law_deep") (st := KW.s_law_deep) KX G (by k_is) (by k_is) (by k_is) (by k_is)
    have A__law_long := KB.at_mk (x := "_law_long") (st := KW.s_law_long) KX G (by k_is) (by k_is) (by k_is) (by k_is)
    have A__law_told := KB.at_mk (x := "_law_told") (st := KW.s_law_told) KX G (by k_is) (by k_is) (by k_is) (by k_is)
    have A__law_due := KB.at_mk (x := "_law_due") (st := KW.s_law_due) KX G (by k_is) (by k_is) (by k_is) (by k_is)
    have A_law := KB.at_mk (x := "law") (st := KW.s_law) KX G (by k_is) (by k_is) (by k_is) (by k_is)
    have D1 := KB.ds_mk (x := "SIGN_OF_WORD") (w := w) (kvs := [("both", .str "*"), ("from", .str ">")]) KX G (by k_is) (by k_is) (by exact ⟨⟨_, _, rfl, rfl⟩, ⟨_, _, rfl, rfl⟩, trivial⟩) (by first | rfl | decide) (by exact .cons ⟨_, rfl⟩ (.cons ⟨_, rfl⟩ .nil))
    have D2 := KB.ds_mk (x := "LENGTHS") (w := w) (kvs := [("given", .int 2), ("make", .int 3), ("do", .int 3), ("both", .int 3), ("first", .int 2), ("second", .int 2), ("unit", .int 1)]) KX G (by k_is) (by k_is) (by exact ⟨⟨_, _, rfl, rfl⟩, ⟨_, _, rfl, rfl⟩, ⟨_, _, rfl, rfl⟩, ⟨_, _, rfl, rfl⟩, ⟨_, _, rfl, rfl⟩, ⟨_, _, rfl, rfl⟩, ⟨_, _, rfl, rfl⟩, trivial⟩) (by first | rfl | decide) (by exact .cons ⟨_, rfl⟩ (.cons ⟨_, rfl⟩ (.cons ⟨_, rfl⟩ (.cons ⟨_, rfl⟩ (.cons ⟨_, rfl⟩ (.cons ⟨_, rfl⟩ (.cons ⟨_, rfl⟩ .nil)))))))
    have E1 := KB.exc_mk (x := "NoKind") KX G (by k_is) (by k_exc) (by k_is) (by k_is) (by k_is) (by k_is) (by first | rfl | k_is)
    have E2 := KB.exc_mk (x := "NoTerm") KX G (by k_is) (by k_exc) (by k_is) (by k_is) (by k_is) (by k_is) (by first | rfl | k_is)
    have X1 := KB.excC_mk (x := "NoKind") KX E1 (by k_is) (by k_is) (by k_is) (by k_is) (by k_is) (by k_is) (by k_is) (by k_is)
    have X2 := KB.excC_mk (x := "NoTerm") KX E2 (by k_is) (by k_is) (by k_is) (by k_is) (by k_is) (by k_is) (by k_is) (by k_is)
    have C3 := KB.cls_mk (x := "NoWorth") KX G (by k_is)
    have C4 := KB.cls_mk (x := "SwapError") KX G (by k_is)
    have gP := KB.cls_mk (x := "Part") KX G (by k_is)
    have CLS := KB.cls_of KX gP (by k_is) (by k_is) (by k_is) (by k_is)
    have n1 := KB.noattr_of (f := "word") KX gP (by k_is)
    have n2 := KB.noattr_of (f := "kind") KX gP (by k_is)
    have n3 := KB.noattr_of (f := "parts") KX gP (by k_is)
    have n4 := KB.noattr_of (f := "number") KX gP (by k_is)
    have n5 := KB.noattr_of (f := "needs") KX gP (by k_is)
    have MK := KB.makes_of (q := "Part.__init__") (st := KW.s_Part___init__) KX gP (by k_is) (by k_is) (by k_is) (by k_is) (by k_is) (by k_is) (by k_is)
    have g1 : ∃ t, mg "BASE_LETTERS" = some (.str "abcdefgh" t) := ⟨_, PySem.W.mg_of KX G (by k_is)⟩
    have T : KW.Txt _ mg w _ 0 := ⟨PySem.W.mg_none_of KX G (by k_is), PySem.W.mg_none_of KX G (by k_is), PySem.W.mg_none_of KX G (by k_is), PySem.W.mg_none_of KX G (by k_is), PySem.W.mg_none_of KX G (by k_is), PySem.W.mg_none_of KX G (by k_is), PySem.W.mg_none_of KX G (by k_is), PySem.W.mg_none_of KX G (by k_is), PySem.W.mg_none_of KX G (by k_is), PySem.W.mg_none_of KX G (by k_is), PySem.W.mg_none_of KX G (by k_is), PySem.W.mg_none_of KX G (by k_is), PySem.W.mg_none_of KX G (by k_is), g1, D1, E1⟩
    have R : KW.TxT _ mg w _ _ := ⟨PySem.W.mg_none_of KX G (by k_is), PySem.W.mg_none_of KX G (by k_is), PySem.W.mg_none_of KX G (by k_is), PySem.W.mg_none_of KX G (by k_is), PySem.W.mg_none_of KX G (by k_is), PySem.W.mg_none_of KX G (by k_is), PySem.W.mg_none_of KX G (by k_is), D2, gP, CLS, n1, n2, n3, n4, n5, MK, E2⟩
    have E : KW.TxE _ mg _ _ _ _ := ⟨PySem.W.mg_none_of KX G (by k_is), E2.g, E1.g, C3, C4, X2, X1, by first | rfl | decide +kernel, by first | rfl | decide +kernel⟩
    exact KW.law_end hmg T R E A_is_base_number A_is_kind A__is_kind_but_for_parts A_need_kind A_read_term A__pieces A__part A__needs_of_parts A__given_part A__kind_by_parts A_term_kind A_need_kinds A__law_well A__law_draw A__law_kind A__law_ways A__law_flat A__law_lift A__law_kind_of A__law_wrapped A__law_grown A__law_size A__law_height A__law_some A__law_given A__law_good_kind A__law_judged A__law_odd A__law_deep A__law_long A__law_told A__law_due A_law
namespace KW

end KW
