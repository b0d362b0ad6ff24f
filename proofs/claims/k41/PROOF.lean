import PyProof.Rows.All
import Wide.All
import OpenK.AllK
import Wide.FinOn
import HandS.ForMost
import HandS.More
import HandS.NoneIn
import HandS.Deep
import HandS.ForExc
import HandS.ExcIs
import HandS.StrMore
import HandS.IsInst
import HandS.TryMany
import HandS.Style
import HandS.SortOrd
import HandS.SortRule
import KE.LtSeq
import HandS.Lambda
import HandS.EndOwn
import KE.KExcIs
import HandS.ExcInit
import HandS.ExcField
import HandS.ExcValue
import HandS.Small
import HandS.SetFor
import HandS.Walk
import HandS.Wide
import HandS.AnyAll
import HandS.JoinGen
import HandS.TupMul
import HandS.Conv
import HandS.EndTab
import HandS.TupAny
import HandS.WideBits
import HandS.Gcd
import HandS.Flow
import HandS.Iter
import Flt.RightSqrt
import HandS.SetBool
import HandS.Strs
import HandS.TupSets
import KE.KeyNested
import KE.SortData
import KE.DataCmp
import PySem.Challenge.RW_kindswap_k41_all_worths
set_option Elab.async false
set_option linter.all false
set_option maxRecDepth 100000
set_option maxHeartbeats 4000000
namespace KB
open PySem PySem.Spec PyProof.Rows L2

/-! ## rules of one's own, wide ones: each serves all kinds of operands that the program has -/
section
variable {X : Cx}
/-- == of data nested up to 190 deep -/
def rEqX (K : PySem.W.Frag) : R2 := fun x y H Q => ∃ d e, Dp K H x d ∧ Dp K H y e ∧ d.canLay0 = true ∧ e.canLay0 = true ∧ min d.depth e.depth ≤ 190 ∧ Q (.bl (PyData.eqv d e)) H
def rNeX (K : PySem.W.Frag) : R2 := fun x y H Q => ∃ d e, Dp K H x d ∧ Dp K H y e ∧ d.canLay0 = true ∧ e.canLay0 = true ∧ min d.depth e.depth ≤ 190 ∧ Q (.bl (!PyData.eqv d e)) H
theorem op_eqX (hu : X.A.units + 200 < cLine) : OpR X (compareOp .Eq) (rEqX X.K) := by
  intro pins s σ H x y v u Q I rx ry ⟨d, e, hd, he, cd, ce, hm, q⟩
  obtain ⟨as, r1⟩ := Dp.reads I d x v hd rx
  obtain ⟨bs, r2⟩ := Dp.reads I e y u he ry
  exact SeqAt.compareEq_reads r1 r2 cd ce (by omega) ⟨.bl _, H, I, rfl, q⟩
theorem op_neX (hu : X.A.units + 200 < cLine) : OpR X (compareOp .NotEq) (rNeX X.K) := by
  intro pins s σ H x y v u Q I rx ry ⟨d, e, hd, he, cd, ce, hm, q⟩
  obtain ⟨as, r1⟩ := Dp.reads I d x v hd rx
  obtain ⟨bs, r2⟩ := Dp.reads I e y u he ry
  exact SeqAt.compareNe_reads r1 r2 cd ce (by omega) ⟨.bl _, H, I, rfl, q⟩
def rEqA (K : PySem.W.Frag) : R2 := fun x y H Q => rEq x y H Q ∨ rEqX K x y H Q
def rNeA (K : PySem.W.Frag) : R2 := fun x y H Q => rNe x y H Q ∨ rNeX K x y H Q
theorem op_eqA (hu : X.A.units + 200 < cLine) : OpR X (compareOp .Eq) (rEqA X.K) := op_eq.or (op_eqX hu)
theorem op_neA (hu : X.A.units + 200 < cLine) : OpR X (compareOp .NotEq) (rNeA X.K) := op_ne.or (op_neX hu)
theorem room200 {k : Nat} {A : Around} (r : Room k A) : A.units + 200 < cLine := by have := r.un; omega

def rAddA (K : PySem.W.Frag) : R2 := fun x y H Q =>
  (rI0 fun i j => .int (i + j)) x y H Q ∨ (∃ i j, x = .str i ∧ y = .str j ∧ i.length + j.length ≤ sizeLine ∧ Q (.str (i ++ j)) H) ∨ rCat x y H Q ∨ rCatT K x y H Q
theorem op_addA : OpR X (binaryOp .Add) (rAddA X.K) := op_add.or (op_add_str.or (op_cat.or op_catT))
def rMulA : R2 := fun x y H Q => (rI CMul fun i j => .int (i * j)) x y H Q ∨ rRep x y H Q
theorem op_mulA : OpR X (binaryOp .Mult) rMulA := op_mul.or op_rep
def rIxA (K : PySem.W.Frag) (w : World) : R2 := fun x y H Q => rIx K x y H Q ∨ rIxD K w x y H Q
theorem ix_A : IxR X (rIxA X.K X.w) := ix_seq.or ix_kdict
def rSlA (K : PySem.W.Frag) : V → Option Int → Option Int → Hp → VK → Prop := fun x lo hi H Q => rSlL K x lo hi H Q ∨ rSlT K x lo hi H Q ∨ rSlS x lo hi H Q
theorem sl_A : SlR X (rSlA X.K) := sl_list.or (sl_tup.or sl_str)
/-- isinstance over the values that the program has: the answer by the two types' names -/
def rIsiB (K : PySem.W.Frag) : List V → Hp → VK → Prop := fun xs H Q => ∃ (x : V) (T : String) (S : String) (b : Bool), xs = [x, .ty S] ∧ TyB K H x T ∧ Q (.bl b) H
end

/-! ## xs.extend(t), t a tuple -/
theorem extend_door2 {a b : Array Value} (h : a.size + b.size ≤ sizeLine) : ¬(!a.isEmpty && Builtin.List.listTooLong (a.size + b.size)) = true := by
  rw [notLongL h, Bool.and_false]; exact Bool.false_ne_true
theorem meets_extend_tup {l b : Addr} {as bs : Array Value} {n n2 : Nat} {dd : Option Addr} {sl : Array (Option Value)} (hz : as.size + bs.size ≤ sizeLine) :
    Meets (Builtin.«list.extend» ⟨[.ref l, .ref b], []⟩) (fun _ R s => s.heap.get? l = some { cls := .type "list", data := .seq as n } ∧
      s.heap.get? b = some ⟨.type "tuple", dd, .seq bs n2, sl⟩ ∧ R (.ok (.ret .none)) { s with heap := s.heap.update l (Obj.mapSeq (· ++ bs)) }) := by
  refine .of_wp fun prog w A R s h => ?_
  obtain ⟨hp, g, d, tk, os⟩ := s
  obtain ⟨hl, hb, h⟩ := h
  have f2 := PySem.AutoSeq1.sub_tuple_tuple
  have f4 := PySem.AutoSeq1.sub_tuple_list
  have door := extend_door2 hz
  have z1 : as.size ≤ sizeLine := by omega
  have z2 : (as ++ bs).size ≤ sizeLine + 1 := by rw [Array.size_append]; omega
  wp_walk using (wpAny_updateSeq hl rfl (hz := z1) (_hz' := z2)), PySem.AutoSeq1.wpAny_loadPart' hl, PySem.AutoSeq1.wpAny_loadPart' hb
  exact ⟨_, rfl, h⟩
def rExtendT (K : PySem.W.Frag) : V → List V → Hp → VK → Prop := fun x vs H Q =>
  ∃ l b xs zs, x = .ref l ∧ vs = [.ref b] ∧ H l = some (.lst xs) ∧ SqT K H b zs ∧ xs.length + zs.length ≤ sizeLine ∧ Q .non (upd H l (.lst (xs ++ zs)))
theorem mt_extendT {X : Cx} : MtM X "list.extend" (rExtendT X.K) := by
  intro pins s σ H x vs v us Q I rx rv ⟨l, b, xs, zs, ex, ev, hH, hB, hz, q⟩
  subst ex ev
  cases rx
  obtain ⟨u, rfl, ru⟩ := Vals.one rv
  cases ru
  obtain ⟨_, its, n, r, hl, e⟩ := I.lstM hH
  obtain ⟨its2, r2, ⟨⟨c2, dd, da, sl⟩, e2, ec, n2, ed⟩, hl2⟩ := I.tuple hB
  simp only at ec ed
  subst ec ed
  have hl3 := r2.length
  have hsz : its.toArray.size + its2.toArray.size ≤ sizeLine := by rw [List.size_toArray, List.size_toArray]; omega
  refine call_meets F.slot_list_extend ⟨_, e, rfl⟩ F.entry_list_extend (F.args_list_extend_2 _ _) (meets_extend_tup hsz) ⟨e, e2, ?_⟩
  refine ⟨.non, _, I.lset (its' := its ++ its2) hH e (by simp) (Vals.append r r2) ?_, rfl, q⟩
  rw [List.length_append]; exact hz

/-! ## a def as it stands; a def that keeps its promise, for its callers -/
/-- the def stands under its own name -/
def At (K : PySem.W.Frag) (mg : Str → Option Value) (x : Str) (st : Stmt) : Prop := ∃ f fd, Fun K x x st f fd ∧ mg x = some (.ref f)
section
variable (P : Program) (w : World) (K : PySem.W.Frag) (mg : Str → Option Value) (base : Heap)
def Cal (CX : CXT) (k : Nat) (x : Str) (ps : List Str) (sp : Sp) : Prop :=
  ∃ f fd, FnOk P w K mg base CX k f fd ps sp ∧ Binds K fd ps [] ∧ PySem.W.keepIn K (.ref f) = true ∧ mg x = some (.ref f)
end
section
variable {X : Cx} {CX : CXT} {k : Nat} {x : Str} {ps : List Str} {sp : Sp} {E : XK} {p pos : Pos} {e : Expr} {es : List Expr} {t : TA}
theorem pe_calC (C : Cal X.prog X.w X.K X.mg X.base CX k x ps sp) (hr : Room k X.A) (hx : Passes CX X E) (ha : PA X (e :: es) t) (hg : Gl X x := by rfl) (hdb : (x == ("__debug__" : Str)) = false := by decide)
    (he : starEach (e :: es) X.env = (false, eval e X.env) :: starEach es X.env := by rfl) (hpl : (backTo pos (starEach es X.env)).any (·.1) = false := by rfl) :
    PE X (.Call (.Name x p) (e :: es) [] pos) (tCall sp [] E t) := by
  obtain ⟨f, fd, F, b, kp, m⟩ := C
  exact pe_call F hr hg m kp b .nil hx ha hdb he hpl
end
theorem Cal.mono {P : Program} {w : World} {K : PySem.W.Frag} {mg : Str → Option Value} {base : Heap} {CX : CXT} {j k : Nat} {x : Str} {ps : List Str} {sp : Sp} (C : Cal P w K mg base CX j x ps sp) (h : j ≤ k) : Cal P w K mg base CX k x ps sp :=
  let ⟨f, fd, F, r⟩ := C; ⟨f, fd, F.mono h, r⟩

/-! ## facts of heaps -/
theorem same_new {H : Hp} {p : Addr} (h : H p = none) (o : HO) : Same H (upd H p o) := fun b u q => by rw [upd_ne (ne_of_none q h)]; exact q
theorem Same.tup {K : PySem.W.Frag} {H H' : Hp} {a : Addr} {xs : List V} (e : Same H H') (h : SqT K H a xs) : SqT K H' a xs := by
  rcases h with (h | ⟨o, h⟩) | h
  · exact .inl (.inl (e _ _ h))
  · exact .inl (.inr ⟨o, e _ _ h⟩)
  · exact .inr h
/-- all but the object at w stands -/
def But (w : Addr) (H H' : Hp) : Prop := ∀ b o, b ≠ w → H b = some o → H' b = some o
theorem But.refl (w : Addr) (H : Hp) : But w H H := fun _ _ _ h => h
theorem But.trans {w : Addr} {H H1 H2 : Hp} (a : But w H H1) (b : But w H1 H2) : But w H H2 := fun c o n h => b c o n (a c o n h)
theorem But.of_same {w : Addr} {H H' : Hp} (h : Same H H') : But w H H' := fun b o _ e => h b o e
theorem But.new {w : Addr} {H : Hp} {p : Addr} (h : H p = none) (o : HO) : But w H (upd H p o) := .of_same (same_new h o)
theorem But.set {w : Addr} {H : Hp} (o : HO) : But w H (upd H w o) := fun b u n q => by rw [upd_ne n]; exact q
end KB

namespace KB
open PySem PySem.Spec PyProof.Rows L2

/-! ## a dict of the module with text keys, asked by any text -/
inductive Ents : List (Str × V) → List DictEntry → Prop where
  | nil : Ents [] []
  | cons {k : Str} {v : V} {u : Value} {t : Tok} {hs : Int} {r : List (Str × V)} {es : List DictEntry} (rv : RelV v u) (tl : Ents r es) : Ents ((k, v) :: r) (⟨hs, .str k t, u⟩ :: es)
def DictS (K : PySem.W.Frag) (w : World) (d : Addr) (kvs : List (Str × V)) : Prop :=
  ∃ es n, K.lookup d = some ⟨.type "dict", none, .dict es n, #[]⟩ ∧ PySem.W.KeysLit w.params es.toList ∧ (d == sysModules) = false ∧ Ents kvs es.toList
theorem Ents.find {z : Str} : ∀ {kvs : List (Str × V)} {es : List DictEntry}, Ents kvs es →
    (es.find? (·.key.isStr z) = none ∧ kvs.lookup z = none ∧ es.any (·.refKey) = false) ∨ ∃ e v, es.find? (·.key.isStr z) = some e ∧ kvs.lookup z = some v ∧ RelV v e.val
  | _, _, .nil => .inl ⟨rfl, rfl, rfl⟩
  | _, _, .cons (k := k) (v := v) (u := u) rv tl => by
    by_cases h : k = z
    · subst h
      refine .inr ⟨_, v, List.find?_cons_of_pos (by simp [Value.isStr]), ?_, rv⟩
      simp [List.lookup]
    · have h1 : ((z == k) : Bool) = false := beq_eq_false_iff_ne.mpr fun q => h q.symm
      have h2 : (Value.isStr (.str k (by assumption)) z) = false := by
        show (k == z) = false
        exact beq_eq_false_iff_ne.mpr h
      rcases tl.find (z := z) with ⟨a, b, c⟩ | ⟨e, v', a, b, c⟩
      · refine .inl ⟨?_, ?_, ?_⟩
        · rw [List.find?_cons_of_neg (by show ¬ (Value.isStr (.str k _) z) = true; rw [show Value.isStr (.str k _) z = (k == z) from rfl, beq_eq_false_iff_ne.mpr h]; exact Bool.false_ne_true)]
          exact a
        · simp [List.lookup, h1, b]
        · rw [List.any_cons, c]; rfl
      · refine .inr ⟨e, v', ?_, ?_, c⟩
        · rw [List.find?_cons_of_neg (by show ¬ (Value.isStr (.str k _) z) = true; rw [show Value.isStr (.str k _) z = (k == z) from rfl, beq_eq_false_iff_ne.mpr h]; exact Bool.false_ne_true)]
          exact a
        · simp [List.lookup, h1, b]
theorem DictS.ns {K : PySem.W.Frag} {w : World} {d : Addr} {kvs : List (Str × V)} (D : DictS K w d kvs) (z : Str) :
    (PySem.W.nsIn K d z = some none ∧ kvs.lookup z = none) ∨ ∃ u v, PySem.W.nsIn K d z = some (some u) ∧ kvs.lookup z = some v ∧ RelV v u := by
  obtain ⟨es, n, hl, _, _, he⟩ := D
  rcases he.find (z := z) with ⟨a, b, c⟩ | ⟨e, v, a, b, c⟩
  · refine .inl ⟨?_, b⟩
    unfold PySem.W.nsIn; rw [hl]; simp only [a, c]; rfl
  · refine .inr ⟨e.val, v, ?_, b, c⟩
    unfold PySem.W.nsIn; rw [hl]; simp only [a]
section
variable {X : Cx} {kvs : List (Str × V)}
def rInDS (K : PySem.W.Frag) (w : World) (neg : Bool) : R2 := fun x y H Q => ∃ (z : Str) (d : Addr) (kvs : List (Str × V)), x = .str z ∧ y = .ref d ∧ DictS K w d kvs ∧ Q (.bl (if neg then !(kvs.lookup z).isSome else (kvs.lookup z).isSome)) H
theorem op_in_DS : OpR X (compareOp .In) (rInDS X.K X.w false) := by
  intro pins s σ H x y v u Q I rx ry ⟨z, d, kvs, ex, ey, D, q⟩
  obtain ⟨es, n, a, b, c, _⟩ := id D
  have kd : KDict X.K X.w d es n := ⟨a, b, c⟩
  rcases D.ns z with ⟨e, l⟩ | ⟨u0, v0, e, l, _⟩
  · exact op_in_kd kd pins s σ H x y v u Q I rx ry ⟨z, _, ex, ey, e, by rw [l] at q; exact q⟩
  · exact op_in_kd kd pins s σ H x y v u Q I rx ry ⟨z, _, ex, ey, e, by rw [l] at q; exact q⟩
theorem op_notIn_DS : OpR X (compareOp .NotIn) (rInDS X.K X.w true) := by
  intro pins s σ H x y v u Q I rx ry ⟨z, d, kvs, ex, ey, D, q⟩
  obtain ⟨es, n, a, b, c, _⟩ := id D
  have kd : KDict X.K X.w d es n := ⟨a, b, c⟩
  rcases D.ns z with ⟨e, l⟩ | ⟨u0, v0, e, l, _⟩
  · exact op_notIn_kd kd pins s σ H x y v u Q I rx ry ⟨z, _, ex, ey, e, by rw [l] at q; exact q⟩
  · exact op_notIn_kd kd pins s σ H x y v u Q I rx ry ⟨z, _, ex, ey, e, by rw [l] at q; exact q⟩
def rIxDS (K : PySem.W.Frag) (w : World) : R2 := fun x y H Q => ∃ (z : Str) (d : Addr) (kvs : List (Str × V)) (v : V), x = .ref d ∧ y = .str z ∧ DictS K w d kvs ∧ kvs.lookup z = some v ∧ Q v H
theorem ix_DS : IxR X (rIxDS X.K X.w) := by
  intro value slice pins s σ H x y v u Q I rx ry ⟨z, d, kvs, v1, ex, ey, D, hl, q⟩ hs
  obtain ⟨es, n, a, b, c, _⟩ := id D
  rcases D.ns z with ⟨e, l⟩ | ⟨u0, v0, e, l, r⟩
  · rw [l] at hl; cases hl
  · rw [l] at hl; cases hl
    exact ix_kdict value slice pins s σ H x y v u Q I rx ry ⟨d, z, _, ex, ey, ⟨es, n, u0, a, b, e, r⟩, q⟩ hs
def rIxB (K : PySem.W.Frag) (w : World) : R2 := fun x y H Q => rIx K x y H Q ∨ rIxDS K w x y H Q
theorem ix_B : IxR X (rIxB X.K X.w) := ix_seq.or ix_DS
end

/-! ## the heap without one object -/
def out (w : Addr) (H : Hp) : Hp := fun b => if b = w then none else H b
theorem out_ne {w b : Addr} {H : Hp} (h : b ≠ w) : out w H b = H b := if_neg h
theorem out_self {w : Addr} {H : Hp} : out w H w = none := if_pos rfl
theorem out_some {w b : Addr} {H : Hp} {o : HO} (h : out w H b = some o) : b ≠ w ∧ H b = some o := by
  by_cases e : b = w
  · rw [e, out_self] at h; cases h
  · rw [out_ne e] at h; exact ⟨e, h⟩
theorem out_sub (w : Addr) (H : Hp) : Same (out w H) H := fun _ _ h => (out_some h).2
theorem out_new {w p : Addr} {H : Hp} (h : H p = none) (o : HO) : Same (out w H) (out w (upd H p o)) := fun b u q => by
  obtain ⟨n, e⟩ := out_some q
  rw [out_ne n, upd_ne (ne_of_none e h)]; exact e
theorem out_set {w : Addr} {H : Hp} (o : HO) : Same (out w H) (out w (upd H w o)) := fun b u q => by
  obtain ⟨n, e⟩ := out_some q
  rw [out_ne n, upd_ne n]; exact e
theorem out_at {w p : Addr} {H : Hp} {o : HO} (n : p ≠ w) (h : H p = some o) : out w H p = some o := by rw [out_ne n]; exact h
theorem out_same {w : Addr} {H H' : Hp} (h : Same H H') : Same (out w H) (out w H') := fun b o q => by
  obtain ⟨n, e⟩ := out_some q
  rw [out_ne n]; exact h b o e
/-! ## data that stand -/
mutual
theorem Dp.same {K : PySem.W.Frag} {H H' : Hp} (s : Same H H') : ∀ {d : PyData} {v : V}, Dp K H v d → Dp K H' v d
  | _, _, .non => .non
  | _, _, .bl b => .bl b
  | _, _, .int i => .int i
  | _, _, .str x => .str x
  | _, _, .lst h a => .lst (L2.Same.seq s h) (DpAll.same s a)
  | _, _, .tup h a => .tup (Same.tup s h) (DpAll.same s a)
theorem DpAll.same {K : PySem.W.Frag} {H H' : Hp} (s : Same H H') : ∀ {ds : List PyData} {vs : List V}, DpAll K H vs ds → DpAll K H' vs ds
  | _, _, .nil => .nil
  | _, _, .cons h a => .cons (Dp.same s h) (DpAll.same s a)
end
end KB

namespace KB
open PySem PySem.Spec PyProof.Rows L2

/-! ## own classes of errors -/
structure ExcF (K : PySem.W.Frag) (mg : Str → Option Value) (x : Str) (C : Addr) : Prop where
  g : mg x = some (.ref C)
  q : PySem.W.excIn K C [.type "ValueError", .type "Exception", .type "BaseException", .type "object"] "ValueError.__new__" = true
  k : PySem.W.keepIn K (.ref C) = true
  b : PySem.W.subIn K (.ref C) (.type "BaseException") = some true
  t : PySem.W.typeIn K (.ref C) = some (.type "type")
  i : PySem.W.isClsIn K C = true
  s : PySem.W.subIn K (.ref C) (.ref C) = some true
theorem ps_raiseO {X : Cx} {W : WX} {x m : Str} {C : Addr} {j : Nat} {p p2 pos pos2 : Pos} (hc : X.calm = true) (tk : Takes X W) (F : ExcF X.K X.mg x C) (hg : Gl X x := by rfl) (hdb : (x == ("__debug__" : Str)) = false := by decide) :
    PS X (.Raise (some (.Call (.Name x p) [.Constant (.str m) j p2] [] pos)) none pos2) (fun _ σ H => W (.ref C) none σ H) :=
  ps_raise hc tk (pmk_own PySem.F.excBase_ValueError F.q F.g F.k (raises_own F.b F.t) hg hdb)

/-- a constant of the module: a text; a dict -/
theorem pe_globS {X : Cx} {x z : Str} {pos : Pos} (hg : Gl X x) (hm : ∃ t, X.mg x = some (.str z t)) (hd : (x == ("__debug__" : Str)) = false := by decide) : PE X (.Name x pos) (tC (.str z)) := by
  obtain ⟨t, h⟩ := hm
  exact pe_glob hg h ⟨_, rfl⟩ hd
def tDS (K : PySem.W.Frag) (w : World) (kvs : List (Str × V)) : TE := fun _ H Q => ∀ d, DictS K w d kvs → Q (.ref d) H
theorem pe_globD {X : Cx} {x : Str} {kvs : List (Str × V)} {pos : Pos} (hg : Gl X x) (hm : ∃ d, X.mg x = some (.ref d) ∧ DictS X.K X.w d kvs) (hd : (x == ("__debug__" : Str)) = false := by decide) : PE X (.Name x pos) (tDS X.K X.w kvs) := by
  obtain ⟨d, h, D⟩ := hm
  exact ⟨fun pins s σ H Q I q => (pe_glob (v := .ref d) hg h (by exact rfl) hd).run pins s σ H Q I (q d D)⟩

/-! ## kinds -/
inductive Kd where
  | b (n : Nat) | u | p (x y : Kd) | f (x y : Kd)
  deriving DecidableEq, Repr
namespace Kd
def dat : Kd → PyData
  | b n => .tuple [.str "base", .int n]
  | u => .tuple [.str "unit"]
  | p x y => .tuple [.str "both", x.dat, y.dat]
  | f x y => .tuple [.str "from", x.dat, y.dat]
def ok : Kd → Prop
  | b n => n < 8
  | u => True
  | p x y => x.ok ∧ y.ok
  | f x y => x.ok ∧ y.ok
def leaves : Kd → Nat
  | b _ => 1 | u => 1
  | p x y => x.leaves + y.leaves
  | f x y => x.leaves + y.leaves
def deep : Kd → Nat
  | b _ => 1 | u => 1
  | p x y => 1 + max x.deep y.deep
  | f x y => 1 + max x.deep y.deep
theorem leaves_pos : ∀ k : Kd, 1 ≤ k.leaves
  | b _ => Nat.le_refl _
  | u => Nat.le_refl _
  | p x y => by have := leaves_pos x; simp only [leaves]; omega
  | f x y => by have := leaves_pos x; simp only [leaves]; omega
theorem deep_le : ∀ k : Kd, k.deep ≤ k.leaves
  | b _ => Nat.le_refl _
  | u => Nat.le_refl _
  | p x y => by have := deep_le x; have := deep_le y; have := leaves_pos x; have := leaves_pos y; simp only [leaves, deep]; omega
  | f x y => by have := deep_le x; have := deep_le y; have := leaves_pos x; have := leaves_pos y; simp only [leaves, deep]; omega
theorem dat_depth : ∀ k : Kd, k.dat.depth = k.deep
  | b _ => by simp [dat, deep, PyData.depth, PyData.depthAll]
  | u => by simp [dat, deep, PyData.depth, PyData.depthAll]
  | p x y => by have := dat_depth x; have := dat_depth y; simp only [dat, deep, PyData.depth, PyData.depthAll]; omega
  | f x y => by have := dat_depth x; have := dat_depth y; simp only [dat, deep, PyData.depth, PyData.depthAll]; omega
theorem dat_lay : ∀ k : Kd, k.dat.canLay0 = true
  | b _ => by simp [dat, PyData.canLay0, PyData.canLayAll0]; decide +kernel
  | u => by simp [dat, PyData.canLay0, PyData.canLayAll0]; decide +kernel
  | p x y => by simp [dat, PyData.canLay0, PyData.canLayAll0, dat_lay x, dat_lay y]; decide +kernel
  | f x y => by simp [dat, PyData.canLay0, PyData.canLayAll0, dat_lay x, dat_lay y]; decide +kernel
end Kd

/-! ## any thing: data, empty dicts among them -/
mutual
inductive Dq (K : PySem.W.Frag) (H : Hp) : V → PyData → Prop
  | non : Dq K H .non .none
  | bl (b : Bool) : Dq K H (.bl b) (.bool b)
  | int (i : Int) : Dq K H (.int i) (.int i)
  | str (x : Str) : Dq K H (.str x) (.str x)
  | lst {a : Addr} {xs : List V} {ds : List PyData} : SqL K H a xs → DqAll K H xs ds → Dq K H (.ref a) (.list ds)
  | tup {a : Addr} {xs : List V} {ds : List PyData} : SqT K H a xs → DqAll K H xs ds → Dq K H (.ref a) (.tuple ds)
  | dct {a : Addr} : H a = some (.dK []) → Dq K H (.ref a) (.dict [])
inductive DqAll (K : PySem.W.Frag) (H : Hp) : List V → List PyData → Prop
  | nil : DqAll K H [] []
  | cons {v : V} {vs : List V} {d : PyData} {ds : List PyData} : Dq K H v d → DqAll K H vs ds → DqAll K H (v :: vs) (d :: ds)
end
mutual
theorem Dq.same {K : PySem.W.Frag} {H H' : Hp} (s : Same H H') : ∀ {d : PyData} {v : V}, Dq K H v d → Dq K H' v d
  | _, _, .non => .non
  | _, _, .bl b => .bl b
  | _, _, .int i => .int i
  | _, _, .str x => .str x
  | _, _, .lst h a => .lst (L2.Same.seq s h) (DqAll.same s a)
  | _, _, .tup h a => .tup (Same.tup s h) (DqAll.same s a)
  | _, _, .dct h => .dct (s _ _ h)
theorem DqAll.same {K : PySem.W.Frag} {H H' : Hp} (s : Same H H') : ∀ {ds : List PyData} {vs : List V}, DqAll K H vs ds → DqAll K H' vs ds
  | _, _, .nil => .nil
  | _, _, .cons h a => .cons (Dq.same s h) (DqAll.same s a)
end
mutual
theorem Dq.dp {K : PySem.W.Frag} {H : Hp} : ∀ {d : PyData} {v : V}, d.canLay0 = true → Dq K H v d → Dp K H v d
  | _, _, _, .non => .non
  | _, _, _, .bl b => .bl b
  | _, _, _, .int i => .int i
  | _, _, _, .str x => .str x
  | _, _, c, .lst h a => .lst h (DqAll.dp (by simpa [PyData.canLay0] using c) a)
  | _, _, c, .tup h a => .tup h (DqAll.dp (by simpa [PyData.canLay0] using c) a)
  | _, _, c, .dct _ => by simp [PyData.canLay0] at c
theorem DqAll.dp {K : PySem.W.Frag} {H : Hp} : ∀ {ds : List PyData} {vs : List V}, PyData.canLayAll0 ds = true → DqAll K H vs ds → DpAll K H vs ds
  | _, _, _, .nil => .nil
  | d :: ds, _, c, .cons h a => by
    have c' : d.canLay0 = true ∧ PyData.canLayAll0 ds = true := by simpa [PyData.canLayAll0] using c
    exact .cons (Dq.dp c'.1 h) (DqAll.dp c'.2 a)
end
mutual
theorem Dq.of {K : PySem.W.Frag} {H : Hp} : ∀ {d : PyData} {v : V}, Dp K H v d → Dq K H v d
  | _, _, .non => .non
  | _, _, .bl b => .bl b
  | _, _, .int i => .int i
  | _, _, .str x => .str x
  | _, _, .lst h a => .lst h (DqAll.of a)
  | _, _, .tup h a => .tup h (DqAll.of a)
theorem DqAll.of {K : PySem.W.Frag} {H : Hp} : ∀ {ds : List PyData} {vs : List V}, DpAll K H vs ds → DqAll K H vs ds
  | _, _, .nil => .nil
  | _, _, .cons h a => .cons (Dq.of h) (DqAll.of a)
end
theorem DqAll.length {K : PySem.W.Frag} {H : Hp} : ∀ {ds : List PyData} {vs : List V}, DqAll K H vs ds → vs.length = ds.length
  | _, _, .nil => rfl
  | _, _, .cons _ a => congrArg (· + 1) (DqAll.length a)
theorem DqAll.append {K : PySem.W.Frag} {H : Hp} : ∀ {ds es : List PyData} {vs us : List V}, DqAll K H vs ds → DqAll K H us es → DqAll K H (vs ++ us) (ds ++ es)
  | _, _, _, _, .nil, b => b
  | _, _, _, _, .cons h a, b => .cons h (DqAll.append a b)
/-- the last one -/
theorem DqAll.last {K : PySem.W.Frag} {H : Hp} : ∀ {ds : List PyData} {d : PyData} {vs : List V}, DqAll K H vs (ds ++ [d]) → ∃ us v, vs = us ++ [v] ∧ DqAll K H us ds ∧ Dq K H v d
  | [], _, _, .cons h .nil => ⟨[], _, rfl, .nil, h⟩
  | _ :: ds, d, _, .cons h a => by
    obtain ⟨us, v, rfl, b, c⟩ := DqAll.last (ds := ds) a
    exact ⟨_ :: us, v, rfl, .cons h b, c⟩
def tyN : PyData → String
  | .none => "NoneType" | .bool _ => "bool" | .int _ => "int" | .str _ => "str" | .list _ => "list" | .tuple _ => "tuple" | .dict _ => "dict"
theorem Dq.ty {K : PySem.W.Frag} {H : Hp} {v : V} {d : PyData} (h : Dq K H v d) : TyB K H v (tyN d) := by
  cases h with
  | non => exact .non
  | bl b => exact .bl b
  | int i => exact .int i
  | str x => exact .str x
  | lst s _ => exact .lst s
  | tup s _ => exact .tup s
  | dct e => exact .dK e

/-! ## sizes -/
mutual
def sz : PyData → Nat
  | .list xs => 1 + szs xs
  | .tuple xs => 1 + szs xs
  | .none => 1 | .bool _ => 1 | .int _ => 1 | .str _ => 1 | .dict _ => 1
def szs : List PyData → Nat
  | [] => 0
  | x :: xs => sz x + szs xs
end
theorem szs_append : ∀ xs ys : List PyData, szs (xs ++ ys) = szs xs + szs ys
  | [], ys => by simp [szs]
  | x :: xs, ys => by simp only [List.cons_append, szs, szs_append xs ys]; omega
theorem sz_pos : ∀ d : PyData, 1 ≤ sz d
  | .list xs => by simp only [sz]; omega
  | .tuple xs => by simp only [sz]; omega
  | .none => by simp [sz]
  | .bool _ => by simp [sz]
  | .int _ => by simp [sz]
  | .str _ => by simp [sz]
  | .dict _ => by simp [sz]
theorem len_szs : ∀ ds : List PyData, ds.length ≤ szs ds
  | [] => Nat.zero_le _
  | d :: ds => by have := sz_pos d; have := len_szs ds; simp only [szs, List.length_cons]; omega
theorem Kd.sz_dat : ∀ k : Kd, sz k.dat ≤ 6 * k.leaves - 3
  | .b _ => by simp [Kd.dat, sz, szs, Kd.leaves]
  | .u => by simp [Kd.dat, sz, szs, Kd.leaves]
  | .p x y => by have := sz_dat x; have := sz_dat y; have := Kd.leaves_pos x; have := Kd.leaves_pos y; simp only [Kd.dat, sz, szs, Kd.leaves]; omega
  | .f x y => by have := sz_dat x; have := sz_dat y; have := Kd.leaves_pos x; have := Kd.leaves_pos y; simp only [Kd.dat, sz, szs, Kd.leaves]; omega
theorem fits {n : Nat} (h : n ≤ 10000000) : n ≤ sizeLine := Nat.le_trans h (by decide)
theorem fits_lt {n : Nat} (h : n ≤ 10000000) : n < sizeLine := Nat.lt_of_le_of_lt h (by decide)
theorem dl_append {α : Type} (xs : List α) (x : α) : (xs ++ [x]).dropLast = xs := by simp
theorem last_at {α : Type} (xs : List α) (x : α) : (xs ++ [x])[(xs ++ [x]).length - 1]? = some x := by simp
theorem cut1 (xs : List V) (x : V) : cutV (x :: xs) (some 1) none = xs := by
  have e : HT.sIx (x :: xs).length 0 (some 1) = 1 := by
    have := HT.sIx_nat (x :: xs).length 0 1
    rw [List.length_cons] at this ⊢
    exact this.trans (by omega)
  unfold cutV
  rw [e]
  show (List.drop 1 (x :: xs)).take ((x :: xs).length - 1) = xs
  simp
theorem cut1_not (xs : List V) (x : V) : ¬ (HT.sIx (x :: xs).length 0 (some 1) = 0 ∧ HT.sIx (x :: xs).length (x :: xs).length none = (x :: xs).length) := by
  have e : HT.sIx (x :: xs).length 0 (some 1) = 1 := by
    have := HT.sIx_nat (x :: xs).length 0 1
    rw [List.length_cons] at this ⊢
    exact this.trans (by omega)
  rw [e]; intro h; exact absurd h.1 (by decide)

/-! ## what a kind is -/
def isBn : PyData → Bool
  | .int n => decide (0 ≤ n) && decide (n < 8)
  | _ => false
/-- a kind, if what it is made of are such -/
def shp : PyData → Bool
  | .tuple (.str w :: r) =>
    if w = "base" then (match r with | [x] => isBn x | _ => false)
    else if w = "unit" then r.isEmpty
    else (decide (w = "both") || decide (w = "from")) && r.length == 2
  | _ => false
def isKd : PyData → Bool
  | .tuple [.str w] => decide (w = "unit")
  | .tuple [.str w, x] => decide (w = "base") && isBn x
  | .tuple [.str w, x, y] => (decide (w = "both") || decide (w = "from")) && (isKd x && isKd y)
  | _ => false
theorem isKd_dat : ∀ k : Kd, k.ok → isKd k.dat = true
  | .b n, h => by
    have h' : n < 8 := h
    simp only [Kd.dat, isKd, isBn]
    rw [decide_eq_true (by omega : (0 : Int) ≤ (n : Int)), decide_eq_true (by omega : (n : Int) < 8)]; decide
  | .u, _ => by decide
  | .p x y, h => by simp only [Kd.dat, isKd, isKd_dat x h.1, isKd_dat y h.2]; decide
  | .f x y, h => by simp only [Kd.dat, isKd, isKd_dat x h.1, isKd_dat y h.2]; decide
theorem kd_of : ∀ d : PyData, isKd d = true → ∃ k : Kd, k.ok ∧ d = k.dat
  | .tuple [.str w], h => by
    simp only [isKd, decide_eq_true_eq] at h
    exact ⟨.u, trivial, by rw [h]; rfl⟩
  | .tuple [.str w, x], h => by
    simp only [isKd, Bool.and_eq_true, decide_eq_true_eq] at h
    obtain ⟨h1, h2⟩ := h
    cases x <;> simp only [isBn, Bool.and_eq_true, decide_eq_true_eq] at h2 <;> try cases h2
    rename_i n a b
    refine ⟨.b n.toNat, by show n.toNat < 8; omega, ?_⟩
    have e : ((n.toNat : Nat) : Int) = n := by omega
    simp only [Kd.dat, e, h1]
  | .tuple [.str w, x, y], h => by
    simp only [isKd, Bool.and_eq_true, Bool.or_eq_true, decide_eq_true_eq] at h
    obtain ⟨h1, h2, h3⟩ := h
    obtain ⟨kx, ox, ex⟩ := kd_of x h2
    obtain ⟨ky, oy, ey⟩ := kd_of y h3
    rcases h1 with h1 | h1
    · exact ⟨.p kx ky, ⟨ox, oy⟩, by rw [h1, ex, ey]; rfl⟩
    · exact ⟨.f kx ky, ⟨ox, oy⟩, by rw [h1, ex, ey]; rfl⟩
  | .none, h => by simp [isKd] at h
  | .bool _, h => by simp [isKd] at h
  | .int _, h => by simp [isKd] at h
  | .str _, h => by simp [isKd] at h
  | .list _, h => by simp [isKd] at h
  | .dict _, h => by simp [isKd] at h
  | .tuple [], h => by simp [isKd] at h
  | .tuple (.none :: _), h => by simp [isKd] at h
  | .tuple (.bool _ :: _), h => by simp [isKd] at h
  | .tuple (.int _ :: _), h => by simp [isKd] at h
  | .tuple (.list _ :: _), h => by simp [isKd] at h
  | .tuple (.tuple _ :: _), h => by simp [isKd] at h
  | .tuple (.dict _ :: _), h => by simp [isKd] at h
  | .tuple (.str _ :: _ :: _ :: _ :: _), h => by simp [isKd] at h
def kids : PyData → List PyData
  | .tuple (.str w :: r) => if w = "both" ∨ w = "from" then r else []
  | _ => []
theorem kids_sz : ∀ d : PyData, szs (kids d) < sz d
  | .none => by simp [kids, sz, szs]
  | .bool _ => by simp [kids, sz, szs]
  | .int _ => by simp [kids, sz, szs]
  | .str _ => by simp [kids, sz, szs]
  | .list _ => by simp only [kids, sz, szs]; omega
  | .dict _ => by simp [kids, sz, szs]
  | .tuple [] => by simp [kids, sz, szs]
  | .tuple (.none :: _) => by simp only [kids, sz, szs]; omega
  | .tuple (.bool _ :: _) => by simp only [kids, sz, szs]; omega
  | .tuple (.int _ :: _) => by simp only [kids, sz, szs]; omega
  | .tuple (.list _ :: _) => by simp only [kids, sz, szs]; omega
  | .tuple (.tuple _ :: _) => by simp only [kids, sz, szs]; omega
  | .tuple (.dict _ :: _) => by simp only [kids, sz, szs]; omega
  | .tuple (.str w :: r) => by
    simp only [kids]
    split
    · simp only [sz, szs]; omega
    · simp only [sz, szs]; omega
/-- a thing that has a kind's shape -/
theorem shp_is : ∀ d : PyData, shp d = true → ∃ w r, d = .tuple (.str w :: r)
  | .tuple (.str w :: r), _ => ⟨w, r, rfl⟩
  | .tuple [], h => by simp [shp] at h
  | .tuple (.none :: _), h => by simp [shp] at h
  | .tuple (.bool _ :: _), h => by simp [shp] at h
  | .tuple (.int _ :: _), h => by simp [shp] at h
  | .tuple (.list _ :: _), h => by simp [shp] at h
  | .tuple (.tuple _ :: _), h => by simp [shp] at h
  | .tuple (.dict _ :: _), h => by simp [shp] at h
  | .none, h => by simp [shp] at h
  | .bool _, h => by simp [shp] at h
  | .int _, h => by simp [shp] at h
  | .str _, h => by simp [shp] at h
  | .list _, h => by simp [shp] at h
  | .dict _, h => by simp [shp] at h
theorem unit_ne_base : ¬ (("unit" : Str) = "base") := by decide
/-- one turn of a walk that takes a thing apart -/
theorem isKd_turn : ∀ d : PyData, isKd d = (shp d && (kids d).all isKd)
  | .none => rfl
  | .bool _ => rfl
  | .int _ => rfl
  | .str _ => rfl
  | .list _ => rfl
  | .dict _ => rfl
  | .tuple [] => by simp [isKd, shp]
  | .tuple (.none :: _) => by simp [isKd, shp]
  | .tuple (.bool _ :: _) => by simp [isKd, shp]
  | .tuple (.int _ :: _) => by simp [isKd, shp]
  | .tuple (.list _ :: _) => by simp [isKd, shp]
  | .tuple (.tuple _ :: _) => by simp [isKd, shp]
  | .tuple (.dict _ :: _) => by simp [isKd, shp]
  | .tuple [.str w] => by
    by_cases h : w = "base"
    · subst h; decide
    · by_cases h2 : w = "unit"
      · subst h2; decide
      · simp [isKd, shp, h, h2]
  | .tuple [.str w, x] => by
    by_cases h : w = "base"
    · subst h
      have e : kids (.tuple [.str "base", x]) = [] := by simp only [kids]; exact if_neg (by decide)
      rw [e]; simp [isKd, shp]
    · by_cases h2 : w = "unit"
      · subst h2; simp [isKd, shp, unit_ne_base]
      · simp [isKd, shp, h, h2]
  | .tuple [.str w, x, y] => by
    by_cases h : w = "base"
    · subst h; simp [isKd, shp]; intro h3; rcases h3 with h3 | h3 <;> exact absurd h3 (by decide)
    · by_cases h2 : w = "unit"
      · subst h2; simp [isKd, shp, unit_ne_base]; intro h3; rcases h3 with h3 | h3 <;> exact absurd h3 (by decide)
      · by_cases h3 : w = "both" ∨ w = "from"
        · simp [isKd, shp, h, h2, kids, h3]
        · have h4 : ¬ w = "both" := fun e => h3 (.inl e)
          have h5 : ¬ w = "from" := fun e => h3 (.inr e)
          simp [isKd, shp, h, h2, h4, h5]
  | .tuple (.str w :: x :: y :: z :: r) => by
    by_cases h : w = "base"
    · subst h; simp [isKd, shp]
    · by_cases h2 : w = "unit"
      · subst h2; simp [isKd, shp, unit_ne_base]
      · simp [isKd, shp, h, h2]
end KB
namespace KB
theorem iteT' {c : Bool} {A B : Prop} (e : c = true) (h : A) : if c = true then A else B := by rw [if_pos e]; exact h
theorem iteF' {c : Bool} {A B : Prop} (e : c = false) (h : B) : if c = true then A else B := by rw [e]; exact L2.iteF h
end KB
namespace KB
open L2
theorem at0 {α : Type} (x : α) (xs : List α) : atI (x :: xs) 0 = some x := atI_nat (j := 0) rfl
theorem at1 {α : Type} (x y : α) (xs : List α) : atI (x :: y :: xs) 1 = some y := atI_nat (j := 1) rfl
theorem at2 {α : Type} (x y z : α) (xs : List α) : atI (x :: y :: z :: xs) 2 = some z := atI_nat (j := 2) rfl
theorem qbl {Q : VK} {H : Hp} {a b : Bool} (q : Q (.bl a) H) (e : a = b) : Q (.bl b) H := e ▸ q
theorem len_cons_int {α : Type} (x : α) (xs : List α) : (((x :: xs).length : Nat) : Int) = (xs.length : Int) + 1 := by rw [List.length_cons]; omega
end KB
namespace KB
open PySem L2
theorem same_keepO' {H : Hp} {l : Addr} (hl : H l = none) {o : HO} : Same H (out l (upd H l o)) := fun b u e => by
  have n := ne_of_none e hl
  rw [out_ne n, upd_ne n]; exact e
theorem same_keep {H H' : Hp} {l : Addr} (hl : H l = none) (s : Same H (out l H')) (o : HO) : Same H (upd H' l o) := fun b u e => by
  have n := ne_of_none e hl
  rw [upd_ne n]; exact (out_some (s b u e)).2
theorem same_keepO {H H' : Hp} {l : Addr} (s : Same H (out l H')) (o : HO) : Same H (out l (upd H' l o)) := fun b u e => by
  obtain ⟨n, h⟩ := out_some (s b u e)
  rw [out_ne n, upd_ne n]; exact h
theorem out_upd {H : Hp} {l : Addr} {o : HO} : Same (out l H) (upd H l o) := fun b u e => by
  obtain ⟨n, h⟩ := out_some e
  rw [upd_ne n]; exact h
theorem of_out {H H' : Hp} {l : Addr} (s : Same H (out l H')) : Same H H' := fun b u e => (out_some (s b u e)).2
end KB

namespace KB
open PySem PySem.Spec PyProof.Rows L2

/-! ## texts of kinds, as lists of codes -/
def tx (l : List Nat) : Str := ⟨l.toArray⟩
theorem tx_tl (x : Str) : tx x.cps.toList = x := by cases x; simp [tx]
theorem tl_tx (l : List Nat) : (tx l).cps.toList = l := by simp [tx]
theorem tx_append (a b : List Nat) : tx a ++ tx b = tx (a ++ b) := Str.ext' (by rw [Str.cps_append]; simp [tx])
theorem tx_length (a : List Nat) : (tx a).length = a.length := by show a.toArray.size = _; simp
theorem tx_inj {a b : List Nat} (h : tx a = tx b) : a = b := by rw [← tl_tx a, h, tl_tx]
namespace Kd
def cod : Kd → List Nat
  | b n => [97 + n]
  | u => [49]
  | p x y => 40 :: (x.cod ++ 42 :: (y.cod ++ [41]))
  | f x y => 40 :: (x.cod ++ 62 :: (y.cod ++ [41]))
def txt (k : Kd) : Str := tx k.cod
theorem cod_length : ∀ k : Kd, k.cod.length + 3 ≤ 4 * k.leaves
  | b _ => by simp [cod, leaves]
  | u => by simp [cod, leaves]
  | p x y => by have := cod_length x; have := cod_length y; simp only [cod, leaves, List.length_cons, List.length_append, List.length_nil]; omega
  | f x y => by have := cod_length x; have := cod_length y; simp only [cod, leaves, List.length_cons, List.length_append, List.length_nil]; omega
theorem leaves_sz : ∀ k : Kd, k.leaves + 1 ≤ sz k.dat
  | b _ => by simp [dat, sz, szs, leaves]
  | u => by simp [dat, sz, szs, leaves]
  | p x y => by have := leaves_sz x; have := leaves_sz y; simp only [dat, sz, szs, leaves]; omega
  | f x y => by have := leaves_sz x; have := leaves_sz y; simp only [dat, sz, szs, leaves]; omega
/-- what a walk over the kind has to do -/
def wk : Kd → Nat
  | b _ => 1 | u => 1
  | p x y => x.wk + y.wk + 4
  | f x y => x.wk + y.wk + 4
theorem wk_le : ∀ k : Kd, k.wk + 4 ≤ 5 * k.leaves
  | b _ => by simp [wk, leaves]
  | u => by simp [wk, leaves]
  | p x y => by have := wk_le x; have := wk_le y; simp only [wk, leaves]; omega
  | f x y => by have := wk_le x; have := wk_le y; simp only [wk, leaves]; omega
theorem dat_inj : ∀ x y : Kd, x.dat = y.dat → x = y
  | b n, b m, h => by simp only [dat, PyData.tuple.injEq, List.cons.injEq, PyData.int.injEq] at h; have : n = m := by omega
                      rw [this]
  | u, u, _ => rfl
  | p x y, p x' y', h => by
    simp only [dat, PyData.tuple.injEq, List.cons.injEq, and_true, true_and] at h
    rw [dat_inj x x' h.1, dat_inj y y' h.2]
  | f x y, f x' y', h => by
    simp only [dat, PyData.tuple.injEq, List.cons.injEq, and_true, true_and] at h
    rw [dat_inj x x' h.1, dat_inj y y' h.2]
  | b _, u, h => by simp [dat] at h
  | b _, p _ _, h => by simp [dat] at h
  | b _, f _ _, h => by simp [dat] at h
  | u, b _, h => by simp [dat] at h
  | u, p _ _, h => by simp [dat] at h
  | u, f _ _, h => by simp [dat] at h
  | p _ _, b _, h => by simp [dat] at h
  | p _ _, u, h => by simp [dat] at h
  | f _ _, b _, h => by simp [dat] at h
  | f _ _, u, h => by simp [dat] at h
  | p _ _, f _ _, h => by
    simp only [dat, PyData.tuple.injEq, List.cons.injEq, PyData.str.injEq] at h
    exact absurd h.1 (by decide)
  | f _ _, p _ _, h => by
    simp only [dat, PyData.tuple.injEq, List.cons.injEq, PyData.str.injEq] at h
    exact absurd h.1 (by decide)
end Kd
theorem joinL_nil : ∀ ls : List (List Nat), TL.joinL [] ls = ls.flatten
  | [] => rfl
  | [p] => by simp [TL.joinL]
  | p :: q :: r => by simp only [TL.joinL, joinL_nil (q :: r), List.flatten_cons, List.nil_append]
theorem join_nil (ls : List (List Nat)) : Txt.join "" (ls.map tx) = tx ls.flatten := by
  rw [TL.join_eq, ← tx_tl (Str.join "" (ls.map tx))]
  have h := TL.tl_join "" (ls.map tx)
  have e : TL.tl ("" : Str) = [] := rfl
  rw [e, joinL_nil, List.map_map] at h
  have e2 : (TL.tl ∘ tx) = id := funext fun l => tl_tx l
  rw [e2, List.map_id] at h
  exact congrArg tx h
theorem join_size (ls : List (List Nat)) : ((ls.map tx).map (·.length)).sum = ls.flatten.length := by
  rw [List.map_map, List.length_flatten]
  exact congrArg List.sum (List.map_congr_left fun l _ => tx_length l)
/-- what a walk that writes a kind has on its stack -/
inductive Itm where
  | s (z : List Nat) | k (k : Kd)
namespace Itm
def dat : Itm → PyData
  | .s z => .str (tx z)
  | .k x => x.dat
def cod : Itm → List Nat
  | .s z => z
  | .k x => x.cod
def wk : Itm → Nat
  | .s _ => 1
  | .k x => x.wk
def ok : Itm → Prop
  | .s _ => True
  | .k x => x.ok
theorem wk_pos : ∀ i : Itm, 1 ≤ i.wk
  | .s _ => Nat.le_refl _
  | .k (.b _) => Nat.le_refl _
  | .k .u => Nat.le_refl _
  | .k (.p x y) => by simp only [wk, Kd.wk]; omega
  | .k (.f x y) => by simp only [wk, Kd.wk]; omega
end Itm
def wks (is : List Itm) : Nat := (is.map Itm.wk).sum
/-- the text of a stack, its last one first -/
def cods (is : List Itm) : List Nat := (is.reverse.map Itm.cod).flatten
theorem wks_append (a b : List Itm) : wks (a ++ b) = wks a + wks b := by simp [wks]
theorem cods_snoc (a : List Itm) (x : Itm) : cods (a ++ [x]) = x.cod ++ cods a := by simp [cods]
theorem cods_append (a b : List Itm) : cods (a ++ b) = cods b ++ cods a := by simp [cods]
theorem len_wks : ∀ is : List Itm, is.length ≤ wks is
  | [] => Nat.zero_le _
  | i :: r => by have := i.wk_pos; have := len_wks r; simp only [wks, List.map_cons, List.sum_cons, List.length_cons] at *; omega
end KB
namespace KB
open PySem L2
theorem Kd.ty (k : Kd) : tyN k.dat = "tuple" := by cases k <;> rfl
theorem same2 {H H' : Hp} {l p a : Addr} (h : Same H (out l (out p H'))) (o : HO) (e : a = l ∨ a = p) : Same H (out l (out p (upd H' a o))) := fun b u q => by
  obtain ⟨n1, h1⟩ := out_some (h b u q)
  obtain ⟨n2, h2⟩ := out_some h1
  rw [out_ne n1, out_ne n2, upd_ne (by rcases e with e | e <;> rw [e] <;> assumption)]
  exact h2
theorem same2_new {H H' : Hp} {l p a : Addr} (h : Same H (out l (out p H'))) (o : HO) (e : H' a = none) : Same H (out l (out p (upd H' a o))) := fun b u q => by
  obtain ⟨n1, h1⟩ := out_some (h b u q)
  obtain ⟨n2, h2⟩ := out_some h1
  rw [out_ne n1, out_ne n2, upd_ne (ne_of_none h2 e)]
  exact h2
theorem of_out2 {H H' : Hp} {l p : Addr} (s : Same H (out l (out p H'))) : Same H H' := fun b u e => (out_some (out_some (s b u e)).2).2
theorem out2_sub {H : Hp} {l p : Addr} : Same (out l (out p H)) H := of_out2 (Same.refl _)
theorem strs_map (ls : List (List Nat)) (z : List Nat) : ((ls.map tx).map V.str) ++ [V.str (tx z)] = ((ls ++ [z]).map tx).map V.str := by simp
end KB

namespace KB
open PySem PySem.Spec PyProof.Rows L2
/-! ## xs[lo:hi] = ys, the bounds of any sign -/
section
variable {prog : Program} {w : World} {A : Around} {E : Value → Shared → Prop} {s : Shared}
theorem store_cut {l b sl : Addr} {as bs : List Value} {n n2 : Nat} {vl vu : Value} {lo hi : Option Int} {Q : Unit → Shared → Prop}
    (el : s.heap.get? l = some { cls := .type "list", data := .seq as.toArray n }) (eb : s.heap.get? b = some { cls := .type "list", data := .seq bs.toArray n2 }) (nlb : l ≠ b)
    (is : s.heap.IsSliceOf sl vl vu .none) (pl : IsPart vl lo) (pu : IsPart vu hi) (ord : HT.sIx as.length 0 lo ≤ HT.sIx as.length as.length hi) (room : as.length + bs.length ≤ sizeLine)
    (k : Q () { s with heap := s.heap.update l (Obj.mapSeq fun xs => xs.extract 0 (HT.sIx as.length 0 lo) ++ bs.toArray ++ xs.extract (HT.sIx as.length as.length hi) xs.size) }) :
    wpAny (model prog w) A (setItem (.ref l) (.ref sl) (.ref b)) Q E s := by
  have Ll := (PySem.IsL.isList el).typeIs
  have Lb := (PySem.IsL.isList eb).typeIs
  have hle := HT.sIx_le as.length as.length (Nat.le_refl _) hi
  obtain ⟨o, io, ic, idt⟩ := id is
  have Ls : s.TypeIs (.ref sl) "slice" := ⟨o, io, ic⟩
  have apart : Builtin.List.listSameRef (.ref l) (.ref b) = false := beq_eq_false_iff_ne.mpr nlb
  have szA : as.toArray.size = as.length := by simp
  have szB : bs.toArray.size = bs.length := by simp
  obtain ⟨b1, b2, b3⟩ := slice_bounds lo hi as.length
  have bds : sliceBounds lo hi none as.toArray.size = (((HT.sIx as.length 0 lo : Nat) : Int), ((HT.sIx as.length as.length hi : Nat) : Int), 1) := by rw [szA]; exact Prod.ext b1 (Prod.ext b2 b3)
  generalize hp : HT.sIx as.length 0 lo = p at *
  generalize hq : HT.sIx as.length as.length hi = q at *
  have top : (max (p : Int) (q : Int)).toNat = q := by omega
  have room1 : as.toArray.size ≤ sizeLine := by omega
  have room2 : ((fun xs : Array Value => xs.extract 0 p ++ bs.toArray ++ xs.extract q xs.size) as.toArray).size ≤ sizeLine + 1 := by simp only [Array.size_append, Array.size_extract]; omega
  unfold setItem
  refine wpAny_holding (wpAny_bind (wpAny_sequenceKey Ll (by decide) (wpAny_bind (wpAny_callSpecial?_slot (name := Str.ofString "__setitem__") Ll slot_list_setitem (wpAny_call_entry slot_list_setitem Ll entry_list_setitem ?_ (args_list_setitem _ _ _))))))
  -- the key is a slice: no index of its own
  show wpAny _ _ (Builtin.List.listSubscript? (.ref sl) >>= _) _ _ s
  unfold Builtin.List.listSubscript?
  refine wpAny_bind (wpAny_bind (wpAny_specialOf Ls slice_no_index ?_))
  rw [Option.isNone_none, if_pos rfl]
  refine wpAny_pure ?_
  show wpAny _ _ (typeOf (.ref sl) >>= _) _ _ s
  refine wpAny_bind (wpAny_typeOf Ls (PySem.W.KFB.if_not (by decide) ?_))
  rw [listSliceParts_eq]
  refine wpAny_bind (wpAny_bind (wpAny_field io idt (x := .none) rfl (wpAny_bind (wpAny_listPart .none (PySem.W.KFB.if_not (by decide) ?_)))))
  refine wpAny_bind (wpAny_field io idt (x := vl) rfl (wpAny_bind (wpAny_listPart pl (wpAny_bind (wpAny_field io idt (x := vu) rfl (wpAny_bind (wpAny_listPart pu (wpAny_pure ?_))))))))
  refine PySem.W.KFB.if_not apart (wpAny_bind (m := Builtin.List.listAllItems (.ref b) "must assign iterable to extended slice") ?_)
  unfold Builtin.List.listAllItems
  refine wpAny_bind (wpAny_typeOf Lb (PySem.W.KFB.if_so (by decide) ?_))
  unfold Builtin.List.listItems
  refine wpAny_bind (wpAny_seqItems eb rfl (wpAny_pure (wpAny_bind (wpAny_bind (wpAny_seqItems el rfl (wpAny_pure ?_))))))
  refine wpAny_bind (wpAny_of_eq ((sliceIndices_raw lo hi none as.toArray.size (by simp)).trans (congrArg pure bds)) ?_)
  show wpAny _ _ (if ((1 : Int) == 1) = true then _ else _) _ _ s
  refine PySem.W.KFB.if_so (by decide) (wpAny_bind (wpAny_rule (PySem.W.KFB.if_not (notLongL (by omega)) ?_)))
  show wpAny _ _ (updateSeq l (fun xs => xs.extract 0 ((p : Int)).toNat ++ bs.toArray ++ xs.extract (max (p : Int) (q : Int)).toNat xs.size) >>= _) _ _ s
  rw [top, Int.toNat_natCast]
  refine wpAny_bind (wpAny_updateSeq (hz := room1) (_hz' := room2) el rfl (wpAny_bind (wpAny_letGo ?_)))
  exact wpAny_pure ⟨.none, rfl, wpAny_pure k⟩
end
section
variable {X : Cx}
/-- xs[lo:hi] = ys -/
def gCut (to : TE) (tl th : TO) : TG := fun v σ H Q => to σ H fun o H1 => tl σ H1 fun lo H2 => th σ H2 fun hi H3 => ∃ l b xs ys, o = .ref l ∧ v = .ref b ∧ H3 l = some (.lst xs) ∧ H3 b = some (.lst ys) ∧ l ≠ b ∧
  HT.sIx xs.length 0 lo ≤ HT.sIx xs.length xs.length hi ∧ xs.length + ys.length ≤ sizeLine ∧ Q σ (upd H3 l (.lst (xs.take (HT.sIx xs.length 0 lo) ++ ys ++ xs.drop (HT.sIx xs.length xs.length hi))))
theorem pg_cut {e : Expr} {lo hi : Option Expr} {te : TE} {tl th : TO} {pos p2 : Pos} (he : PE X e te) (hl : PO X lo tl) (hh : PO X hi th) : PG X (.Subscript e (.Slice lo hi none p2) pos) (gCut te tl th) := by
  refine ⟨fun pins s σ H v u Q I r h => ?_⟩
  rw [arm_assign_Subscript]
  refine wpAny_bind (wpAny_holding (thn (he.run pins s σ H _ I h) fun ov s1 ⟨x, H1, I1, r1, q1⟩ => wpAny_bind (wpAny_holding ?_)))
  refine wpAny_Slice (thn (hl.run pins s1 σ H1 _ I1 q1) fun vl s2 ⟨l0, H2, I2, pl, q2⟩ => thn (hh.run pins s2 σ H2 _ I2 q2) fun vu s3 ⟨h0, H3, I3, pu, q3⟩ => ?_)
  rw [evalPart_none]
  refine wpAny_pure ?_
  obtain ⟨l, b, xs, ys, rfl, rfl, hL, hB, nlb, ord, room, q⟩ := q3
  cases r1
  cases r
  have I4 : Inv X pins σ H3 { s3 with heap := s3.heap.push { cls := .type "slice", data := .fields #[vl, vu, .none] } } := I3.kept (t' := s3.toks) fun c o z => Heap.get?_push_of_some _ z
  obtain ⟨_, as, n, ra, la, ea⟩ := I4.lstM hL
  obtain ⟨_, bs, n2, rb, lb, eb⟩ := I4.lstM hB
  refine wpAny_bind (wpAny_standAt (wpAny_bind (wpAny_holding (store_cut ea eb nlb (Heap.IsSliceOf.new ..) pl pu (by rw [← la]; exact ord) (by omega) (wpAny_release ?_)))))
  refine ⟨σ, _, I4.lset (its' := as.take (HT.sIx as.length 0 l0) ++ bs ++ as.drop (HT.sIx as.length as.length h0)) (t' := s3.toks) hL ea ?_ (Vals.append (Vals.append (ra.take _) rb) (ra.drop _)) ?_, ?_⟩
  · exact splice_eq as bs _ _
  · have := HT.sIx_le as.length as.length (Nat.le_refl _) h0
    have o2 := ord
    rw [la] at o2
    have l2 := rb.length
    rw [List.length_append, List.length_append, List.length_take, List.length_drop]; omega
  · rw [← la]; exact q
end

/-! ## reading a kind, sign by sign -/
inductive Pt where
  | s (c : Nat) | k (x : Kd)
def Pt.dat : Pt → PyData
  | .s c => .str (tx [c])
  | .k x => x.dat
def Pt.ok : Pt → Prop
  | .s _ => True
  | .k x => x.ok
/-- a sign alone -/
def rs (c : Nat) : Option Pt :=
  if c = 49 then some (.k .u) else if 97 ≤ c ∧ c < 105 then some (.k (.b (c - 97))) else if c = 40 ∨ c = 42 ∨ c = 62 then some (.s c) else none
/-- a brace is closed; the top of the stack first -/
def clo : List Pt → Option (List Pt)
  | .k y :: .s c :: .k x :: .s b :: r => if b = 40 then (if c = 42 then some (.k (.p x y) :: r) else if c = 62 then some (.k (.f x y) :: r) else none) else none
  | _ => none
def rdR : List Nat → List Pt → Option (List Pt)
  | [], st => some st
  | c :: cs, st => if c = 41 then (match clo st with | none => none | some st' => rdR cs st') else (match rs c with | none => none | some p => rdR cs (p :: st))
def rdE : List Pt → Option Kd
  | [.k x] => some x
  | _ => none
def rdK (cs : List Nat) : Option Kd := (rdR cs []).bind rdE
theorem rs_ok {c : Nat} {p : Pt} (h : rs c = some p) : p.ok := by
  unfold rs at h
  split at h
  · cases h; trivial
  · split at h
    · cases h; rename_i h2; show c - 97 < 8; omega
    · split at h
      · cases h; trivial
      · cases h
theorem clo_is {st st' : List Pt} (h : clo st = some st') : ∃ x y c r, st = .k y :: .s c :: .k x :: .s 40 :: r ∧ ((c = 42 ∧ st' = .k (.p x y) :: r) ∨ (c = 62 ∧ st' = .k (.f x y) :: r)) := by
  unfold clo at h
  split at h
  · rename_i y c x b r
    split at h
    · rename_i hb
      subst hb
      split at h
      · rename_i hc; cases h; exact ⟨x, y, c, r, rfl, .inl ⟨hc, rfl⟩⟩
      · split at h
        · rename_i hc; cases h; exact ⟨x, y, c, r, rfl, .inr ⟨hc, rfl⟩⟩
        · cases h
    · cases h
  · cases h
theorem clo_ok {st st' : List Pt} (h : clo st = some st') (hs : ∀ p ∈ st, p.ok) : (∀ p ∈ st', p.ok) ∧ st'.length ≤ st.length := by
  obtain ⟨x, y, c, r, rfl, h2⟩ := clo_is h
  have hx : x.ok := hs (.k x) (by simp)
  have hy : y.ok := hs (.k y) (by simp)
  have hr : ∀ p ∈ r, p.ok := fun p hp => hs p (by simp [hp])
  rcases h2 with ⟨_, rfl⟩ | ⟨_, rfl⟩
  · exact ⟨fun p hp => (List.mem_cons.mp hp).elim (fun e => by rw [e]; exact ⟨hx, hy⟩) (hr p), by simp only [List.length_cons]; omega⟩
  · exact ⟨fun p hp => (List.mem_cons.mp hp).elim (fun e => by rw [e]; exact ⟨hx, hy⟩) (hr p), by simp only [List.length_cons]; omega⟩
/-- reading a kind's text puts the kind on the stack -/
theorem rdR_cod : ∀ (k : Kd) (cs : List Nat) (st : List Pt), k.ok → rdR (k.cod ++ cs) st = rdR cs (.k k :: st)
  | .b n, cs, st, h => by
    have h' : n < 8 := h
    show (if 97 + n = 41 then _ else _) = _
    rw [if_neg (by omega)]
    have e : rs (97 + n) = some (.k (.b n)) := by
      unfold rs
      rw [if_neg (by omega), if_pos (by omega)]
      congr 3; omega
    rw [e]; rfl
  | .u, cs, st, _ => rfl
  | .p x y, cs, st, h => by
    show rdR (x.cod ++ 42 :: (y.cod ++ [41]) ++ cs) (.s 40 :: st) = _
    rw [List.append_assoc, rdR_cod x _ _ h.1]
    show rdR (y.cod ++ [41] ++ cs) (.s 42 :: .k x :: .s 40 :: st) = _
    rw [List.append_assoc, rdR_cod y _ _ h.2]; rfl
  | .f x y, cs, st, h => by
    show rdR (x.cod ++ 62 :: (y.cod ++ [41]) ++ cs) (.s 40 :: st) = _
    rw [List.append_assoc, rdR_cod x _ _ h.1]
    show rdR (y.cod ++ [41] ++ cs) (.s 62 :: .k x :: .s 40 :: st) = _
    rw [List.append_assoc, rdR_cod y _ _ h.2]; rfl
theorem rdK_cod (k : Kd) (h : k.ok) : rdK k.cod = some k := by
  have e := rdR_cod k [] [] h
  rw [List.append_nil] at e
  show (rdR k.cod []).bind rdE = some k
  rw [e]; rfl
/-- a stack that reads back to the signs that were taken -/
def Pt.cod : Pt → List Nat
  | .s c => [c]
  | .k x => x.cod
def codR (st : List Pt) : List Nat := (st.reverse.map Pt.cod).flatten
theorem codR_cons (p : Pt) (st : List Pt) : codR (p :: st) = codR st ++ p.cod := by simp [codR]
theorem rs_cod {c : Nat} {p : Pt} (h : rs c = some p) : p.cod = [c] := by
  unfold rs at h
  split at h
  · rename_i h1; cases h; rw [h1]; rfl
  · split at h
    · cases h; rename_i h2; show [97 + (c - 97)] = [c]; congr 1; omega
    · split at h
      · cases h; rfl
      · cases h
theorem rdR_text : ∀ (cs : List Nat) (st st' : List Pt), rdR cs st = some st' → codR st ++ cs = codR st'
  | [], st, st', h => by cases h; simp
  | c :: cs, st, st', h => by
    unfold rdR at h
    split at h
    · rename_i hc
      split at h
      · cases h
      · rename_i st2 e
        rw [← rdR_text cs st2 st' h]
        obtain ⟨x, y, d, r, rfl, h2⟩ := clo_is e
        rcases h2 with ⟨rfl, rfl⟩ | ⟨rfl, rfl⟩ <;> simp [codR_cons, Pt.cod, Kd.cod, hc]
    · split at h
      · cases h
      · rename_i p e
        rw [← rdR_text cs (p :: st) st' h, codR_cons, rs_cod e]; simp
/-- what is read is written so -/
theorem rdK_text {cs : List Nat} {k : Kd} (h : rdK cs = some k) : k.cod = cs := by
  unfold rdK at h
  cases e : rdR cs [] with
  | none => rw [e] at h; cases h
  | some st =>
    rw [e] at h
    have h2 : rdE st = some k := h
    unfold rdE at h2
    split at h2
    · cases h2
      have := rdR_text cs [] _ e
      simpa [codR, Pt.cod] using this.symm
    · cases h2
theorem rdR_ok : ∀ (cs : List Nat) (st st' : List Pt), rdR cs st = some st' → (∀ p ∈ st, p.ok) → ∀ p ∈ st', p.ok
  | [], st, st', h, hs => by cases h; exact hs
  | c :: cs, st, st', h, hs => by
    unfold rdR at h
    split at h
    · split at h
      · cases h
      · rename_i st2 e
        exact rdR_ok cs st2 st' h (clo_ok e hs).1
    · split at h
      · cases h
      · rename_i p e
        exact rdR_ok cs (p :: st) st' h fun q hq => (List.mem_cons.mp hq).elim (fun z => by rw [z]; exact rs_ok e) (hs q)
theorem rdK_ok {cs : List Nat} {k : Kd} (h : rdK cs = some k) : k.ok := by
  unfold rdK at h
  cases e : rdR cs [] with
  | none => rw [e] at h; cases h
  | some st =>
    rw [e] at h
    have h2 : rdE st = some k := h
    unfold rdE at h2
    split at h2
    · cases h2
      exact rdR_ok cs [] _ e (fun _ z => nomatch z) (.k k) (by simp)
    · cases h2
end KB
namespace KB
open PySem L2
theorem DqAll.last4 {K : PySem.W.Frag} {H : Hp} {ds : List PyData} {a b c d : PyData} {vs : List V} (h : DqAll K H vs (ds ++ [a, b, c, d])) :
    ∃ us v1 v2 v3 v4, vs = us ++ [v1, v2, v3, v4] ∧ DqAll K H us ds ∧ Dq K H v1 a ∧ Dq K H v2 b ∧ Dq K H v3 c ∧ Dq K H v4 d := by
  have h' : DqAll K H vs (((ds ++ [a]) ++ [b]) ++ [c] ++ [d]) := by simpa using h
  obtain ⟨u4, v4, rfl, h3, r4⟩ := h'.last
  obtain ⟨u3, v3, rfl, h2, r3⟩ := h3.last
  obtain ⟨u2, v2, rfl, h1, r2⟩ := h2.last
  obtain ⟨u1, v1, rfl, h0, r1⟩ := h1.last
  exact ⟨u1, v1, v2, v3, v4, by simp, h0, r1, r2, r3, r4⟩
end KB
namespace KB
open PySem L2
theorem Kd.ne_str (k : Kd) (x : Str) : PyData.eqv k.dat (.str x) = false := by cases k <;> simp [Kd.dat, PyData.eqv]
theorem str_lay {x : Str} (h : PyData.strOk x = true) : (PyData.str x).canLay0 = true := by simpa [PyData.canLay0] using h
end KB
namespace KB
open PySem L2
theorem rdR_close (cs : List Nat) (st : List Pt) : rdR (41 :: cs) st = (clo st).bind (rdR cs) := by
  show (if 41 = 41 then _ else _) = _
  rw [if_pos rfl]; cases clo st <;> rfl
theorem rdR_sign {c : Nat} (h : ¬ c = 41) (cs : List Nat) (st : List Pt) : rdR (c :: cs) st = (rs c).bind fun p => rdR cs (p :: st) := by
  show (if c = 41 then _ else _) = _
  rw [if_neg h]; cases rs c <;> rfl
/-! ## data without lists and dicts don't lean on what may change -/
mutual
def pureT : PyData → Bool
  | .none => true | .bool _ => true | .int _ => true | .str _ => true
  | .tuple xs => pureTs xs
  | .list _ => false | .dict _ => false
def pureTs : List PyData → Bool
  | [] => true
  | x :: xs => pureT x && pureTs xs
end
theorem Kd.pure : ∀ k : Kd, pureT k.dat = true
  | .b _ => by simp [Kd.dat, pureT, pureTs]
  | .u => by simp [Kd.dat, pureT, pureTs]
  | .p x y => by simp [Kd.dat, pureT, pureTs, x.pure, y.pure]
  | .f x y => by simp [Kd.dat, pureT, pureTs, x.pure, y.pure]
theorem SqT.outp {K : PySem.W.Frag} {H : Hp} {l a : Addr} {us xs : List V} (e : H l = some (.lst us)) (h : SqT K H a xs) : SqT K (out l H) a xs := by
  rcases h with (h | ⟨o, h⟩) | h
  · exact .inl (.inl (out_at (fun z => by rw [z, e] at h; cases h) h))
  · exact .inl (.inr ⟨o, out_at (fun z => by rw [z, e] at h; cases h) h⟩)
  · exact .inr h
mutual
theorem Dq.outp {K : PySem.W.Frag} {H : Hp} {l : Addr} {us : List V} (e : H l = some (.lst us)) : ∀ {d : PyData} {v : V}, pureT d = true → Dq K H v d → Dq K (out l H) v d
  | _, _, _, .non => .non
  | _, _, _, .bl b => .bl b
  | _, _, _, .int i => .int i
  | _, _, _, .str x => .str x
  | _, _, h, .tup s a => .tup (SqT.outp e s) (DqAll.outp e (by simpa [pureT] using h) a)
  | _, _, h, .lst _ _ => by simp [pureT] at h
  | _, _, h, .dct _ => by simp [pureT] at h
theorem DqAll.outp {K : PySem.W.Frag} {H : Hp} {l : Addr} {us : List V} (e : H l = some (.lst us)) : ∀ {ds : List PyData} {vs : List V}, pureTs ds = true → DqAll K H vs ds → DqAll K (out l H) vs ds
  | _, _, _, .nil => .nil
  | d :: ds, _, h, .cons x a => by
    have h' : pureT d = true ∧ pureTs ds = true := by simpa [pureTs] using h
    exact .cons (Dq.outp e h'.1 x) (DqAll.outp e h'.2 a)
end
theorem Pt.pure (p : Pt) : pureT p.dat = true := by
  cases p with
  | s c => simp [Pt.dat, pureT]
  | k x => exact x.pure
end KB
namespace KB
open PySem L2
theorem cal_vac {P : Program} {w : World} {K : PySem.W.Frag} {mg : Str → Option Value} {base : Heap} {CX : CXT} {k : Nat} {x : Str} {ps : List Str} {sp : Sp} {st : Stmt} (A : At K mg x st) (hb : ∀ f fd, Fun K x x st f fd → Binds K fd ps [])
    (no : ∀ vs H Q E, ¬ sp vs H Q E) : Cal P w K mg base CX k x ps sp := by
  obtain ⟨f, fd, F, m⟩ := A
  exact ⟨f, fd, ⟨fun vs H Q E h => absurd h (no vs H Q E), fun A outer s H args us vs Q E _ _ _ _ h => absurd h (no vs H Q E)⟩, hb f fd F, F.kp, m⟩
end KB

namespace KB
open PySem PySem.Spec PyProof.Rows L2
/-! ## isinstance of data -/
theorem Dq.tyx {K : PySem.W.Frag} {H : Hp} {v : V} {d : PyData} (h : Dq K H v d) : TyX K H v (.type (tyN d)) := by
  cases h with
  | non => exact .base .non
  | bl b => exact .base (.bl b)
  | int i => exact .base (.int i)
  | str x => exact .base (.str x)
  | lst s _ =>
    rcases s with (s | ⟨o, s⟩) | ⟨o, its, n, hk, hc, _⟩
    · exact .base (.lst s)
    · exact .base (.frz s)
    · exact .kList hk hc
  | tup s _ =>
    rcases s with (s | ⟨o, s⟩) | ⟨o, its, n, hk, hc, _⟩
    · exact .base (.tup s)
    · exact .fTuple s
    · exact .kTuple hk hc
  | dct e => exact .base (.dK e)
def isiN (T S : String) : Bool := T == S || (T == "bool" && S == "int")
def okS (S : String) : Bool := ["int", "str", "bool", "tuple", "list", "dict"].contains S
theorem kit_n (d : PyData) {S : String} (h : okS S = true) : kitB (tyN d) S = some (isiN (tyN d) S) := by
  have h' : S ∈ ["int", "str", "bool", "tuple", "list", "dict"] := by simpa [okS] using h
  have all : ∀ T ∈ ["NoneType", "bool", "int", "str", "list", "tuple", "dict"], ∀ S ∈ ["int", "str", "bool", "tuple", "list", "dict"], kitB T S = some (isiN T S) := by decide +kernel
  refine all _ ?_ S h'
  cases d <;> simp [tyN]
def rIsiD (K : PySem.W.Frag) : List V → Hp → VK → Prop := fun xs H Q => ∃ (x : V) (S : String) (d : PyData), xs = [x, .ty S] ∧ Dq K H x d ∧ okS S = true ∧ Q (.bl (isiN (tyN d) S)) H
theorem call_isiD {X : Cx} : CallR X (.builtin "isinstance") (rIsiD X.K) := by
  intro pins s σ H xs us Q I r ⟨x, S, d, e, hd, hs, q⟩
  exact call_isi pins s σ H xs us Q I r ⟨x, .ty S, _, .type S, _, e, .ty S, hd.tyx, kit_ty (kit_n d hs), q⟩
/-! ## equality of kinds -/
mutual
theorem eqv_refl : ∀ d : PyData, d.canLay0 = true → PyData.eqv d d = true
  | .none, _ => by simp [PyData.eqv]
  | .bool _, _ => by simp [PyData.eqv]
  | .int _, _ => by simp [PyData.eqv]
  | .str _, _ => by simp [PyData.eqv]
  | .list xs, h => by simp only [PyData.eqv]; exact eqvs_refl xs (by simpa [PyData.canLay0] using h)
  | .tuple xs, h => by simp only [PyData.eqv]; exact eqvs_refl xs (by simpa [PyData.canLay0] using h)
  | .dict _, h => by simp [PyData.canLay0] at h
theorem eqvs_refl : ∀ ds : List PyData, PyData.canLayAll0 ds = true → PyData.eqvAll ds ds = true
  | [], _ => by simp [PyData.eqvAll]
  | d :: ds, h => by
    have h' : d.canLay0 = true ∧ PyData.canLayAll0 ds = true := by simpa [PyData.canLayAll0] using h
    simp [PyData.eqvAll, eqv_refl d h'.1, eqvs_refl ds h'.2]
end
theorem str_ne {x y : Str} (h : x ≠ y) : (x == y) = false := beq_eq_false_iff_ne.mpr h
theorem ev_tup (xs ys : List PyData) : PyData.eqv (.tuple xs) (.tuple ys) = PyData.eqvAll xs ys := by simp only [PyData.eqv]
theorem ev_lst (xs ys : List PyData) : PyData.eqv (.list xs) (.list ys) = PyData.eqvAll xs ys := by simp only [PyData.eqv]
theorem ev_str (x y : Str) : PyData.eqv (.str x) (.str y) = (x == y) := by simp only [PyData.eqv]
theorem ev_int (x y : Int) : PyData.eqv (.int x) (.int y) = (x == y) := by simp only [PyData.eqv]
theorem ev_cons (x y : PyData) (xs ys : List PyData) : PyData.eqvAll (x :: xs) (y :: ys) = (PyData.eqv x y && PyData.eqvAll xs ys) := by simp only [PyData.eqvAll]
theorem ev_nil : PyData.eqvAll [] [] = true := by simp only [PyData.eqvAll]
theorem ev_nilc (y : PyData) (ys : List PyData) : PyData.eqvAll [] (y :: ys) = false := by simp only [PyData.eqvAll]
theorem ev_cnil (y : PyData) (ys : List PyData) : PyData.eqvAll (y :: ys) [] = false := by simp only [PyData.eqvAll]
theorem Kd.eqv (x : Kd) : ∀ y : Kd, PyData.eqv x.dat y.dat = decide (x = y) := by
  have n1 := str_ne (show ("both" : Str) ≠ "from" by decide)
  have n2 := str_ne (show ("from" : Str) ≠ "both" by decide)
  induction x with
  | b n =>
    intro y
    cases y with
    | b m =>
      simp only [Kd.dat, ev_tup, ev_cons, ev_nil, ev_str, ev_int, beq_self_eq_true, Bool.true_and, Bool.and_true]
      by_cases h : n = m
      · subst h; simp
      · rw [decide_eq_false (by intro z; cases z; exact h rfl)]
        exact beq_eq_false_iff_ne.mpr (by omega)
    | u => simp [Kd.dat, ev_tup, ev_cons, ev_str, ev_nil, ev_nilc, ev_cnil]
    | p _ _ => simp [Kd.dat, ev_tup, ev_cons, ev_str, ev_nil, ev_nilc, ev_cnil]
    | f _ _ => simp [Kd.dat, ev_tup, ev_cons, ev_str, ev_nil, ev_nilc, ev_cnil]
  | u =>
    intro y
    cases y <;> simp [Kd.dat, ev_tup, ev_cons, ev_str, ev_nil, ev_nilc, ev_cnil]
  | p a1 b1 ih1 ih2 =>
    intro y
    cases y with
    | b _ => simp [Kd.dat, ev_tup, ev_cons, ev_str, ev_nil, ev_nilc, ev_cnil]
    | u => simp [Kd.dat, ev_tup, ev_cons, ev_str, ev_nil, ev_nilc, ev_cnil]
    | f _ _ => simp [Kd.dat, ev_tup, ev_cons, ev_str, n1]
    | p c1 d1 =>
      simp only [Kd.dat, ev_tup, ev_cons, ev_nil, ev_str, beq_self_eq_true, Bool.true_and, Bool.and_true, ih1, ih2]
      by_cases h : a1 = c1 <;> by_cases h2 : b1 = d1 <;> simp [h, h2]
  | f a1 b1 ih1 ih2 =>
    intro y
    cases y with
    | b _ => simp [Kd.dat, ev_tup, ev_cons, ev_str, ev_nil, ev_nilc, ev_cnil]
    | u => simp [Kd.dat, ev_tup, ev_cons, ev_str, ev_nil, ev_nilc, ev_cnil]
    | p _ _ => simp [Kd.dat, ev_tup, ev_cons, ev_str, n2]
    | f c1 d1 =>
      simp only [Kd.dat, ev_tup, ev_cons, ev_nil, ev_str, beq_self_eq_true, Bool.true_and, Bool.and_true, ih1, ih2]
      by_cases h : a1 = c1 <;> by_cases h2 : b1 = d1 <;> simp [h, h2]
theorem Kd.cod_inj {x y : Kd} (hx : x.ok) (hy : y.ok) (h : x.cod = y.cod) : x = y := by
  have := rdK_cod x hx
  rw [h, rdK_cod y hy] at this
  exact (Option.some.inj this).symm
theorem Kd.txt_inj {x y : Kd} (hx : x.ok) (hy : y.ok) (h : x.txt = y.txt) : x = y := Kd.cod_inj hx hy (tx_inj h)
end KB
namespace KB
open PySem L2
/-- a displayed dict of two texts, asked by one of them -/
theorem dget2 {H : Hp} {p : Addr} {a b : Str} {x y : V} (hab : a ≠ b) : DGet (upd H p (.dK (mergeK [] [(Sum.inr a, x), (Sum.inr b, y)]))) p (.str a) (some x) ∧ DGet (upd H p (.dK (mergeK [] [(Sum.inr a, x), (Sum.inr b, y)]))) p (.str b) (some y) := by
  have n1 : ¬ ((Sum.inr a : Key) = Sum.inr b) := fun z => hab (Sum.inr.inj z)
  have e : mergeK [] [(Sum.inr a, x), (Sum.inr b, y)] = [((Sum.inr a : Key), x), (Sum.inr b, y)] := by simp [mergeK, putK, n1]
  rw [e]
  have k1 := DGet.k (k := Sum.inr a) (upd_same (H := H) (a := p) (o := .dK [((Sum.inr a : Key), x), (Sum.inr b, y)]))
  have k2 := DGet.k (k := Sum.inr b) (upd_same (H := H) (a := p) (o := .dK [((Sum.inr a : Key), x), (Sum.inr b, y)]))
  have v1 : valV [((Sum.inr a : Key), x), (Sum.inr b, y)] (Sum.inr a) = some x := by simp [valV]
  have v2 : valV [((Sum.inr a : Key), x), (Sum.inr b, y)] (Sum.inr b) = some y := by simp [valV, n1]
  rw [v1] at k1
  rw [v2] at k2
  exact ⟨k1, k2⟩
end KB
namespace KB
open PySem L2
/-- pairs and functions, told as one -/
structure Mk2 (mk : Kd → Kd → Kd) (wd : Str) : Prop where
  dat : ∀ x y, (mk x y).dat = .tuple [.str wd, x.dat, y.dat]
  ok : ∀ x y, (mk x y).ok ↔ x.ok ∧ y.ok
  leaves : ∀ x y, (mk x y).leaves = x.leaves + y.leaves
  deep : ∀ x y, (mk x y).deep = 1 + max x.deep y.deep
  wd : wd = "both" ∨ wd = "from"
theorem mk_p : Mk2 Kd.p "both" := ⟨fun _ _ => rfl, fun _ _ => Iff.rfl, fun _ _ => rfl, fun _ _ => rfl, .inl rfl⟩
theorem mk_f : Mk2 Kd.f "from" := ⟨fun _ _ => rfl, fun _ _ => Iff.rfl, fun _ _ => rfl, fun _ _ => rfl, .inr rfl⟩
/-- a kind is a leaf, or made of two -/
theorem Kd.cases2 {K : PySem.W.Frag} {H : Hp} {v : V} (k : Kd) (hd : Dq K H v k.dat) :
    (∃ a xs, v = .ref a ∧ SqT K H a xs ∧ xs.length < 3 ∧ k.leaves = 1) ∨
    ∃ (mk mk2 : Kd → Kd → Kd) (wd od : Str) (x y : Kd) (a : Addr) (v1 v2 : V), k = mk x y ∧ Mk2 mk wd ∧ Mk2 mk2 od ∧ ((wd = "both" ∧ od = "from") ∨ (wd = "from" ∧ od = "both")) ∧ v = .ref a ∧ SqT K H a [.str wd, v1, v2] ∧ Dq K H v1 x.dat ∧ Dq K H v2 y.dat := by
  cases k with
  | b n =>
    cases hd with
    | tup hS hA => exact .inl ⟨_, _, rfl, hS, by rw [hA.length]; show 2 < 3; decide, rfl⟩
  | u =>
    cases hd with
    | tup hS hA => exact .inl ⟨_, _, rfl, hS, by rw [hA.length]; show 1 < 3; decide, rfl⟩
  | p x y =>
    cases hd with
    | tup hS hA =>
      cases hA with
      | cons h1 h2 =>
        cases h1
        cases h2 with
        | cons h3 h4 =>
          cases h4 with
          | cons h5 h6 =>
            cases h6
            exact .inr ⟨_, _, _, _, x, y, _, _, _, rfl, mk_p, mk_f, .inl ⟨rfl, rfl⟩, rfl, hS, h3, h5⟩
  | f x y =>
    cases hd with
    | tup hS hA =>
      cases hA with
      | cons h1 h2 =>
        cases h1
        cases h2 with
        | cons h3 h4 =>
          cases h4 with
          | cons h5 h6 =>
            cases h6
            exact .inr ⟨_, _, _, _, x, y, _, _, _, rfl, mk_f, mk_p, .inr ⟨rfl, rfl⟩, rfl, hS, h3, h5⟩
theorem Mk2.dq {K : PySem.W.Frag} {H : Hp} {mk : Kd → Kd → Kd} {wd : Str} (M : Mk2 mk wd) {a : Addr} {v1 v2 : V} {x y : Kd} (h : H a = some (.tup [.str wd, v1, v2])) (h1 : Dq K H v1 x.dat) (h2 : Dq K H v2 y.dat) : Dq K H (.ref a) (mk x y).dat := by
  rw [M.dat]
  exact .tup (.of h) (.cons (.str _) (.cons h1 (.cons h2 .nil)))
end KB
namespace KB
open PySem L2
theorem at_mk {K : PySem.W.Frag} {h : Heap} {mg : Str → Option Value} {x : Str} {st : Stmt} {f : Addr} {od an : Option Addr} {sl : Array (Option Value)} {oc kV dc pm cd ct : Value} (X : K.In h) (G : h.Ns mainGlobals mg)
    (a : PySem.W.nsIn K mainGlobals x = some (some (.ref f))) (l : K.lookup f = some ⟨oc, od, .func (PySem.W.fnOf x x (defArgs st) (defBody st) (defScope st) .none kV dc pm an cd ct), sl⟩) (c : PySem.W.codeIn K cd x = true) (k : PySem.W.keepIn K (.ref f) = true) : At K mg x st :=
  ⟨f, _, fun_mk (st := st) l c k, PySem.W.mg_of X G a⟩
theorem ds_mk {K : PySem.W.Frag} {h : Heap} {mg : Str → Option Value} {w : World} {x : Str} {d : Addr} {es : Array DictEntry} {n : Nat} {kvs : List (Str × V)} (X : K.In h) (G : h.Ns mainGlobals mg)
    (a : PySem.W.nsIn K mainGlobals x = some (some (.ref d))) (l : K.lookup d = some ⟨.type "dict", none, .dict es n, #[]⟩) (k : PySem.W.KeysLit w.params es.toList) (s : (d == sysModules) = false) (e : Ents kvs es.toList) : ∃ d, mg x = some (.ref d) ∧ DictS K w d kvs :=
  ⟨d, PySem.W.mg_of X G a, es, n, l, k, s, e⟩
theorem exc_mk {K : PySem.W.Frag} {h : Heap} {mg : Str → Option Value} {x : Str} {C : Addr} (X : K.In h) (G : h.Ns mainGlobals mg)
    (a : PySem.W.nsIn K mainGlobals x = some (some (.ref C))) (q : PySem.W.excIn K C [.type "ValueError", .type "Exception", .type "BaseException", .type "object"] "ValueError.__new__" = true) (k : PySem.W.keepIn K (.ref C) = true)
    (b : PySem.W.subIn K (.ref C) (.type "BaseException") = some true) (t : PySem.W.typeIn K (.ref C) = some (.type "type")) (i : PySem.W.isClsIn K C = true) (s : PySem.W.subIn K (.ref C) (.ref C) = some true) : ExcF K mg x C :=
  ⟨PySem.W.mg_of X G a, q, k, b, t, i, s⟩
end KB

namespace KB
open PySem PySem.Spec PyProof.Rows L2
/-! ## what is raised is caught by the first clause, whichever clauses follow -/
def wHit (K : PySem.W.Frag) (C : Addr) (c : Value) (i : Nat) (ts : Addr → TS) (D : Ends) : WX := fun cls d σ H =>
  cls = .ref C ∧ d = none ∧ PySem.W.exmOne K (.ref C) c = some true ∧ ∀ a, H a = none → ts a { nx := fun z H' => D.nx (z.set i none) H', rt := D.rt, bk := fun z H' => D.bk (z.set i none) H', ct := fun z H' => D.ct (z.set i none) H' } (σ.set i (some (.ref a))) H
theorem ps_try_hit {X : Cx} {x n : Str} {c : Value} {i : Nat} {body suite : List Stmt} {b₀ : Stmt} {np pos pos' : Pos} {hds : List ExceptHandler} {tb : WX → TS} {ts : Addr → TS} {C : Addr}
    (hs : X.stack = X.env :: X.outer) (hf : X.env.frame = some X.env.locals) (hN : X.N.Nodup) (hi : X.N[i]? = some n) (hln : X.env.kindOf n = some .local) (hc : Names X x c)
    (hb : ∀ (W : WX) (pn : List (Addr × Obj)) (xe : Value → Shared → Prop), Takes (X.tr pn xe) W → PassesOwn (model X.prog X.w) X.A X.env xe → PSs (X.tr pn xe) body (tb W))
    (hsu : ∀ (a : Addr) (oe : Obj) (pn : List (Addr × Obj)), Zc (.ref C) none oe → (∃ vs, oe.data = .fields vs) → PSs (X.suite a ((a, oe) :: pn)) (b₀ :: suite) (ts a)) :
    PS X (.Try body (.ExceptHandler (some (.Name x np)) (some n) (b₀ :: suite) pos' :: hds) [] [] pos) (fun D σ H => tb (wHit X.K C c i ts D) D σ H) := by
  refine ⟨fun pins s σ H D I h => ?_⟩
  have ok := I.ok
  have hfr : X.A.frames = some (X.env :: X.outer) := by rw [ok.frames, hs]
  refine wpAny_Try_except (wpAny_mono ((hb (wHit X.K C c i ts D) (X.pn ++ pins) _ (fun u s' xx => ?take) PassesOwn.looking).run [] s σ H D (Inv.toTry I _) h) (fun f s1 hsp => ?_) fun e s1 he => he)
  case take =>
    obtain ⟨a, B, sI, pins', σ', H', cls, d, rfl, J', nb, up, sky, na, os, ag, rfl, rfl, hit, yes⟩ := xx
    have J := Inv.ofTry J' ok
    have sky2 : Sky B (X.env :: X.outer) a (Zc (.ref C) none) X.env.locals s'.heap := hs ▸ sky
    refine Sky.land Zc.steady hfr hf sky2 fun h3 fl3 up3 => ?_
    have J3 := Inv.landed (s' := { heap := h3, gens := s'.gens, drawn := s'.drawn, toks := s'.toks, os := s'.os }) J nb fl3.left (up.trans up3) os ag
    obtain ⟨oe3, vs3, he3, hz3, hd3⟩ := HandSPX.FlyingZ.there fl3
    have far : a ∉ List.filterMap (fun y : Env => y.frame) (X.env :: X.outer) := fun hm => by
      obtain ⟨_, o', e', hnf⟩ := Heap.FunFrames.mem fl3.2.2.1 hm
      rw [he3] at e'
      cases e'
      exact hnf vs3 hd3
    have nL : a ≠ X.env.locals := fun z => far (List.mem_filterMap.mpr ⟨X.env, List.mem_cons_self, by rw [hf, z]⟩)
    have nF : a ∉ X.fs := fun hm => by
      obtain ⟨y, hy, q⟩ := List.mem_filterMap.mp hm
      exact far (List.mem_filterMap.mpr ⟨y, List.mem_cons_of_mem _ hy, q⟩)
    have S3 := Inv.suite J3 he3 hd3 na nL nF
    refine wpAny_handleBy_cons (codeAny_handlers_test ?_) (fun z => nomatch z)
    have LT : PySem.W.Looks (model X.prog X.w) h3 (typeOf (.ref a)) (.ref C) := fun A Q E s k q => wpAny_typeOf_ref (k a oe3 he3) (by rw [hz3.1]; exact q)
    have LM := PySem.W.exm_one J3.kIn LT hit
    have test : ∀ {Q : Value → Shared → Prop} {E : Value → Shared → Prop}, Q c { heap := h3, gens := s'.gens, drawn := s'.drawn, toks := s'.toks, os := s'.os } →
        wpAny (model X.prog X.w) (X.A.mark (some (.ref a))) (eval (.Name x np) X.env) Q E { heap := h3, gens := s'.gens, drawn := s'.drawn, toks := s'.toks, os := s'.os } := fun q => by
      obtain ⟨hg, hdbg, hm | ⟨hm, hv, hnn⟩⟩ := hc
      · exact ld_glob S3 hg hm q hdbg
      · exact ld_blt S3 hg hm hv q hnn hdbg
    refine test (PySem.W.Looks.here LM ?_)
    refine codeAny_handlers_suite_as (HandSPX.lands_againZ fl3 fun h4 fl4 up4 => ?_)
    have J4 := Inv.landed (s' := { heap := h4, gens := s'.gens, drawn := s'.drawn, toks := s'.toks, os := s'.os }) J nb fl4.left ((up.trans up3).trans up4) os ag
    obtain ⟨oe4, vs4, he4, hz4, hd4⟩ := HandSPX.FlyingZ.there fl4
    have S4 := Inv.suite J4 he4 hd4 na nL nF
    refine store_ok (X := X.suite a ((a, oe4) :: (X.pn ++ pins))) S4 hN hi (.inl hln) (v := .ref a) rfl (fun s5 S5 => ?_) (.inr hln)
    refine wpAny_mono ((hsu a oe4 (X.pn ++ pins) hz4 ⟨vs4, hd4⟩).run [] s5 _ H' _ S5 (yes a na)) (fun f s6 hsp => ?_) fun _ _ z => False.elim z
    cases f with
    | next => obtain ⟨σ6, H6, S6, q6⟩ := hsp; exact gone_ok (Inv.unsuite S6 ok) hN hi hln fun s7 J7 => ⟨_, H6, J7, q6⟩
    | brk => obtain ⟨σ6, H6, S6, q6⟩ := hsp; exact gone_ok (Inv.unsuite S6 ok) hN hi hln fun s7 J7 => ⟨_, H6, J7, q6⟩
    | cont => obtain ⟨σ6, H6, S6, q6⟩ := hsp; exact gone_ok (Inv.unsuite S6 ok) hN hi hln fun s7 J7 => ⟨_, H6, J7, q6⟩
    | ret u => obtain ⟨v6, σ6, H6, S6, r6, q6⟩ := hsp; exact gone_ok (Inv.unsuite S6 ok) hN hi hln fun s7 J7 => ⟨v6, _, H6, J7, r6, q6⟩
  · cases f with
    | next => obtain ⟨σ', H', J', q⟩ := hsp; exact wpAny_execs_nil ⟨σ', H', Inv.ofTry J' ok, q⟩
    | brk => obtain ⟨σ', H', J', q⟩ := hsp; exact ⟨σ', H', Inv.ofTry J' ok, q⟩
    | cont => obtain ⟨σ', H', J', q⟩ := hsp; exact ⟨σ', H', Inv.ofTry J' ok, q⟩
    | ret u => obtain ⟨v, σ', H', J', r, q⟩ := hsp; exact ⟨v, σ', H', Inv.ofTry J' ok, r, q⟩
/-! ## isinstance of what was caught: one class, a tuple of classes -/
def rCaught (K : PySem.W.Frag) (D a : Addr) : List V → Hp → VK → Prop := fun xs H Q => rIsE K D a xs H Q ∨
  ∃ (tp : Addr) (cs : List V) (us : List Value) (b : Bool), xs = [.ref a, .ref tp] ∧ H tp = some (.tup cs) ∧ Paired ClsV cs us ∧ PySem.W.kitAny K (.ref D) us = some b ∧ Q (.bl b) H
theorem call_caught {X : Cx} {a D : Addr} {oe : Obj} {pn : List (Addr × Obj)} (C : ExcC X.K D) (hz : Zc (.ref D) none oe) (hf : ∃ vs, oe.data = .fields vs) :
    CallR (X.suite a ((a, oe) :: pn)) (.builtin "isinstance") (rCaught X.K D a) := by
  intro pins s σ H xs us Q I r h
  rcases h with h | ⟨tp, cs, ws, b, rfl, hT, k, e, q⟩
  · exact call_isE C hz hf pins s σ H xs us Q I r h
  · obtain ⟨u1, u2, rfl, r1, r2⟩ := L2.vals2 r
    cases r1
    cases r2
    obtain ⟨hget, _⟩ := I.pin (a, oe) (List.mem_append.mpr (.inl List.mem_cons_self))
    obtain ⟨vs, hv⟩ := hf
    obtain ⟨oc, od, dt, sl⟩ := oe
    obtain ⟨h1, h2⟩ := hz
    cases h1
    cases h2
    cases hv
    have J : PySem.W.InstAt s.heap a ⟨.ref D, none, .fields vs, sl⟩ D none := ⟨hget, rfl, rfl, trivial⟩
    obtain ⟨_, its, rv, o, e1, e2, n, e3⟩ := I.hok tp (.tup cs) hT
    have e4 := ClsV.all k rv
    subst e4
    obtain ⟨oc2, od2, dt2, sl2⟩ := o
    cases e2
    cases e3
    exact PySem.W.kia_tup (PySem.W.handS_kitx_exc C.hg C.hk C.hs C.hd C.ha C.hn C.ht C.hm) I.kIn J e1 e (fun z => nomatch z) fun tk => ⟨.bl b, H, Inv.tok I tk, rfl, q⟩
/-! ## s[::-1] of a text: some text, no longer -/
def tRevT (te : TE) : TE := fun σ H Q => te σ H fun x H1 => ∃ z : Str, x = .str z ∧ z.length ≤ sizeLine ∧ ∀ y : Str, y.length ≤ z.length → Q (.str y) H1
theorem back_length (n : Nat) : (PySem.Builtin.Str.strSliceIndices none none (-1) n).length ≤ n := by
  simp only [PySem.Builtin.Str.strSliceIndices, PySem.sliceRange, List.length_map, List.length_range]
  simp only [show ¬ ((-1 : Int) > 0) by decide, if_false]
  split
  · simp
  · simp
theorem back_text (z : Str) : (⟨(List.filterMap (fun x => z.cps[x]?) (PySem.Builtin.Str.strSliceIndices none none (-1) z.length)).toArray⟩ : Str).length ≤ z.length := by
  have a : (⟨(List.filterMap (fun x => z.cps[x]?) (PySem.Builtin.Str.strSliceIndices none none (-1) z.length)).toArray⟩ : Str).length = (List.filterMap (fun x => z.cps[x]?) (PySem.Builtin.Str.strSliceIndices none none (-1) z.length)).length := rfl
  rw [a]
  exact Nat.le_trans (List.length_filterMap_le _ _) (back_length _)
theorem pe_revT {X : Cx} {e : Expr} {te : TE} {k : Nat} {p1 p2 p3 pos : Pos} (he : PE X e te) : PE X (.Subscript e (.Slice none none (some (.UnaryOp .USub (.Constant (.int 1) k p1) p2)) p3) pos) (tRevT te) := by
  refine ⟨fun pins s σ H Q I h => Subscript_ (thn (he.run pins s σ H _ I h) ?_)⟩
  rintro v s1 ⟨x, H1, I1, r1, z, rfl, hz, q⟩
  obtain ⟨t, rfl⟩ := r1
  refine wpAny_Slice (thn (po_none.run pins s1 σ H1 (fun o H2 => o = none ∧ H2 = H1) I1 ⟨rfl, rfl⟩) ?_)
  rintro vl s2 ⟨o2, H2, I2, pl, rfl, rfl⟩
  refine thn (po_none.run pins s2 σ H2 (fun o H3 => o = none ∧ H3 = H2) I2 ⟨rfl, rfl⟩) ?_
  rintro vu s3 ⟨o3, H3, I3, pu, rfl, rfl⟩
  have hst : PO X (some (.UnaryOp .USub (.Constant (.int 1) k p1) p2)) _ := po_some (pe_un un_neg pe_int)
  refine thn (hst.run pins s3 σ H3 (fun o H4 => o = some (-1) ∧ H4 = H3) I3 ⟨1, rfl, -1, rfl, rfl, rfl⟩) ?_
  rintro vs s4 ⟨o4, H4, I4, ps, rfl, rfl⟩
  obtain ⟨l1, rfl, e1⟩ := IsPart.raw pl
  obtain ⟨l2, rfl, e2⟩ := IsPart.raw pu
  obtain ⟨l3, rfl, e3⟩ := IsPart.raw ps
  have I5 := Inv.kept (h' := s4.heap.push { cls := .type "slice", data := .fields #[partValue l1, partValue l2, partValue l3] }) (t' := s4.toks) I4 fun b ob q => Heap.get?_push_of_some _ q
  refine tail_any (typeIs_str _ z t) PySem.F.slot_str_getitem.lookup (wpAny_getItem_str_slice (l := l1) (u := l2) (st := l3) ⟨_, Heap.get?_push_size s4.heap rfl, rfl, rfl⟩ (by rw [e3]; rfl) ?_) rfl
  have hp : slicePicked z l1 l2 l3 = PySem.Builtin.Str.strSliceIndices none none (-1) z.length := by
    unfold slicePicked
    rw [e1, e2, e3]; rfl
  unfold sliceMade
  rw [hp, e3, if_neg (by simp)]
  exact ⟨Nat.le_trans (back_text z) hz, .str _, H4, Inv.tok I5 _, ⟨_, rfl⟩, q _ (back_text z)⟩
/-! ## a text, told some times: some text, no longer than that -/
def rTimes : R2 := fun x y H Q => ∃ (z : Str) (n : Int), x = .str z ∧ y = .int n ∧ 0 ≤ n ∧ n ≤ 1000000 ∧ z.length * n.toNat ≤ 1000000 ∧ ∀ u : Str, u.length ≤ z.length * n.toNat → Q (.str u) H
theorem rep_length (n : Nat) (a : Array Nat) : (List.foldl (fun x1 x2 => x1 ++ x2) #[] (List.replicate n a)).size = a.size * n := by
  have h : ∀ (m : Nat) (b : Array Nat), (List.foldl (fun x1 x2 => x1 ++ x2) b (List.replicate m a)).size = b.size + a.size * m := by
    intro m
    induction m with
    | zero => intro b; simp
    | succ m ih => intro b; rw [List.replicate_succ, List.foldl_cons, ih, Array.size_append, Nat.mul_succ]; omega
  rw [h]; simp
theorem op_times {X : Cx} : OpR X (binaryOp .Mult) rTimes := by
  intro pins s σ H x y v u Q I rx ry ⟨z, n, ex, ey, h0, h1, hz, q⟩
  subst ex
  subst ey
  obtain ⟨t, rfl⟩ := rx
  obtain ⟨t', rfl⟩ := ry
  have hs : z.length * n.toNat ≤ sizeLine := Nat.le_trans hz (by decide)
  refine P.mul_str (by rw [decide_eq_false (by omega), decide_eq_false (by omega)]; rfl) (fun _ _ => ?_) (fun _ _ => ?_) ?_
  · have e : ((z.length * n.toNat : Nat) : Int) = (z.length : Int) * n := by rw [Int.natCast_mul, Int.toNat_of_nonneg h0]
    intro hb
    have h3 : (z.length : Int) * n ≤ 1000000 := by rw [← e]; exact Int.ofNat_le.mpr hz
    by_cases hn : n = 0
    · subst hn; omega
    · have : (z.length : Int) ≤ (2 ^ 63 - 1) / n := Int.le_ediv_of_mul_le (by omega) (by omega)
      omega
  · unfold PySem.Builtin.Str.tooLong
    exact decide_eq_false (Nat.not_lt.mpr hs)
  · split
    · exact ⟨Nat.zero_le _, .str _, H, Inv.tok I _, ⟨_, rfl⟩, q _ (Nat.zero_le _)⟩
    · split
      · rename_i hn hc
        refine ⟨.str z, H, I, ⟨_, rfl⟩, q _ ?_⟩
        have : n = 1 ∨ z.length = 0 := by simpa using hc
        rcases this with rfl | h
        · simp
        · omega
      · refine ⟨?_, .str _, H, Inv.tok I _, ⟨_, rfl⟩, q _ ?_⟩
        · show (List.foldl (fun x1 x2 => x1 ++ x2) #[] (List.replicate n.toNat z.cps)).size ≤ sizeLine
          rw [rep_length]; exact hs
        · show (List.foldl (fun x1 x2 => x1 ++ x2) #[] (List.replicate n.toNat z.cps)).size ≤ _
          rw [rep_length]; exact Nat.le_refl _
def rMulT : R2 := fun x y H Q => rMulA x y H Q ∨ rTimes x y H Q
theorem op_mulT {X : Cx} : OpR X (binaryOp .Mult) rMulT := op_mulA.or op_times
/-! ## within a clause: rules that speak of the whole, not of the clause -/
theorem ix_BS {X : Cx} {a : Addr} {pn : List (Addr × Obj)} : IxR (X.suite a pn) (rIxB X.K X.w) := ix_B (X := X.suite a pn)
/-- a call within a try -/
theorem pe_calS {X : Cx} {CX : CXT} {k : Nat} {x : Str} {ps : List Str} {sp : Sp} {E : L2.St → XK} {p pos : Pos} {e : Expr} {es : List Expr} {t : TA} (C : Cal X.prog X.w X.K X.mg X.base CX k x ps sp) (hr : Room k X.A) (hx : ∀ σ : L2.St, PassesAt CX X σ (E σ)) (ha : PA X (e :: es) t)
    (hg : Gl X x := by rfl) (hdb : (x == ("__debug__" : Str)) = false := by decide) (he : starEach (e :: es) X.env = (false, eval e X.env) :: starEach es X.env := by rfl) (hpl : (backTo pos (starEach es X.env)).any (·.1) = false := by rfl) :
    PE X (.Call (.Name x p) (e :: es) [] pos) (tCallS sp E t) := by
  obtain ⟨f, fd, F, b, kp, m⟩ := C
  exact pe_callS F hr hg m kp b hx ha hdb he hpl
/-! ## facts of a class of errors, from the head -/
theorem ExcF.hit {K : PySem.W.Frag} {mg : Str → Option Value} {x : Str} {C : Addr} (F : ExcF K mg x C) : PySem.W.exmOne K (.ref C) (.ref C) = some true := by
  have i : (PySem.W.clsIn K C).isSome = true := F.i
  simp only [PySem.W.exmOne, PySem.W.kitCls, F.b, F.t, F.s, i]
  rfl
theorem excC_mk {K : PySem.W.Frag} {h : Heap} {mg : Str → Option Value} {x : Str} {D : Addr} (_ : K.In h) (_ : ExcF K mg x D) (hg : PySem.W.findIn K (.ref D) "__getattribute__" = some (some (.builtin "BaseException.__getattribute__"))) (hk : PySem.W.findIn K (.ref D) "__getattr__" = some none) (hs : PySem.W.subIn K (.ref D) (.type "BaseException") = some true)
    (hd : PySem.W.hasDictIn K D = true) (ha : PySem.W.findIn K (.ref D) "__class__" = some (some (.builtin "object.__class__"))) (hn : PySem.W.specialIn K (.builtin "object.__class__") "__get__" = some (some (.builtin "getset_descriptor.__get__"))) (ht : PySem.W.takesIn K (.builtin "object.__class__") = some true) (hm : PySem.W.mroIn K D (.type "object") = some true) : ExcC K D := ⟨hg, hk, hs, hd, ha, hn, ht, hm⟩
theorem kitOne_mk {K : PySem.W.Frag} {h : Heap} {mg : Str → Option Value} {x : Str} {D : Addr} {T : String} {b : Bool} (_ : K.In h) (_ : ExcF K mg x D) (e : PySem.W.kitOne K (.ref D) (.type T) = some b) : PySem.W.kitOne K (.ref D) (.type T) = some b := e
theorem cls_mk {K : PySem.W.Frag} {h : Heap} {mg : Str → Option Value} {x : Str} {D : Addr} (X : K.In h) (G : h.Ns mainGlobals mg) (a : PySem.W.nsIn K mainGlobals x = some (some (.ref D))) : mg x = some (.ref D) := PySem.W.mg_of X G a
theorem kitAny_mk {K : PySem.W.Frag} {h : Heap} {mg : Str → Option Value} {x y z : Str} {D A B : Addr} {b : Bool} (_ : K.In h) (_ : ExcF K mg x D) (_ : mg y = some (.ref A)) (_ : mg z = some (.ref B)) (e : PySem.W.kitAny K (.ref D) [.ref A, .ref B] = some b) : PySem.W.kitAny K (.ref D) [.ref A, .ref B] = some b := e
end KB

namespace KB
open PySem PySem.Spec PyProof.Rows L2
/-! ## defs that are called where no repr is under way -/
structure FnG (P : Program) (w : World) (K : PySem.W.Frag) (mg : Str → Option Value) (base : Heap) (CX : CXT) (k : Nat) (f : Addr) (fd : FuncData) (ps : List Str) (sp : Sp) : Prop where
  len : ∀ vs H Q E, sp vs H Q E → vs.length = ps.length
  run : ∀ (A : Around) (outer : List Env) (s : Shared) (H : Hp) (args : Args) (us : List Value) (vs : List V) (Q : VK) (E : XK), Room k A → A.guards = some [] → Env0 P w K mg base A outer s H → BindsTo s fd args (ps.zip us) → Vals vs us → sp vs H Q E →
    codeAny (model P w) A (.call (.ref f) args) (CR CX outer P w H s Q E) s
theorem FnOk.toG {P : Program} {w : World} {K : PySem.W.Frag} {mg : Str → Option Value} {base : Heap} {CX : CXT} {k : Nat} {f : Addr} {fd : FuncData} {ps : List Str} {sp : Sp} (F : FnOk P w K mg base CX k f fd ps sp) : FnG P w K mg base CX k f fd ps sp :=
  ⟨F.len, fun A outer s H args us vs Q E hr _ e0 hb r h => F.run A outer s H args us vs Q E hr e0 hb r h⟩
theorem fnG_of {CX : CXT} {P : Program} {w : World} {K : PySem.W.Frag} {mg : Str → Option Value} {base : Heap} {k : Nat} {f : Addr} {name qual : Str} {params : Arguments} {body : List Stmt} {scope : Scope} {dV kV doc pm cdv ct oc : Value} {an od : Option Addr} {osl : Array (Option Value)} {N ps : List Str} {sp : Sp}
    (lk : K.lookup f = some ⟨oc, od, .func (PySem.W.fnOf name qual params body scope dV kV doc pm an cdv ct), osl⟩) (hcd : PySem.W.codeIn K cdv qual = true) (S : FnScope N ps scope) (len : ∀ vs H Q E, sp vs H Q E → vs.length = ps.length)
    (hbody : ∀ (A : Around) (outer : List Env) (s : Shared) (H : Hp) (vs : List V) (Q : VK) (E : XK), A.guards = some [] → Room k (A.deeper (envOfC qual scope s.heap.objs.size f cdv)) → sp vs H Q E →
      ∃ t, PSs (cxOf CX P w K mg base N qual scope f cdv A outer s H E) body t ∧ t { nx := fun _ H' => Q .non H', rt := Q } (L2.start N vs) H) :
    FnG P w K mg base CX (k + 1) f (PySem.W.fnOf name qual params body scope dV kV doc pm an cdv ct) ps sp := by
  refine ⟨len, fun A outer s H args us vs Q E hr hg e0 hb r hsp => ?_⟩
  have hl := len vs H Q E hsp
  have KX : K.In s.heap := PySem.W.Frag.In.keeps e0.mod.kin fun b o e => (e0.bs b o e).1
  have lim : s.heap.NoLimit := Heap.NoLimit.keeps e0.mod.nolimit fun b o e => (e0.bs b o e).1
  refine codeAny_call_function hr.depth (KX f _ lk) rfl S.co S.gen rfl (PySem.W.codeRec_of KX hcd) (hb (model P w) A.in1 (fun e s' => CR CX outer P w H s Q E (.error e) s') _ (wpAny_newFunctionEnv_cells S.kind ?_ ?_))
  · rintro ⟨n, v⟩ hy
    rcases S.par n (List.of_mem_zip hy).1 with q | q
    · exact .inl q
    · exact .inr ⟨q, PySem.W.cellsFrom_some scope.names (s.heap.objs.size + 1) [] (.inl q)⟩
  · intro env he s1 x
    subst he
    refine ⟨Heap.NoLimit.keeps lim x.toInCall.keep, codeAny_func ?_⟩
    obtain ⟨t, ht, hq⟩ := hbody A outer s H vs Q E hg (Room.deeper hr (envOfC qual scope s.heap.objs.size f cdv)) hsp
    have I := inv_start (CX := CX) (E := E) S hr.hd e0 hl r x
    refine wpAny_mono (ht.run [] s1 (L2.start N vs) H _ I hq) (fun fl s' hs => ?_) fun e s' hs => hs
    cases fl with
    | next => obtain ⟨σ', H', J, q⟩ := hs; exact ⟨.non, H', J.os, J.bare, J.base, J.hok, rfl, q⟩
    | brk => obtain ⟨_, _, _, q⟩ := hs; exact q.elim
    | cont => obtain ⟨_, _, _, q⟩ := hs; exact q.elim
    | ret u => obtain ⟨v, σ', H', J, rv, q⟩ := hs; exact ⟨v, H', J.os, J.bare, J.base, J.hok, rv, q⟩
theorem okG {P : Program} {w : World} {K : PySem.W.Frag} {mg : Str → Option Value} {base : Heap} {x qual : Str} {st : Stmt} {f : Addr} {fd : FuncData} {N ps : List Str} {k : Nat} {sp : Sp} (F : Fun K x qual st f fd) (S : FnScope N ps (defScope st)) (len : ∀ vs H Q E, sp vs H Q E → vs.length = ps.length)
    (hbody : ∀ (cdv : Value) (A : Around) (outer : List Env) (s : Shared) (H : Hp) (vs : List V) (Q : VK) (E : XK), A.guards = some [] → Room k (A.deeper (envOfC qual (defScope st) s.heap.objs.size f cdv)) → sp vs H Q E →
      ∃ t, PSs (cxOf CX0 P w K mg base N qual (defScope st) f cdv A outer s H E).nox (defBody st) t ∧ t { nx := fun _ H' => Q .non H', rt := Q } (L2.start N vs) H) :
    FnG P w K mg base CX0 (k + 1) f fd ps sp := by
  obtain ⟨oc, od, kV, doc, pm, an, cdv, ct, osl, rfl, lk, hcd⟩ := F.ex
  refine fnG_of lk hcd S len fun A outer s H vs Q E hg hr hsp => ?_
  obtain ⟨t, h, q⟩ := hbody cdv A outer s H vs Q E hg hr hsp
  exact ⟨t, PSs.nox h, q⟩
theorem run_fnG {X : Cx} {CX : CXT} {k : Nat} {f : Addr} {fd : FuncData} {ps : List Str} {sp : Sp} {E : XK} {pins : List (Addr × Obj)} {σ : L2.St} {H : Hp} {s : Shared} {Q : VK} {us : List Value} {vs : List V}
    (F : FnG X.prog X.w X.K X.mg X.base CX k f fd ps sp) (hr : Room k X.A) (hg : X.A.guards = some []) (hb : Binds X.K fd ps []) (hx : Passes CX X E) (I : L2.Inv X pins σ H s) (r : Vals vs us) (h : sp vs H Q E) :
    wpAny (model X.prog X.w) X.A (call (.ref f) us) (EP X pins σ Q) X.xe s := by
  have hl : us.length = ps.length := by rw [← r.length]; exact F.len vs H Q E h
  have hb2 := hb s us I.kIn (by rw [List.append_nil]; exact hl)
  rw [List.append_nil] at hb2
  refine wpAny_call (codeAny_mono (F.run X.A X.stack s H ⟨us, []⟩ us vs Q E hr hg I.env0 hb2 r h) fun rs s' hq => ?_)
  cases rs with
  | error e => exact hx pins σ H s e s' I hq
  | ok fl =>
    cases fl with
    | ret u => exact I.after hq
    | next => exact hq.elim
    | brk => exact hq.elim
    | cont => exact hq.elim
/-- a def's promise, where no repr is under way -/
def CalG (P : Program) (w : World) (K : PySem.W.Frag) (mg : Str → Option Value) (base : Heap) (CX : CXT) (k : Nat) (x : Str) (ps : List Str) (sp : Sp) : Prop :=
  ∃ f fd, FnG P w K mg base CX k f fd ps sp ∧ Binds K fd ps [] ∧ PySem.W.keepIn K (.ref f) = true ∧ mg x = some (.ref f)
theorem pe_calG {X : Cx} {CX : CXT} {k : Nat} {x : Str} {ps : List Str} {sp : Sp} {E : XK} {p pos : Pos} {e : Expr} {es : List Expr} {t : TA} (hg0 : X.A.guards = some []) (C : CalG X.prog X.w X.K X.mg X.base CX k x ps sp) (hr : Room k X.A) (hx : Passes CX X E) (ha : PA X (e :: es) t)
    (hg : Gl X x := by rfl) (hdb : (x == ("__debug__" : Str)) = false := by decide) (he : starEach (e :: es) X.env = (false, eval e X.env) :: starEach es X.env := by rfl) (hpl : (backTo pos (starEach es X.env)).any (·.1) = false := by rfl) :
    PE X (.Call (.Name x p) (e :: es) [] pos) (tCall sp [] E t) := by
  obtain ⟨f, fd, F, b, kp, m⟩ := C
  refine ⟨fun pins s σ H Q I h => wpAny_Call_Name_kw (ld_glob I hg m (PySem.W.callWith_K I.ok.mod.kin kp (thn (ha.run pos pins s σ H _ I h) ?_) he hpl) hdb)⟩
  rintro us s1 ⟨vs, H1, I1, r, q⟩
  have q' : sp vs H1 Q E := by have := q; rwa [List.append_nil] at this
  exact ⟨I1.kIn, run_fnG F hr hg0 b hx I1 r q'⟩
/-! ## the law's call, and its end -/
theorem law_callG {P : Program} {w : World} {K : PySem.W.Frag} {mg mb : Str → Option Value} {k : Nat} {fa a : Addr} {fd : FuncData} {x : Str} {sp : Sp} {s₁ : Shared} {vs : List Value} {ns : List Int}
    (KX : K.In s₁.heap) (hns : s₁.heap.Ns mainGlobals mg) (hb : s₁.heap.Ns builtinsNs mb) (hbb : ∀ x : Str, x ≠ "__name__" → mb x = bootBuiltins x) (hlim : s₁.heap.NoLimit) (hg : s₁.gens = #[]) (ha : s₁.heap.get? a = some { cls := .type "list", data := .seq vs.toArray }) (hi : IntsAre vs ns) (hl : ns.length ≤ sizeLine) (hr : Room k callerA)
    (F : ∀ base : Heap, K.In base → base.Ns mainGlobals mg → FnG P w K mg base CX0 k fa fd [x] sp) (hbind : ∀ (s : Shared) (u : Value), BindsTo s fd ⟨[u], []⟩ [(x, u)])
    (hsp : ∀ H : Hp, Only H → SqL K H a (ns.map V.int) → sp [.ref a] H (fun v _ => v = .bl true) fun _ _ _ => False) :
    codeAny (model P w) callerA (.call (.ref fa) ⟨[.ref a], []⟩) (fun r s' => r = .ok (.ret (.bool true)) ∧ OldK s₁.heap s'.heap ∧ s'.os = s₁.os ∧ AllBare s'.gens) s₁ := by
  have rv := vals_ints hi
  have lenV : vs.length = ns.length := by have := rv.length; rw [List.length_map] at this; exact this.symm
  -- whichever of the two shapes
  have core : ∀ H : Hp, Only H → SqL K H a (ns.map V.int) → HOk P w H s₁.heap → (∀ b, H b ≠ none → b = a) → (H a ≠ none → K.lookup a = none) →
      codeAny (model P w) callerA (.call (.ref fa) ⟨[.ref a], []⟩) (fun r s' => r = .ok (.ret (.bool true)) ∧ OldK s₁.heap s'.heap ∧ s'.os = s₁.os ∧ AllBare s'.gens) s₁ := by
    intro H hO hS hok hA hK
    have noA : ∀ {b : Addr} {o : Obj} {es : Array DictEntry} {ep : Nat}, s₁.heap.get? b = some o → o.data = .dict es ep → H b = none := by
      intro b o es ep e d
      cases q : H b with
      | none => rfl
      | some u =>
        have e2 := hA b (by rw [q]; simp)
        subst e2
        rw [ha] at e
        cases e
        cases d
    have nsK : ∀ {b : Addr} {m : Str → Option Value}, s₁.heap.Ns b m → (hidT s₁.heap H).Ns b m := by
      rintro b m ⟨o, es, ep, e, d, r⟩
      exact ⟨o, es, ep, hidT_get e (noA e d), d, r⟩
    have hKb : K.In (hidT s₁.heap H) := by
      intro b o e
      refine hidT_get (KX b o e) ?_
      cases q : H b with
      | none => rfl
      | some u =>
        have e2 := hA b (by rw [q]; simp)
        subst e2
        have := hK (by rw [q]; simp)
        rw [this] at e
        cases e
    have hM : L2.Mod K mg (hidT s₁.heap H) := ⟨hKb, nsK hns, ⟨mb, nsK hb, hbb⟩, by obtain ⟨mc, h1, h2⟩ := hlim; exact ⟨mc, nsK h1, h2⟩⟩
    have e0 : Env0 P w K mg (hidT s₁.heap H) callerA [] s₁ H := ⟨rfl, hM, fun b o e => of_hidT e, Nat.le_of_eq (hidT_size s₁.heap H), trivial, fun b h => absurd h List.not_mem_nil, hok, AllBare.of_eq hg⟩
    refine codeAny_mono ((F _ hKb (nsK hns)).run callerA [] s₁ H ⟨[.ref a], []⟩ [.ref a] [.ref a] (fun v _ => v = .bl true) (fun _ _ _ => False) hr rfl e0 (hbind s₁ (.ref a)) (.cons rfl .nil) (hsp H hO hS)) fun r s' h => ?_
    cases r with
    | error e => exact absurd h (by intro z; exact z.elim)
    | ok fl =>
      cases fl with
      | next => exact h.elim
      | brk => exact h.elim
      | cont => exact h.elim
      | ret u =>
        obtain ⟨v, H', os, bare, un, hok', r', q⟩ := h
        have q' : v = .bl true := q
        subst q'
        cases r'
        refine ⟨rfl, OldK.of_keep fun b o e => ?_, os, bare⟩
        cases q2 : H b with
        | none => exact un.keep b o e q2 (fun z => absurd z List.not_mem_nil) List.not_mem_nil
        | some u2 =>
          rcases hO b with z | ⟨ob, xs, z⟩
          · rw [q2] at z; cases z
          · have z2 := un.frzs b ob (.lst xs) z
            obtain ⟨e1, _⟩ := hok b _ z
            obtain ⟨e2, _⟩ := hok' b _ z2
            rw [e] at e1
            cases e1
            exact e2
  cases hk : K.lookup a with
  | none =>
    refine core (fun b => if b = a then some (.frz { cls := .type "list", data := .seq vs.toArray } (.lst (ns.map V.int))) else none) (fun b => ?_) (.inl (.inr ⟨_, if_pos rfl⟩)) (fun b u z => ?_) (fun b z => ?_) fun _ => hk
    · by_cases h : b = a
      · exact .inr ⟨_, _, if_pos h⟩
      · exact .inl (if_neg h)
    · by_cases h : b = a
      · subst h
        have z' := (if_pos rfl).symm.trans z
        cases z'
        exact ⟨ha, by rw [List.length_map]; exact hl, vs, 0, rv, ha⟩
      · have z' := (if_neg h).symm.trans z
        cases z'
    · by_cases h : b = a
      · exact h
      · exact absurd (if_neg h) z
  | some o =>
    have e := KX a o hk
    rw [ha] at e
    cases e
    refine core (fun _ => none) (fun _ => .inl rfl) (.inr ⟨_, vs.toArray, 0, hk, rfl, rfl, rfl, by rw [List.size_toArray, lenV]; exact hl, rv⟩) (fun b u z => by cases z) (fun b z => absurd rfl z) fun z => absurd rfl z
theorem walk_ofG {l : PySem.W.OpenLaw} {n k : Nat} {q : Program} {loose : List Str} {XP : (Str → Option Value) → Heap → Prop} {YP : World → Heap → Prop} {d : DefRec} {K : Params → PySem.W.Frag} {sp : World → Sp} {x : Str} (hn : l.most = some n) (hn2 : n ≤ sizeLine) (hdf : d.params.defaults = []) (hr : Room k callerA)
    (hY : ∀ (w : World) (h : Heap), YP w h → (K w.params).In h)
    (F : ∀ (w : World) (mg : Str → Option Value) (fa : Addr) (h : Heap), (K w.params).In h → h.Ns mainGlobals mg → mg d.name = some (.ref fa) →
      ∃ fd : FuncData, (∀ (s : Shared) (u : Value), BindsTo s fd ⟨[u], []⟩ [(x, u)]) ∧ ∀ base : Heap, (K w.params).In base → base.Ns mainGlobals mg → FnG l.prog w (K w.params) mg base CX0 k fa fd [x] (sp w))
    (hsp : ∀ (w : World) (H : Hp) (a : Addr) (ns : List Int), ns.length ≤ n → Only H → SqL (K w.params) H a (ns.map V.int) → sp w [.ref a] H (fun v _ => v = .bl true) fun _ _ _ => False) :
    PySem.W.WalkO q loose XP YP l.row.toRowW d [] fun f vs => call f vs := by
  refine Att.attach_call hn hdf fun w s₀ s₁ mg mb fa o pm cd doc a vs ns G Y ho hd hcd hmg hobj hints hlen hg => ?_
  have KX := hY w s₁.heap Y
  obtain ⟨fd, hb, hF⟩ := F w mg fa s₁.heap KX G.T.g hmg
  exact law_callG KX G.T.g G.T.b G.T.builtins G.T.nolimit hg hobj hints (Nat.le_trans hlen hn2) hr hF hb fun H hO hS => hsp w H a ns hlen hO hS
end KB

namespace KB
open PySem PySem.Spec PyProof.Rows L2
/-! ## data with empty dicts, read as a whole -/
mutual
/-- no list in it -/
def noL : PyData → Bool
  | .list _ => false
  | .tuple ds => noLs ds
  | _ => true
def noLs : List PyData → Bool
  | [] => true
  | d :: r => noL d && noLs r
end
theorem emptyDict {X : Cx} {pins : List (Addr × Obj)} {σ : L2.St} {H : Hp} {s : Shared} (I : L2.Inv X pins σ H s) {a : Addr} (h : H a = some (.dK [])) :
    (a == sysModules) = false ∧ ∃ o n, s.heap.get? a = some o ∧ o.cls = .type "dict" ∧ o.data = .dict #[] n := by
  obtain ⟨_, e, vs, hk, o, es, ep, h1, h2, h3, h4, h5, h6⟩ := I.hok a (.dK []) h
  cases hk
  obtain ⟨el⟩ := es
  cases h5
  exact ⟨e, o, ep, h1, h2.1, h3⟩
mutual
theorem Dq.reads {X : Cx} {pins : List (Addr × Obj)} {σ : L2.St} {H : Hp} {s : Shared} (I : L2.Inv X pins σ H s) : ∀ {d : PyData} {v : V} {u : Value}, Dq X.K H v d → L2.RelV v u → ∃ as, Reads s.heap u d as ∧ (noL d = true → sysModules ∉ as)
  | _, _, _, .non, r => by cases r; exact ⟨[], .none, fun _ => List.not_mem_nil⟩
  | _, _, _, .bl b, r => by cases r; exact ⟨[], .bool b, fun _ => List.not_mem_nil⟩
  | _, _, _, .int i, r => by obtain ⟨t, rfl⟩ := r; exact ⟨[], .int i t, fun _ => List.not_mem_nil⟩
  | _, _, _, .str x, r => by obtain ⟨t, rfl⟩ := r; exact ⟨[], .str x t, fun _ => List.not_mem_nil⟩
  | _, _, _, .lst h hs, r => by
    cases r
    obtain ⟨its, rv, pl, _⟩ := I.list h
    obtain ⟨o, e1, e2, n, e3⟩ := PlainL.isList pl
    obtain ⟨as, ra, _⟩ := DqAll.reads I hs rv
    exact ⟨_, .list e1 e2 e3 (by simpa using ra), fun z => by cases z⟩
  | _, _, _, .tup h hs, r => by
    cases r
    obtain ⟨its, rv, it, _⟩ := I.tuple h
    obtain ⟨o, e1, e2, n, e3⟩ := it
    obtain ⟨as, ra, z⟩ := DqAll.reads I hs rv
    exact ⟨_, .tuple e1 e2 e3 (by simpa using ra), fun q => z (by simpa [noL] using q)⟩
  | _, _, _, .dct h, r => by
    cases r
    obtain ⟨ne, o, n, e1, e2, e3⟩ := emptyDict I h
    refine ⟨_, .dict e1 e2 e3 .nil .nil, fun _ => ?_⟩
    simp only [List.append_nil, List.mem_singleton]
    intro z
    rw [← z] at ne
    simp at ne
theorem DqAll.reads {X : Cx} {pins : List (Addr × Obj)} {σ : L2.St} {H : Hp} {s : Shared} (I : L2.Inv X pins σ H s) : ∀ {ds : List PyData} {vs : List V} {us : List Value}, DqAll X.K H vs ds → Vals vs us → ∃ as, ReadsAll s.heap us ds as ∧ (noLs ds = true → sysModules ∉ as)
  | _, _, _, .nil, r => by cases r; exact ⟨[], .nil, fun _ => List.not_mem_nil⟩
  | _, _, _, .cons h hs, r => by
    cases r with
    | cons r1 r2 =>
      obtain ⟨as, ra, za⟩ := Dq.reads I h r1
      obtain ⟨bs, rb, zb⟩ := DqAll.reads I hs r2
      refine ⟨_, .cons ra rb, fun q => ?_⟩
      simp only [noLs, Bool.and_eq_true] at q
      rw [List.mem_append]
      rintro (h | h)
      · exact za q.1 h
      · exact zb q.2 h
end
/-! ## a tuple beside the empty one, beside a text alone; a list beside the empty one -/
section
variable {X : Cx}
def rEqNil (K : PySem.W.Frag) : R2 := fun x y H Q => ∃ p q xs, x = .ref p ∧ y = .ref q ∧ SqT K H p xs ∧ SqT K H q [] ∧ Q (.bl xs.isEmpty) H
def rNeHd (K : PySem.W.Frag) : R2 := fun x y H Q => ∃ p q a r b, x = .ref p ∧ y = .ref q ∧ SqT K H p (.str a :: r) ∧ SqT K H q [.str b] ∧ Q (.bl (!(a == b && r.isEmpty))) H
def rNeNilL (K : PySem.W.Frag) : R2 := fun x y H Q => ∃ p q xs, x = .ref p ∧ y = .ref q ∧ SqL K H p xs ∧ SqL K H q [] ∧ Q (.bl (!xs.isEmpty)) H
theorem op_eqNil (hu : X.A.units < cLine) : OpR X (compareOp .Eq) (rEqNil X.K) := by
  rintro pins s σ H x y v u Q I rx ry ⟨p, q, xs, rfl, rfl, hp, hq, h⟩
  cases rx
  cases ry
  obtain ⟨it1, r1, t1, _⟩ := I.tuple hp
  obtain ⟨it2, r2, t2, _⟩ := I.tuple hq
  cases r2
  have e := SeqAt.RcAt.tuples (A := X.A) (s := s) (e := fun _ => true) t1 t2 hu (fun j _ h2 => by simp at h2)
  have el : ((List.range (min it1.toArray.size ([] : List Value).toArray.size)).all (fun _ => true) && it1.toArray.size == ([] : List Value).toArray.size) = xs.isEmpty := by
    have := r1.length
    cases xs <;> cases it1 <;> simp at this ⊢
  rw [el] at e
  exact e _ _ _ _ ⟨.bl _, H, I, rfl, h⟩
theorem op_neHd (hu : X.A.units < cLine) : OpR X (compareOp .NotEq) (rNeHd X.K) := by
  rintro pins s σ H x y v u Q I rx ry ⟨p, q, a, r, b, rfl, rfl, hp, hq, h⟩
  cases rx
  cases ry
  obtain ⟨it1, r1, t1, _⟩ := I.tuple hp
  obtain ⟨it2, r2, t2, _⟩ := I.tuple hq
  cases r1 with
  | cons ra rr =>
    cases r2 with
    | cons rb rr2 =>
      cases rr2
      obtain ⟨ta, rfl⟩ := ra
      obtain ⟨tb, rfl⟩ := rb
      rename_i us
      have e := SeqAt.RcNeAt.tuples (A := X.A) (s := s) (e := fun _ => a == b) t1 t2 hu (fun j h1 h2 => by
        have : j = 0 := by simpa using h2
        subst this
        exact SeqAt.EqAt.str_str a ta b tb)
      have el : ((List.range (min (Value.str a ta :: us).toArray.size [Value.str b tb].toArray.size)).all (fun _ => a == b) && (Value.str a ta :: us).toArray.size == [Value.str b tb].toArray.size) = (a == b && r.isEmpty) := by
        have := rr.length
        cases r <;> cases us <;> simp at this ⊢
      rw [el] at e
      exact e _ _ _ _ ⟨.bl _, H, I, rfl, h⟩
theorem op_neNilL (hu : X.A.units < cLine) : OpR X (compareOp .NotEq) (rNeNilL X.K) := by
  rintro pins s σ H x y v u Q I rx ry ⟨p, q, xs, rfl, rfl, hp, hq, h⟩
  cases rx
  cases ry
  obtain ⟨it1, r1, t1, _⟩ := I.list hp
  obtain ⟨it2, r2, t2, _⟩ := I.list hq
  cases r2
  cases r1 with
  | nil =>
    have e := SeqAt.RcNeAt.lists (A := X.A) (s := s) (e := fun _ => true) (PlainL.isList t1) (PlainL.isList t2) rfl hu (fun j h1 _ => by simp at h1)
    exact e _ _ _ _ ⟨.bl _, H, I, rfl, h⟩
  | cons _ _ =>
    have e := SeqAt.RcNeAt.lists_lengths (A := X.A) (s := s) (PlainL.isList t1) (PlainL.isList t2) (by simp) hu
    exact e _ _ _ _ ⟨.bl _, H, I, rfl, h⟩
end
/-! ## repr of data -/
def rRepr (K : PySem.W.Frag) : List V → Hp → VK → Prop := fun xs H Q => ∃ x d, xs = [x] ∧ Dq K H x d ∧ d.showable = true ∧ (d.hasDict = true → noL d = true) ∧ d.depth ≤ 190 ∧ d.shown.length ≤ sizeLine ∧ Q (.str d.shown) H
theorem call_reprD {X : Cx} (hg : X.A.guards = some []) (hu : X.A.units + 200 < cLine) : CallR X (.builtin "repr") (rRepr X.K) := by
  rintro pins s σ H xs us Q I r ⟨x, d, rfl, hd, hsh, hno, hdp, hlen, q⟩
  cases r with
  | cons rx rr =>
    cases rr
    obtain ⟨as, ra, hs⟩ := Dq.reads I hd rx
    cases hd with
    | non => cases rx; exact P.repr_of_none ⟨.str _, H, Inv.tok I _, ⟨_, rfl⟩, q⟩
    | bl b => cases rx; refine P.repr_of_bool ⟨.str (if b = true then "True" else "False"), H, Inv.tok I _, ⟨_, rfl⟩, ?_⟩; cases b <;> exact q
    | int i =>
      obtain ⟨t, rfl⟩ := rx
      exact P.repr_of_int (by rw [PyData.showable] at hsh; exact of_decide_eq_true hsh) ⟨.str _, H, Inv.tok I _, ⟨_, rfl⟩, q⟩
    | str z =>
      obtain ⟨t, rfl⟩ := rx
      exact P.repr_of_str ⟨.str _, H, Inv.tok I _, ⟨_, rfl⟩, q⟩ hlen
    | lst h hs' =>
      cases rx
      exact repr_of_reads' ra hsh (fun z => hs (hno z)) hg (by omega) (fun _ _ e => e) (fun h' u tk k => ⟨.str _, H, I.kept k, ⟨_, rfl⟩, q⟩) hlen
    | tup h hs' =>
      cases rx
      exact repr_of_reads' ra hsh (fun z => hs (hno z)) hg (by omega) (fun _ _ e => e) (fun h' u tk k => ⟨.str _, H, I.kept k, ⟨_, rfl⟩, q⟩) hlen
    | dct h =>
      cases rx
      exact repr_of_reads' ra hsh (fun z => hs (hno z)) hg (by omega) (fun _ _ e => e) (fun h' u tk k => ⟨.str _, H, I.kept k, ⟨_, rfl⟩, q⟩) hlen
/-! ## small data: what its repr is at most -/
mutual
def Sm : PyData → Bool
  | .none => true
  | .bool _ => true
  | .int i => decide (i.natAbs ≤ 20)
  | .str x => x.cps.toList.all (fun c => decide (c < 128)) && decide (x.cps.size ≤ 10)
  | .list xs => Sms xs
  | .tuple xs => Sms xs
  | .dict kvs => kvs.isEmpty
def Sms : List PyData → Bool
  | [] => true
  | d :: r => Sm d && Sms r
end
theorem small_int (i : Int) (h : i.natAbs ≤ 20) : (PyData.int i).shown.length ≤ 10 ∧ (PyData.int i).showable = true := by
  have a : ∀ n : Fin 21, (PyData.int (n.val : Int)).shown.length ≤ 10 ∧ (PyData.int (n.val : Int)).showable = true := by decide +kernel
  have b : ∀ n : Fin 21, (PyData.int (-(n.val : Int))).shown.length ≤ 10 ∧ (PyData.int (-(n.val : Int))).showable = true := by decide +kernel
  rcases Int.natAbs_eq i with e | e <;> rw [e]
  · exact a ⟨i.natAbs, by omega⟩
  · exact b ⟨i.natAbs, by omega⟩
mutual
theorem Sm.fine : ∀ d : PyData, Sm d = true → d.showable = true ∧ PyData.leavesShort 10 d = true ∧ d.bulk + 3 ≤ 13 * sz d
  | .none, _ => ⟨by rw [PyData.showable], by rw [PyData.leavesShort], by simp [PyData.bulk, sz]⟩
  | .bool _, _ => ⟨by rw [PyData.showable], by rw [PyData.leavesShort], by simp [PyData.bulk, sz]⟩
  | .int i, h => by
    have h' : i.natAbs ≤ 20 := of_decide_eq_true h
    exact ⟨(small_int i h').2, by rw [PyData.leavesShort]; exact decide_eq_true (small_int i h').1, by simp [PyData.bulk, sz]⟩
  | .str x, h => by
    have h' : (x.cps.toList.all fun c => decide (c < 128)) = true ∧ x.cps.size ≤ 10 := by
      rw [Sm, Bool.and_eq_true] at h
      exact ⟨h.1, of_decide_eq_true h.2⟩
    refine ⟨by rw [PyData.showable], ?_, by simp only [PyData.bulk, sz]; omega⟩
    rw [PyData.leavesShort, List.all_eq_true]
    intro c hc
    have := of_decide_eq_true (List.all_eq_true.mp h'.1 c hc)
    exact decide_eq_true (Nat.lt_trans this (by decide))
  | .list xs, h => by
    have := Sms.fine xs (by rwa [Sm] at h)
    exact ⟨by rw [PyData.showable]; exact this.1, by rw [PyData.leavesShort]; exact this.2.1, by simp only [PyData.bulk, sz]; omega⟩
  | .tuple xs, h => by
    have := Sms.fine xs (by rwa [Sm] at h)
    exact ⟨by rw [PyData.showable]; exact this.1, by rw [PyData.leavesShort]; exact this.2.1, by simp only [PyData.bulk, sz]; omega⟩
  | .dict [], _ => ⟨by rw [PyData.showable, PyData.showableKv], by rw [PyData.leavesShort, PyData.leavesShortKv], by simp [PyData.bulk, PyData.bulkKv, sz]⟩
  | .dict (_ :: _), h => by rw [Sm] at h; cases h
theorem Sms.fine : ∀ ds : List PyData, Sms ds = true → PyData.showableAll ds = true ∧ PyData.leavesShortAll 10 ds = true ∧ PyData.bulkAll ds ≤ 13 * szs ds
  | [], _ => ⟨by rw [PyData.showableAll], by rw [PyData.leavesShortAll], by simp [PyData.bulkAll]⟩
  | d :: r, h => by
    rw [Sms, Bool.and_eq_true] at h
    have a := Sm.fine d h.1
    have b := Sms.fine r h.2
    have c := sz_pos d
    exact ⟨by rw [PyData.showableAll, a.1, b.1]; rfl, by rw [PyData.leavesShortAll, a.2.1, b.2.1]; rfl, by simp only [PyData.bulkAll, szs]; omega⟩
end
/-- what a law's thing is like: small, and not both a list and a dict in it -/
structure Fine (d : PyData) : Prop where
  sm : Sm d = true
  nd : d.hasDict = true → noL d = true
theorem Fine.shown {d : PyData} (f : Fine d) (h : sz d ≤ 10000) : d.shown.length ≤ sizeLine := by
  have a := Sm.fine d f.sm
  have b := PyData.shown_le_bulk 10 (by decide) d a.2.1
  exact fits (by omega)
theorem Kd.noD : ∀ k : Kd, k.dat.hasDict = false ∧ noL k.dat = true
  | .b _ => by simp [Kd.dat, PyData.hasDict, PyData.hasDictAll, noL, noLs]
  | .u => by simp [Kd.dat, PyData.hasDict, PyData.hasDictAll, noL, noLs]
  | .p x y => by simp [Kd.dat, PyData.hasDict, PyData.hasDictAll, noL, noLs, Kd.noD x, Kd.noD y]
  | .f x y => by simp [Kd.dat, PyData.hasDict, PyData.hasDictAll, noL, noLs, Kd.noD x, Kd.noD y]
theorem Kd.sm : ∀ k : Kd, k.ok → Sm k.dat = true
  | .b n, h => by
    have h' : n < 8 := h
    have e : Sm (.str "base") = true := by decide +kernel
    simp only [Kd.dat, Sm, Sms, Bool.and_true] at e ⊢
    rw [e]
    simp
    omega
  | .u, _ => by decide +kernel
  | .p x y, h => by
    have e : Sm (.str "both") = true := by decide +kernel
    simp only [Kd.dat, Sm, Sms, Kd.sm x h.1, Kd.sm y h.2, Bool.and_true] at e ⊢
    exact e
  | .f x y, h => by
    have e : Sm (.str "from") = true := by decide +kernel
    simp only [Kd.dat, Sm, Sms, Kd.sm x h.1, Kd.sm y h.2, Bool.and_true] at e ⊢
    exact e
theorem Kd.fine (k : Kd) (h : k.ok) : Fine k.dat := ⟨k.sm h, fun z => by rw [k.noD.1] at z; cases z⟩
end KB

namespace KB
open PySem PySem.Spec PyProof.Rows L2
/-! ## factors, and the order of tuples on them -/
inductive Fc where
  | mk (ws : List Fc) (n : Nat)
namespace Fc
mutual
def dat : Fc → PyData
  | mk ws n => .tuple [.tuple (dats ws), .int n]
def dats : List Fc → List PyData
  | [] => []
  | f :: r => dat f :: dats r
end
mutual
def cmp : Fc → Fc → Ordering
  | mk ws n, mk vs m => (cmps ws vs).then (compare n m)
def cmps : List Fc → List Fc → Ordering
  | [], [] => .eq
  | [], _ :: _ => .lt
  | _ :: _, [] => .gt
  | a :: r, b :: s => (cmp a b).then (cmps r s)
end
mutual
theorem cmp_eq : ∀ a b : Fc, cmp a b = .eq ↔ a = b
  | mk ws n, mk vs m => by
    rw [cmp, Ordering.then_eq_eq, cmps_eq ws vs, Nat.compare_eq_eq, mk.injEq]
theorem cmps_eq : ∀ a b : List Fc, cmps a b = .eq ↔ a = b
  | [], [] => by simp [cmps]
  | [], _ :: _ => by simp [cmps]
  | _ :: _, [] => by simp [cmps]
  | a :: r, b :: s => by rw [cmps, Ordering.then_eq_eq, cmp_eq a b, cmps_eq r s, List.cons.injEq]
end
mutual
theorem cmp_swap : ∀ a b : Fc, cmp b a = (cmp a b).swap
  | mk ws n, mk vs m => by
    rw [cmp, cmp, Ordering.swap_then, cmps_swap ws vs, Nat.compare_swap]
theorem cmps_swap : ∀ a b : List Fc, cmps b a = (cmps a b).swap
  | [], [] => by simp [cmps]
  | [], _ :: _ => by simp [cmps]
  | _ :: _, [] => by simp [cmps]
  | a :: r, b :: s => by rw [cmps, cmps, Ordering.swap_then, cmp_swap a b, cmps_swap r s]
end
mutual
theorem cmp_tr : ∀ a b c : Fc, cmp a b = .lt → cmp b c = .lt → cmp a c = .lt
  | mk ws n, mk vs m, mk us k => by
    rw [cmp, cmp, cmp, Ordering.then_eq_lt, Ordering.then_eq_lt, Ordering.then_eq_lt, Nat.compare_eq_lt, Nat.compare_eq_lt, Nat.compare_eq_lt]
    rintro (h1 | ⟨h1, h2⟩) (h3 | ⟨h3, h4⟩)
    · exact .inl (cmps_tr ws vs us h1 h3)
    · rw [cmps_eq] at h3; subst h3; exact .inl h1
    · rw [cmps_eq] at h1; subst h1; exact .inl h3
    · rw [cmps_eq] at h1 h3; subst h1; subst h3; exact .inr ⟨(cmps_eq _ _).mpr rfl, by omega⟩
theorem cmps_tr : ∀ a b c : List Fc, cmps a b = .lt → cmps b c = .lt → cmps a c = .lt
  | [], [], c => by simp [cmps]
  | [], _ :: _, [] => by simp [cmps]
  | [], _ :: _, _ :: _ => by simp [cmps]
  | _ :: _, [], _ => by simp [cmps]
  | _ :: _, _ :: _, [] => by simp [cmps]
  | a :: r, b :: s, c :: t => by
    rw [cmps, cmps, cmps, Ordering.then_eq_lt, Ordering.then_eq_lt, Ordering.then_eq_lt]
    rintro (h1 | ⟨h1, h2⟩) (h3 | ⟨h3, h4⟩)
    · exact .inl (cmp_tr a b c h1 h3)
    · rw [cmp_eq] at h3; subst h3; exact .inl h1
    · rw [cmp_eq] at h1; subst h1; exact .inl h3
    · rw [cmp_eq] at h1 h3; subst h1; subst h3; exact .inr ⟨(cmp_eq _ _).mpr rfl, cmps_tr r s t h2 h4⟩
end
def lt (a b : Fc) : Bool := cmp a b == .lt
theorem swo : SrtO.Swo lt := by
  refine ⟨fun x y h => ?_, fun x y z h1 h2 => ?_⟩
  · have h' : cmp x y = .lt := by simpa [lt] using h
    simp [lt, cmp_swap x y, h']
  · have h1' : cmp y x ≠ .lt := by simpa [lt] using h1
    have h2' : cmp z y ≠ .lt := by simpa [lt] using h2
    have : cmp z x ≠ .lt := by
      intro h
      cases e : cmp y x with
      | lt => exact h1' e
      | eq => rw [cmp_eq] at e; subst e; exact h2' h
      | gt => exact h2' (cmp_tr z x y h (by rw [cmp_swap y x, e]; rfl))
    simpa [lt] using this
mutual
theorem lay : ∀ f : Fc, (dat f).canLay0 = true
  | mk ws n => by simp [dat, PyData.canLay0, PyData.canLayAll0, lays ws]
theorem lays : ∀ fs : List Fc, PyData.canLayAll0 (dats fs) = true
  | [] => by simp [dats, PyData.canLayAll0]
  | f :: r => by simp [dats, PyData.canLayAll0, lay f, lays r]
end
theorem nat_ev (n m : Nat) : ((n : Int) == (m : Int)) = (compare n m == .eq) := by
  by_cases h : n = m
  · subst h; simp
  · have h2 : ¬ compare n m = .eq := fun z => h (Nat.compare_eq_eq.mp z)
    rw [beq_eq_false_iff_ne.mpr (fun z => h (by omega)), beq_eq_false_iff_ne.mpr h2]
theorem then_ev (a b : Ordering) : (a.then b == .eq) = (a == .eq && b == .eq) := by cases a <;> cases b <;> rfl
mutual
theorem eqv : ∀ f g : Fc, (dat f).eqv (dat g) = (cmp f g == .eq)
  | mk ws n, mk vs m => by
    rw [dat, dat, ev_tup, ev_cons, ev_cons, ev_nil, ev_tup, ev_int, eqvs ws vs, nat_ev, cmp, then_ev, Bool.and_true]
theorem eqvs : ∀ fs gs : List Fc, PyData.eqvAll (dats fs) (dats gs) = (cmps fs gs == .eq)
  | [], [] => by rw [dats, ev_nil, cmps]; rfl
  | [], g :: r => by rw [dats, dats, ev_nilc, cmps]; rfl
  | f :: r, [] => by rw [dats, dats, ev_cnil, cmps]; rfl
  | f :: r, g :: t => by rw [dats, dats, ev_cons, eqv f g, eqvs r t, cmps, then_ev]
end
theorem dats_length : ∀ fs : List Fc, (dats fs).length = fs.length
  | [] => rfl
  | f :: r => by rw [dats, List.length_cons, dats_length r, List.length_cons]
def eF (fs gs : List Fc) (j : Nat) : Bool := match fs[j]?, gs[j]? with | some f, some g => cmp f g == .eq | _, _ => false
def rF (fs gs : List Fc) (j : Nat) : Bool := match fs[j]?, gs[j]? with | some f, some g => lt f g | _, _ => false
theorem firstLt_map (e r : Nat → Bool) (fin : Bool) (g : Nat → Nat) : ∀ l : List Nat, SeqAt.firstLt e r fin (l.map g) = SeqAt.firstLt (fun j => e (g j)) (fun j => r (g j)) fin l
  | [] => by rw [List.map_nil, SeqAt.firstLt.eq_1, SeqAt.firstLt.eq_1]
  | j :: t => by rw [List.map_cons, SeqAt.firstLt.eq_2, SeqAt.firstLt.eq_2, firstLt_map e r fin g t]
theorem then_lt (a b : Ordering) : (a.then b == .lt) = (if (a == .eq) = true then (b == .lt) else (a == .lt)) := by cases a <;> cases b <;> rfl
theorem firstLt_cmps : ∀ fs gs : List Fc, SeqAt.firstLt (eF fs gs) (rF fs gs) (decide (fs.length < gs.length)) (List.range (min fs.length gs.length)) = (cmps fs gs == .lt)
  | [], [] => by simp [SeqAt.firstLt.eq_1, cmps]
  | [], _ :: _ => by simp [SeqAt.firstLt.eq_1, cmps]
  | _ :: _, [] => by simp [SeqAt.firstLt.eq_1, cmps]
  | f :: r, g :: t => by
    have hm : min (f :: r).length (g :: t).length = min r.length t.length + 1 := by simp only [List.length_cons]; omega
    have hd : decide ((f :: r).length < (g :: t).length) = decide (r.length < t.length) := by simp
    rw [hm, hd, List.range_succ_eq_map, SeqAt.firstLt.eq_2, firstLt_map]
    have h1 : (fun j => eF (f :: r) (g :: t) (Nat.succ j)) = eF r t := funext fun j => rfl
    have h2 : (fun j => rF (f :: r) (g :: t) (Nat.succ j)) = rF r t := funext fun j => rfl
    rw [h1, h2, firstLt_cmps r t, cmps, then_lt]
    rfl
theorem tup_inv {h : Heap} {v : Value} {ds : List PyData} {as : List Addr} (r : Reads h v (.tuple ds) as) : ∃ a items, v = .ref a ∧ h.IsTuple a items ∧ ReadsAll h items.toList ds as := by
  cases r with
  | tuple e1 e2 e3 ra => exact ⟨_, _, rfl, ⟨_, e1, e2, _, e3⟩, ra⟩
theorem rc_int {A : Around} {s : Shared} (a : Int) (t : Tok) (b : Int) (u : Tok) : SeqAt.RcLt A s (.int a t) (.int b u) (decide (a < b)) := fun prog w E Q h => lt_int h
theorem reads_at {h : Heap} : ∀ {vs : List Value} {fs : List Fc} {as : List Addr}, ReadsAll h vs (dats fs) as → vs.length = fs.length ∧ ∀ (j : Nat) (hj : j < vs.length), ∃ f bs, fs[j]? = some f ∧ Reads h vs[j] (dat f) bs
  | _, [], _, r => by
    rw [dats] at r
    cases r
    exact ⟨rfl, fun j hj => absurd hj (Nat.not_lt_zero _)⟩
  | _, f :: t, _, r => by
    rw [dats] at r
    cases r with
    | cons r1 r2 =>
      obtain ⟨hl, hr⟩ := reads_at r2
      refine ⟨by simp [hl], fun j hj => ?_⟩
      cases j with
      | zero => exact ⟨f, _, rfl, r1⟩
      | succ j =>
        obtain ⟨g, bs, e, q⟩ := hr j (by simpa using hj)
        exact ⟨g, bs, by simpa using e, q⟩
theorem depth_mem {fs : List Fc} {f : Fc} {j : Nat} (h : fs[j]? = some f) : (dat f).depth ≤ PyData.depthAll (dats fs) := by
  induction fs generalizing j with
  | nil => simp at h
  | cons g r ih =>
    rw [dats]
    simp only [PyData.depthAll]
    cases j with
    | zero => simp at h; subst h; omega
    | succ j => have := ih (j := j) (by simpa using h); omega
mutual
theorem rcLt : ∀ (f g : Fc) {A : Around} {s : Shared} {v u : Value} {as bs : List Addr}, Reads s.heap v (dat f) as → Reads s.heap u (dat g) bs → A.units + (dat f).depth < cLine → SeqAt.RcLt A s v u (lt f g)
  | mk ws n, mk vs m, A, s, v, u, as, bs, rv, ru, hu => by
    rw [dat] at rv ru hu
    simp only [PyData.depth, PyData.depthAll] at hu
    obtain ⟨a, items, rfl, t1, ra⟩ := tup_inv rv
    obtain ⟨b, items2, rfl, t2, rb⟩ := tup_inv ru
    obtain ⟨il⟩ := items
    obtain ⟨il2⟩ := items2
    cases ra with
    | cons r1 r2 => cases r2 with
    | cons r3 r4 => cases r4 with
    | nil => cases rb with
    | cons p1 p2 => cases p2 with
    | cons p3 p4 => cases p4 with
    | nil =>
    cases r3
    cases p3
    have eq0 := SeqAt.eqAt_reads _ _ A.in1 s _ _ _ _ r1 p1 (by simpa [PyData.canLay0] using lays ws) (by simpa [PyData.canLay0] using lays vs) (by show A.units + 1 + _ < cLine; simp only [PyData.depth]; omega)
    rw [ev_tup, eqvs] at eq0
    obtain ⟨a1, w1, rfl, tw, rw1⟩ := tup_inv r1
    obtain ⟨b1, w2, rfl, tv, rv1⟩ := tup_inv p1
    obtain ⟨l1, f1⟩ := reads_at rw1
    obtain ⟨l2, f2⟩ := reads_at rv1
    have lt0 : SeqAt.RcLt A.in1 s (.ref a1) (.ref b1) (cmps ws vs == .lt) := by
      have h := SeqAt.RcLt.tuples (A := A.in1) (s := s) (e := eF ws vs) (r := rF ws vs) tw tv (by show A.units + 1 < cLine; omega) (fun j h1 h2 => ?_) (fun j h1 h2 _ => ?_)
      · have s1 : w1.size = ws.length := by rw [← l1]; simp
        have s2 : w2.size = vs.length := by rw [← l2]; simp
        rw [s1, s2, firstLt_cmps] at h
        exact h
      · obtain ⟨f, as1, e1, q1⟩ := f1 j (by simpa using h1)
        obtain ⟨g, bs1, e2, q2⟩ := f2 j (by simpa using h2)
        have d1 := depth_mem e1
        have := SeqAt.eqAt_reads _ _ A.in1.in1 s _ _ _ _ q1 q2 (lay f) (lay g) (by show A.units + 1 + 1 + _ < cLine; omega)
        rw [eqv f g] at this
        have ef : eF ws vs j = (cmp f g == .eq) := by simp [eF, e1, e2]
        rw [ef]
        simpa using this
      · obtain ⟨f, as1, e1, q1⟩ := f1 j (by simpa using h1)
        obtain ⟨g, bs1, e2, q2⟩ := f2 j (by simpa using h2)
        have := rcLts ws vs (A := A.in1.in1) j e1 q1 q2 (by show A.units + 1 + 1 + _ < cLine; omega)
        have ef : rF ws vs j = lt f g := by simp [rF, e1, e2]
        rw [ef]
        simpa using this
    have h := SeqAt.RcLt.tuples (A := A) (s := s) (e := fun j => if j = 0 then (cmps ws vs == .eq) else ((n : Int) == (m : Int))) (r := fun j => if j = 0 then (cmps ws vs == .lt) else decide ((n : Int) < (m : Int))) t1 t2 (by omega) (fun j h1 h2 => ?_) (fun j h1 h2 _ => ?_)
    · have e : SeqAt.firstLt (fun j => if j = 0 then (cmps ws vs == .eq) else ((n : Int) == (m : Int))) (fun j => if j = 0 then (cmps ws vs == .lt) else decide ((n : Int) < (m : Int))) (decide (2 < 2)) [0, 1] = lt (mk ws n) (mk vs m) := by
        rw [SeqAt.firstLt.eq_2, SeqAt.firstLt.eq_2, SeqAt.firstLt.eq_1, lt, cmp, then_lt]
        have hnm : decide ((n : Int) < (m : Int)) = (compare n m == .lt) := by
          by_cases h : n < m
          · have h2 : compare n m = .lt := Nat.compare_eq_lt.mpr h
            have h3 : ((n : Int) < (m : Int)) := by omega
            simp [h2, h3]
          · have h2 : compare n m ≠ .lt := fun z => h (Nat.compare_eq_lt.mp z)
            have h3 : ¬ ((n : Int) < (m : Int)) := by omega
            simp [h2, h3]
        simp only [hnm, nat_ev]
        generalize cmps ws vs = c
        generalize compare n m = d
        cases c <;> cases d <;> rfl
      rw [← e]
      exact h
    · match j, h1, h2 with
      | 0, _, _ => exact eq0
      | 1, _, _ => exact SeqAt.EqAt.int_int _ _ _ _
      | j + 2, h1, _ => exact absurd h1 (by simp)
    · match j, h1, h2 with
      | 0, _, _ => exact lt0
      | 1, _, _ => exact rc_int _ _ _ _
      | j + 2, h1, _ => exact absurd h1 (by simp)
theorem rcLts : ∀ (fs gs : List Fc) {A : Around} {s : Shared} (j : Nat) {f g : Fc} {v u : Value} {as bs : List Addr}, fs[j]? = some f → Reads s.heap v (dat f) as → Reads s.heap u (dat g) bs → A.units + PyData.depthAll (dats fs) < cLine → SeqAt.RcLt A s v u (lt f g)
  | [], _, _, _, _, _, _, _, _, _, _, h, _, _, _ => by simp at h
  | f0 :: r, gs, A, s, 0, f, g, v, u, as, bs, h, rv, ru, hu => by
    have e : f0 = f := by simpa using h
    subst e
    rw [dats] at hu
    simp only [PyData.depthAll] at hu
    exact rcLt f0 g rv ru (by omega)
  | f0 :: r, gs, A, s, j + 1, f, g, v, u, as, bs, h, rv, ru, hu => by
    rw [dats] at hu
    simp only [PyData.depthAll] at hu
    exact rcLts r gs j (by simpa using h) rv ru (by omega)
end
theorem rcLtW {ws vs : List Fc} {A : Around} {s : Shared} {v u : Value} {as bs : List Addr} (r1 : Reads s.heap v (.tuple (dats ws)) as) (p1 : Reads s.heap u (.tuple (dats vs)) bs) (hu : A.units + (PyData.depthAll (dats ws) + 2) < cLine) : SeqAt.RcLt A s v u (cmps ws vs == .lt) := by
  obtain ⟨a1, w1, rfl, tw, rw1⟩ := tup_inv r1
  obtain ⟨b1, w2, rfl, tv, rv1⟩ := tup_inv p1
  obtain ⟨l1, f1⟩ := reads_at rw1
  obtain ⟨l2, f2⟩ := reads_at rv1
  have h := SeqAt.RcLt.tuples (A := A) (s := s) (e := eF ws vs) (r := rF ws vs) tw tv (by omega) (fun j h1 h2 => ?_) (fun j h1 h2 _ => ?_)
  · have s1 : w1.size = ws.length := by rw [← l1]; simp
    have s2 : w2.size = vs.length := by rw [← l2]; simp
    rw [s1, s2, firstLt_cmps] at h
    exact h
  · obtain ⟨f, as1, e1, q1⟩ := f1 j (by simpa using h1)
    obtain ⟨g, bs1, e2, q2⟩ := f2 j (by simpa using h2)
    have d1 := depth_mem e1
    have := SeqAt.eqAt_reads _ _ A.in1 s _ _ _ _ q1 q2 (lay f) (lay g) (by show A.units + 1 + _ < cLine; omega)
    rw [eqv f g] at this
    have ef : eF ws vs j = (cmp f g == .eq) := by simp [eF, e1, e2]
    rw [ef]
    simpa using this
  · obtain ⟨f, as1, e1, q1⟩ := f1 j (by simpa using h1)
    obtain ⟨g, bs1, e2, q2⟩ := f2 j (by simpa using h2)
    have := rcLts ws vs (A := A.in1) j e1 q1 q2 (by show A.units + 1 + _ < cLine; omega)
    have ef : rF ws vs j = lt f g := by simp [rF, e1, e2]
    rw [ef]
    simpa using this
mutual
theorem keeps {h h' : Heap} (k : ∀ (b : Addr) (o : Obj), o.cls = .type "tuple" → h.get? b = some o → h'.get? b = some o) : ∀ (f : Fc) {v : Value} {as : List Addr}, Reads h v (dat f) as → Reads h' v (dat f) as
  | mk ws n, v, as, r => by
    rw [dat] at r ⊢
    obtain ⟨a, ⟨il⟩, rfl, ⟨o, e1, e2, n1, e3⟩, ra⟩ := tup_inv r
    cases ra with
    | cons r1 r2 => cases r2 with
    | cons r3 r4 =>
      cases r4
      cases r3
      obtain ⟨a2, ⟨il2⟩, rfl, ⟨o2, g1, g2, n2, g3⟩, rb⟩ := tup_inv r1
      exact .tuple (k _ _ e2 e1) e2 e3 (.cons (.tuple (k _ _ g2 g1) g2 g3 (keepsAll k ws rb)) (.cons (.int _ _) .nil))
theorem keepsAll {h h' : Heap} (k : ∀ (b : Addr) (o : Obj), o.cls = .type "tuple" → h.get? b = some o → h'.get? b = some o) : ∀ (fs : List Fc) {vs : List Value} {as : List Addr}, ReadsAll h vs (dats fs) as → ReadsAll h' vs (dats fs) as
  | [], _, _, r => by rw [dats] at r ⊢; cases r; exact .nil
  | f :: t, _, _, r => by
    rw [dats] at r ⊢
    cases r with
    | cons r1 r2 => exact .cons (keeps k f r1) (keepsAll k t r2)
end
theorem nat_ltv (n m : Nat) : decide ((n : Int) < (m : Int)) = (compare n m == .lt) := by
  by_cases h : n < m
  · have h2 : compare n m = .lt := Nat.compare_eq_lt.mpr h
    have h3 : ((n : Int) < (m : Int)) := by omega
    simp [h2, h3]
  · have h2 : compare n m ≠ .lt := fun z => h (Nat.compare_eq_lt.mp z)
    have h3 : ¬ ((n : Int) < (m : Int)) := by omega
    simp [h2, h3]
theorem cmp_self (f : Fc) : cmp f f = .eq := (cmp_eq f f).mpr rfl
theorem dat_inj {f g : Fc} (h : dat f = dat g) : f = g := by
  have a := eqv f g
  have b := eqv f f
  rw [cmp_self] at b
  rw [← h, b] at a
  exact (cmp_eq f g).mp (by simpa using a.symm)
open Classical in
noncomputable def kOf (h : Heap) (v : Value) : Fc := if e : ∃ f as, Reads h v (dat f) as then e.choose else .mk [] 0
theorem kOf_eq {h : Heap} {v : Value} {f : Fc} {as : List Addr} (r : Reads h v (dat f) as) : kOf h v = f := by
  have e : ∃ f as, Reads h v (dat f) as := ⟨f, as, r⟩
  unfold kOf
  rw [dif_pos e]
  obtain ⟨bs, q⟩ := e.choose_spec
  exact dat_inj (SeqAt.Reads.unique _ _ _ _ _ (lay _) q r)
theorem firsts {h : Heap} : ∀ {vs : List Value}, (∀ v ∈ vs, ∃ f as, Reads h v (dat f) as) → ∃ fs, PySem.W.KatTups h vs fs ∧ fs.length = vs.length ∧ ∀ f ∈ fs, ∃ a o, f = Value.ref a ∧ h.get? a = some o ∧ o.cls = .type "tuple"
  | [], _ => ⟨[], by simp only [PySem.W.KatTups], rfl, fun f hf => absurd hf List.not_mem_nil⟩
  | v :: r, hv => by
    obtain ⟨fs, h1, h2, h3⟩ := firsts (vs := r) fun x hx => hv x (List.mem_cons_of_mem _ hx)
    obtain ⟨f, as, rf⟩ := hv v List.mem_cons_self
    obtain ⟨ws, n⟩ := f
    rw [dat] at rf
    obtain ⟨a, ⟨il⟩, rfl, ⟨o, e1, e2, n1, e3⟩, ra⟩ := tup_inv rf
    cases ra with
    | cons r1 r2 =>
      obtain ⟨a2, ⟨il2⟩, rfl, ⟨o2, g1, g2, n2, g3⟩, rb⟩ := tup_inv r1
      refine ⟨.ref a2 :: fs, by simp only [PySem.W.KatTups]; exact ⟨⟨a, o, _, _, rfl, e1, e2, e3, rfl⟩, h1⟩, by simp [h2], fun f hf => ?_⟩
      rcases List.mem_cons.mp hf with rfl | hf
      · exact ⟨a2, o2, rfl, g1, g2⟩
      · exact h3 f hf
theorem cmp_sort {prog : Program} {w : World} {A : Around} {s : Shared} {vs : List Value} {k : Value → Fc} (hp : ∀ v ∈ vs, ∃ as, Reads s.heap v (dat (k v)) as ∧ A.units + ((dat (k v)).depth + 2) < cLine) :
    SrtO.Cmp prog w A s (tuples' false) (fun p => p.fst ∈ vs) (SrtO.lt2 fun v u => lt (k v) (k u)) := by
  intro p q hm hm'
  obtain ⟨as, rf, hu⟩ := hp p.fst hm
  obtain ⟨bs, rg, _⟩ := hp q.fst hm'
  show wpAny (model prog w) A (keyLt' (tuples' false) p.fst q.fst) (fun r s' => s' = s ∧ r = lt (k p.fst) (k q.fst)) (fun x x_1 => False) s
  generalize k p.fst = f at rf hu ⊢
  generalize k q.fst = g at rg ⊢
  obtain ⟨ws, n⟩ := f
  obtain ⟨us, m⟩ := g
  rw [dat] at rf rg hu
  simp only [PyData.depth, PyData.depthAll] at hu
  obtain ⟨a, ⟨il⟩, e0, ⟨o, e1, e2, n1, e3⟩, ra⟩ := tup_inv rf
  obtain ⟨b, ⟨il2⟩, g0, ⟨o2, g1, g2, n2, g3⟩, rb⟩ := tup_inv rg
  rw [e0, g0]
  cases ra with
  | cons r1 r2 => cases r2 with
  | cons r3 r4 =>
    cases r4
    cases r3
    cases rb with
    | cons p1 p2 => cases p2 with
    | cons p3 p4 =>
      cases p4
      cases p3
      have eq0 := SeqAt.eqAt_reads _ _ A s _ _ _ _ r1 p1 (by simpa [PyData.canLay0] using lays ws) (by simpa [PyData.canLay0] using lays us) (by simp only [PyData.depth]; omega)
      rw [ev_tup, eqvs] at eq0
      have lt0 := rcLtW (A := A) r1 p1 (by omega)
      have val : lt (mk ws n) (mk us m) = (if (cmps ws us == .eq) = true then (compare n m == .lt) else (cmps ws us == .lt)) := by rw [lt, cmp, then_lt]
      refine PySem.W.kat_lt e1 e3 g1 g3 (PySem.W.kat_cons (eq0 prog w _ _ (PySem.W.kat_go (fun c1 => PySem.W.kat_yes (PySem.W.kat_cons (SeqAt.EqAt.int_int _ _ _ _ prog w _ _ (PySem.W.kat_go (fun c2 => PySem.W.kat_yes (PySem.W.kat_nil ⟨rfl, ?_⟩)) fun c2 => PySem.W.kat_no (PySem.W.kat_one _ _ (lt_int ⟨rfl, ?_⟩)))))) fun c1 => PySem.W.kat_no (PySem.W.kat_one _ _ (lt0 prog w _ _ ⟨rfl, ?_⟩)))))
      · rw [val, if_pos c1]
        have : n = m := by have := eq_of_beq c2; omega
        subst this; simp
      · rw [val, if_pos c1]; exact nat_ltv n m
      · rw [val, c1]; rfl
theorem sortable {prog : Program} {w : World} {A : Around} {s : Shared} {a : Addr} {vs : List Value} {k : Value → Fc} (h0 : 0 < vs.length) (hp : ∀ v ∈ vs, ∃ as, Reads s.heap v (dat (k v)) as ∧ A.units + ((dat (k v)).depth + 2) < cLine)
    (ha : ∀ o : Obj, s.heap.get? a = some o → o.cls ≠ .type "tuple") : SrtO.SortableO prog w A s a vs (fun v u => lt (k v) (k u)) := by
  intro h' keep
  have kp : ∀ (b : Addr) (o : Obj), o.cls = .type "tuple" → s.heap.get? b = some o → h'.get? b = some o := fun b o c e => keep b o (fun z => by subst z; exact ha o e c) e
  have hp' : ∀ v ∈ vs, ∃ as, Reads h' v (dat (k v)) as ∧ A.units + ((dat (k v)).depth + 2) < cLine := fun v hv => by
    obtain ⟨as, r, u⟩ := hp v hv
    exact ⟨as, keeps kp _ r, u⟩
  obtain ⟨fs, h1, h2, h3⟩ := firsts (h := h') (vs := vs) fun v hv => by
    obtain ⟨as, r, _⟩ := hp' v hv
    exact ⟨_, as, r⟩
  refine ⟨tuples' false, fun Q E hq => PySem.W.kat_kind (T := .type "tuple") h1 (by omega) (fun f hf => ?_) (by decide) ?_, cmp_sort (s := { heap := h', gens := s.gens, drawn := s.drawn, toks := s.toks, os := s.os }) hp'⟩
  · obtain ⟨b, o, rfl, e1, e2⟩ := h3 f hf
    exact fun A Q E s k q => wpAny_typeOf_ref (k b o e1) (by rw [e2]; exact q)
  · have e : ((Value.type "tuple" : Value) != .type "tuple") = false := by decide
    rw [e]; exact hq
theorem sorted_fc {prog : Program} {w : World} {A : Around} {E : Value → Shared → Prop} {s : Shared} {l : Addr} {vs : List Value} {k : Value → Fc} {Q : Value → Shared → Prop} (hl : s.heap.IsList l vs.toArray) (hz : vs.length ≤ sizeLine)
    (hp : ∀ v ∈ vs, ∃ as, Reads s.heap v (dat (k v)) as ∧ A.units + ((dat (k v)).depth + 4) < cLine)
    (h : ∀ (h' : Heap) (d : Addr) (out : List Value), SrtO.Srtd (fun v u => lt (k v) (k u)) out → out.Perm vs → (∀ (b : Addr) (o : Obj), s.heap.get? b = some o → h'.get? b = some o) → s.heap.objs.size ≤ d → (∃ n, h'.get? d = some (seqObj "list" out.toArray n)) →
      Q (.ref d) { heap := h', gens := s.gens, drawn := s.drawn, toks := s.toks, os := s.os }) :
    wpAny (model prog w) A (call (.builtin "sorted") [.ref l]) Q E s := by
  refine SrtO.sorted_ord (ltv := fun v u => lt (k v) (k u)) ⟨fun x y => swo.asym _ _, fun x y z => swo.tr _ _ _⟩ hl hz (fun h2 h₁ a ha kk => ?_) fun out hs hb => ?_
  · refine sortable (s := { heap := h₁, gens := s.gens, drawn := s.drawn, toks := s.toks, os := s.os }) (by omega) (fun v hv => ?_) fun o e => ?_
    · obtain ⟨as, r, u⟩ := hp v hv
      exact ⟨as, keeps (fun b o _ e => (kk b o e).2) _ r, by show A.units + 1 + 1 + _ < cLine; omega⟩
    · have e2 := ha.symm.trans e
      cases e2
      intro z
      exact absurd (Value.type.inj z) (by decide)
  · obtain ⟨n, e⟩ := sortedAll_at s.heap vs out.toArray
    exact h _ _ out hs hb.perm (fun b o e => sortedAll_old e) (Nat.le_succ _) ⟨n, e⟩
/-! ## the one sorted list -/
def ins (f : Fc) : List Fc → List Fc
  | [] => [f]
  | g :: r => if lt g f = true then g :: ins f r else f :: g :: r
def srt : List Fc → List Fc
  | [] => []
  | f :: r => ins f (srt r)
theorem ins_perm (f : Fc) : ∀ l : List Fc, (ins f l).Perm (f :: l)
  | [] => .refl _
  | g :: r => by
    unfold ins
    split
    · exact ((ins_perm f r).cons g).trans (.swap f g r)
    · exact .refl _
theorem srt_perm : ∀ l : List Fc, (srt l).Perm l
  | [] => .refl _
  | f :: r => (ins_perm f (srt r)).trans ((srt_perm r).cons f)
abbrev Ord (l : List Fc) : Prop := l.Pairwise fun x y => lt y x = false
theorem ins_ord (f : Fc) : ∀ l : List Fc, Ord l → Ord (ins f l)
  | [], _ => List.pairwise_singleton _ _
  | g :: r, h => by
    have h' := List.pairwise_cons.mp h
    unfold ins
    split
    · rename_i c
      refine List.pairwise_cons.mpr ⟨fun x hx => ?_, ins_ord f r h'.2⟩
      rcases List.mem_cons.mp ((ins_perm f r).mem_iff.mp hx) with rfl | hx
      · exact swo.asym _ _ c
      · exact h'.1 x hx
    · rename_i c
      have c' : lt g f = false := Bool.eq_false_iff.mpr c
      refine List.pairwise_cons.mpr ⟨fun x hx => ?_, h⟩
      rcases List.mem_cons.mp hx with rfl | hx
      · exact c'
      · exact swo.tr _ _ _ c' (h'.1 x hx)
theorem srt_ord : ∀ l : List Fc, Ord (srt l)
  | [] => List.Pairwise.nil
  | f :: r => ins_ord f _ (srt_ord r)
theorem anti {a b : Fc} (h1 : lt a b = false) (h2 : lt b a = false) : a = b := by
  have h1' : cmp a b ≠ .lt := by simpa [lt] using h1
  have h2' : cmp b a ≠ .lt := by simpa [lt] using h2
  cases e : cmp a b with
  | lt => exact absurd e h1'
  | eq => exact (cmp_eq a b).mp e
  | gt => exact absurd (by rw [cmp_swap a b, e]; rfl) h2'
theorem ord_one : ∀ l m : List Fc, Ord l → Ord m → l.Perm m → l = m
  | [], m, _, _, p => p.nil_eq
  | a :: r, [], _, _, p => absurd p.length_eq (by simp)
  | a :: r, b :: t, h1, h2, p => by
    have g1 := List.pairwise_cons.mp h1
    have g2 := List.pairwise_cons.mp h2
    have e : a = b := by
      have ma : a ∈ b :: t := p.mem_iff.mp List.mem_cons_self
      have mb : b ∈ a :: r := p.mem_iff.mpr List.mem_cons_self
      rcases List.mem_cons.mp ma with h | h
      · exact h
      · rcases List.mem_cons.mp mb with k | k
        · exact k.symm
        · exact anti (g2.1 a h) (g1.1 b k)
    subst e
    rw [ord_one r t g1.2 g2.2 (p.cons_inv)]
/-! ## sorted of factors -/
theorem map_k {h : Heap} : ∀ {vs : List Value} {fs : List Fc} {as : List Addr}, ReadsAll h vs (dats fs) as → vs.map (kOf h) = fs
  | _, [], _, r => by rw [dats] at r; cases r; rfl
  | _, f :: t, _, r => by
    rw [dats] at r
    cases r with
    | cons r1 r2 => rw [List.map_cons, kOf_eq r1, map_k r2]
theorem dq_each {K : PySem.W.Frag} {H : Hp} (f : Value → V) (g : Value → Fc) : ∀ {l : List Value}, DqAll K H (l.map f) (dats (l.map g)) → ∀ v ∈ l, Dq K H (f v) (dat (g v))
  | [], _, v, hv => absurd hv List.not_mem_nil
  | x :: r, h, v, hv => by
    rw [List.map_cons, List.map_cons, dats] at h
    cases h with
    | cons a b =>
      rcases List.mem_cons.mp hv with rfl | hv
      · exact a
      · exact dq_each f g b v hv
theorem dq_all {K : PySem.W.Frag} {H : Hp} (f : Value → V) (g : Value → Fc) : ∀ {l : List Value}, (∀ v ∈ l, Dq K H (f v) (dat (g v))) → DqAll K H (l.map f) (dats (l.map g))
  | [], _ => by rw [List.map_nil, List.map_nil, dats]; exact .nil
  | x :: r, h => by
    rw [List.map_cons, List.map_cons, dats]
    exact .cons (h x List.mem_cons_self) (dq_all f g fun v hv => h v (List.mem_cons_of_mem _ hv))
theorem dq_ref {K : PySem.W.Frag} {H : Hp} {v : V} {f : Fc} (h : Dq K H v (dat f)) : ∃ a, v = .ref a := by
  obtain ⟨ws, n⟩ := f
  rw [dat] at h
  cases h
  exact ⟨_, rfl⟩
theorem dq_refs {K : PySem.W.Frag} {H : Hp} : ∀ {xs : List V} {fs : List Fc}, DqAll K H xs (dats fs) → ∀ x ∈ xs, ∃ a, x = .ref a
  | _, [], h, x, hx => by rw [dats] at h; cases h; exact absurd hx List.not_mem_nil
  | _, f :: r, h, x, hx => by
    rw [dats] at h
    cases h with
    | cons a b =>
      rcases List.mem_cons.mp hx with rfl | hx
      · exact dq_ref a
      · exact dq_refs b x hx
end Fc
def rSortF (K : PySem.W.Frag) : List V → Hp → VK → Prop := fun vs H Q => ∃ a xs fs, vs = [.ref a] ∧ SqL K H a xs ∧ DqAll K H xs (Fc.dats fs) ∧ PyData.depthAll (Fc.dats fs) ≤ 180 ∧
  ∀ ys p, DqAll K H ys (Fc.dats (Fc.srt fs)) → H p = none → Q (.ref p) (upd H p (.lst ys))
theorem call_sortF {X : Cx} (hu : X.A.units + 200 < cLine) : CallR X (.builtin "sorted") (rSortF X.K) := by
  rintro pins s σ H vs us Q I r ⟨a, xs, fs, rfl, hs, hd, hdep, q⟩
  obtain ⟨its, rv, hl, hz⟩ := I.list hs
  cases r with
  | cons r1 r2 =>
    cases r2
    cases r1
    obtain ⟨as, ra, _⟩ := DqAll.reads I hd rv
    obtain ⟨e1, e2⟩ := L2.refs_back rv (Fc.dq_refs hd)
    have hk := Fc.map_k ra
    obtain ⟨hlen, hat⟩ := Fc.reads_at ra
    have hd' : DqAll X.K H (its.map L2.backV) (Fc.dats (its.map (Fc.kOf s.heap))) := by rw [← e1, hk]; exact hd
    have each := Fc.dq_each _ _ hd'
    refine Fc.sorted_fc (k := Fc.kOf s.heap) (PlainL.isList hl) (by rw [← rv.length]; exact hz) (fun v hv => ?_) fun h' d out ho hp kp hsz hn => ?_
    · obtain ⟨j, hj, rfl⟩ := List.getElem_of_mem hv
      obtain ⟨f, bs, ef, rf⟩ := hat j hj
      rw [Fc.kOf_eq rf]
      have := Fc.depth_mem ef
      exact ⟨bs, rf, by omega⟩
    · obtain ⟨n, hn⟩ := hn
      have h3 : ∀ u ∈ out, ∃ a, u = Value.ref a := fun u hu => e2 u (hp.mem_iff.mp hu)
      have es : out.map (Fc.kOf s.heap) = Fc.srt fs := by
        refine Fc.ord_one _ _ (List.pairwise_map.mpr ho) (Fc.srt_ord _) ?_
        have p1 := hp.map (Fc.kOf s.heap)
        rw [hk] at p1
        exact p1.trans (Fc.srt_perm fs).symm
      refine ⟨.ref d, upd H d (.lst (out.map L2.backV)), I.laid kp hsz ⟨?_, out, n, L2.vals_back h3, hn⟩, rfl, q _ d ?_ (HOk.fresh I.hok hsz)⟩
      · rw [List.length_map, hp.length_eq, ← rv.length]; exact hz
      · rw [← es]
        exact Fc.dq_all _ _ fun v hv => each v (hp.mem_iff.mp hv)
end KB

namespace KB
open PySem L2
/-! ## the factors of a kind -/
namespace Fc
theorem srt_congr {l m : List Fc} (p : l.Perm m) : srt l = srt m := ord_one _ _ (srt_ord l) (srt_ord m) ((srt_perm l).trans (p.trans (srt_perm m).symm))
theorem srt_of {l : List Fc} (h : Ord l) : srt l = l := ord_one _ _ (srt_ord l) h (srt_perm l)
theorem srt_srt (l : List Fc) : srt (srt l) = srt l := srt_of (srt_ord l)
theorem srt_left (a b : List Fc) : srt (srt a ++ b) = srt (a ++ b) := srt_congr ((srt_perm a).append_right b)
theorem srt_right (a b : List Fc) : srt (a ++ srt b) = srt (a ++ b) := srt_congr ((srt_perm b).append_left a)
mutual
theorem pure_dat : ∀ f : Fc, pureT (dat f) = true
  | mk ws n => by simp [dat, pureT, pureTs, pure_dats ws]
theorem pure_dats : ∀ l : List Fc, pureTs (dats l) = true
  | [] => by simp [dats, pureTs]
  | f :: r => by simp [dats, pureTs, pure_dat f, pure_dats r]
end
theorem dats_append : ∀ a b : List Fc, dats (a ++ b) = dats a ++ dats b
  | [], b => by rw [dats]; rfl
  | f :: r, b => by rw [List.cons_append, dats, dats_append r b, dats]; rfl
theorem depth_le {B : Nat} : ∀ {l : List Fc}, (∀ f ∈ l, (dat f).depth ≤ B) → PyData.depthAll (dats l) ≤ B
  | [], _ => by rw [dats]; simp [PyData.depthAll]
  | f :: r, h => by
    rw [dats]
    simp only [PyData.depthAll]
    have a := h f List.mem_cons_self
    have b := depth_le (l := r) fun g hg => h g (List.mem_cons_of_mem _ hg)
    omega
theorem depth_of {l : List Fc} {f : Fc} (h : f ∈ l) : (dat f).depth ≤ PyData.depthAll (dats l) := by
  obtain ⟨j, hj, e⟩ := List.getElem_of_mem h
  exact depth_mem (j := j) (by rw [List.getElem?_eq_getElem hj, e])
theorem depth_perm {l m : List Fc} (p : l.Perm m) : PyData.depthAll (dats l) = PyData.depthAll (dats m) :=
  Nat.le_antisymm (depth_le fun f hf => depth_of (p.mem_iff.mp hf)) (depth_le fun f hf => depth_of (p.mem_iff.mpr hf))
theorem depth_srt (l : List Fc) : PyData.depthAll (dats (srt l)) = PyData.depthAll (dats l) := depth_perm (srt_perm l)
theorem depth_append (a b : List Fc) : PyData.depthAll (dats (a ++ b)) = max (PyData.depthAll (dats a)) (PyData.depthAll (dats b)) := by
  refine Nat.le_antisymm (depth_le fun f hf => ?_) (Nat.max_le.mpr ⟨depth_le fun f hf => depth_of (List.mem_append.mpr (.inl hf)), depth_le fun f hf => depth_of (List.mem_append.mpr (.inr hf))⟩)
  rcases List.mem_append.mp hf with h | h
  · have := depth_of h; omega
  · have := depth_of h; omega
end Fc
/-- the factors of a kind, each wanting W besides, in no order -/
def Kd.fac : Kd → List Fc → List Fc
  | .b n, W => [.mk W n]
  | .u, _ => []
  | .p x y, W => x.fac W ++ y.fac W
  | .f x y, W => y.fac (Fc.srt (W ++ Fc.srt (x.fac [])))
def Kd.form (k : Kd) : List Fc := Fc.srt (k.fac [])
/-- how far functions are handed to functions -/
def Kd.rk : Kd → Nat
  | .b _ => 0
  | .u => 0
  | .p x y => max x.rk y.rk
  | .f x y => max (x.rk + 1) y.rk
theorem Kd.fac_depth : ∀ (k : Kd) (W : List Fc), PyData.depthAll (Fc.dats (k.fac W)) ≤ 2 + max (PyData.depthAll (Fc.dats W)) (2 * k.rk)
  | .b n, W => by
    rw [Kd.fac, Fc.dats, Fc.dats, Fc.dat]
    simp only [PyData.depthAll, PyData.depth]
    omega
  | .u, W => by rw [Kd.fac, Fc.dats]; simp [PyData.depthAll]
  | .p x y, W => by
    have a := Kd.fac_depth x W
    have b := Kd.fac_depth y W
    rw [Kd.fac, Fc.depth_append, Kd.rk]
    omega
  | .f x y, W => by
    have a := Kd.fac_depth x []
    have b := Kd.fac_depth y (Fc.srt (W ++ Fc.srt (x.fac [])))
    rw [Fc.depth_srt, Fc.depth_append, Fc.depth_srt] at b
    rw [Fc.dats] at a
    simp only [PyData.depthAll] at a
    rw [Kd.fac, Kd.rk]
    omega
/-- a factor that wants V besides -/
def Fc.add (V : List Fc) : Fc → Fc
  | .mk ws n => .mk (Fc.srt (V ++ ws)) n
theorem Kd.fac_add : ∀ (k : Kd) (V W : List Fc), k.fac (Fc.srt (V ++ W)) = (k.fac W).map (Fc.add V)
  | .b n, V, W => by rw [Kd.fac, Kd.fac]; rfl
  | .u, V, W => by rw [Kd.fac, Kd.fac]; rfl
  | .p x y, V, W => by rw [Kd.fac, Kd.fac, List.map_append, Kd.fac_add x V W, Kd.fac_add y V W]
  | .f x y, V, W => by
    rw [Kd.fac, Kd.fac, Fc.srt_left, List.append_assoc, ← Kd.fac_add y V]
    rw [Fc.srt_right]
theorem Kd.fac_length : ∀ (k : Kd) (W : List Fc), (k.fac W).length ≤ k.leaves
  | .b n, W => by rw [Kd.fac]; simp [Kd.leaves]
  | .u, W => by rw [Kd.fac]; simp
  | .p x y, W => by have := Kd.fac_length x W; have := Kd.fac_length y W; rw [Kd.fac, List.length_append, Kd.leaves]; omega
  | .f x y, W => by have := Kd.fac_length y (Fc.srt (W ++ Fc.srt (x.fac []))); rw [Kd.fac, Kd.leaves]; omega
theorem Fc.srt_length (l : List Fc) : (Fc.srt l).length = l.length := (Fc.srt_perm l).length_eq
theorem Kd.form_length (k : Kd) : k.form.length ≤ k.leaves := by rw [Kd.form, Fc.srt_length]; exact k.fac_length []
theorem Kd.form_depth (k : Kd) : PyData.depthAll (Fc.dats k.form) ≤ 2 + 2 * k.rk := by
  have := k.fac_depth []
  rw [Kd.form, Fc.depth_srt]
  simp only [Fc.dats, PyData.depthAll] at this
  omega
/-- a walk over what is either of two sorts -/
theorem pi_or {X : Cx} {tg l : Expr} {w1 w2 : TI} (a : PI X tg l w1) (b : PI X tg l w2) : PI X tg l (fun σ H R => w1 σ H R ∨ w2 σ H R) :=
  ⟨fun pins s σ H R I h => h.elim (a.run pins s σ H R I) (b.run pins s σ H R I)⟩
theorem pi_seq {X : Cx} {tg l : Expr} {tl : TE} (h : PE X l tl) : PI X tg l (fun σ H R => iList X.K tl σ H R ∨ iTup X.K tl σ H R) := pi_or (pi_list h) (pi_tup h)
/-! ## the kind of factors -/
mutual
def Fc.kd : Fc → Kd
  | .mk ws n => Fc.kdw (.b n) ws
/-- what wants these gives the base -/
def Fc.kdw (b : Kd) : List Fc → Kd
  | [] => b
  | f :: r => .f (Fc.kdf (Fc.kd f) r) b
/-- a first kind, and those of the rest behind it -/
def Fc.kdf (k : Kd) : List Fc → Kd
  | [] => k
  | f :: r => .p k (Fc.kdf (Fc.kd f) r)
end
def Fc.kds : List Fc → Kd
  | [] => .u
  | f :: r => Fc.kdf f.kd r
end KB

namespace KB
open PySem L2
/-! ## forms by their parts; what keeps them -/
theorem Kd.form_p (x y : Kd) : (Kd.p x y).form = Fc.srt (x.form ++ y.form) := by
  rw [Kd.form, Kd.fac, Kd.form, Kd.form, Fc.srt_left, Fc.srt_right]
theorem Kd.fac_f (x y : Kd) : (Kd.f x y).fac [] = (y.fac []).map (Fc.add x.form) := by
  rw [Kd.fac, List.nil_append, Fc.srt_srt]
  have := Kd.fac_add y x.form []
  rw [List.append_nil, Kd.form, Fc.srt_srt] at this
  rw [Kd.form]; exact this
theorem Kd.form_f (x y : Kd) : (Kd.f x y).form = Fc.srt (y.form.map (Fc.add x.form)) := by
  rw [Kd.form, Kd.fac_f]
  exact Fc.srt_congr ((Fc.srt_perm (y.fac [])).map _).symm
theorem Kd.form_u : Kd.u.form = [] := by rw [Kd.form, Kd.fac]; rfl
theorem Kd.form_b (n : Nat) : (Kd.b n).form = [.mk [] n] := by rw [Kd.form, Kd.fac]; rfl
theorem Kd.cong_p {x x' y y' : Kd} (a : x.form = x'.form) (b : y.form = y'.form) : (Kd.p x y).form = (Kd.p x' y').form := by rw [Kd.form_p, Kd.form_p, a, b]
theorem Kd.cong_f {x x' y y' : Kd} (a : x.form = x'.form) (b : y.form = y'.form) : (Kd.f x y).form = (Kd.f x' y').form := by rw [Kd.form_f, Kd.form_f, a, b]
theorem Kd.form_srt (k : Kd) : Fc.srt k.form = k.form := Fc.srt_srt _
theorem Kd.q_unitR (x : Kd) : (Kd.p x .u).form = x.form := by rw [Kd.form_p, Kd.form_u, List.append_nil, Kd.form_srt]
theorem Kd.q_unitF (x : Kd) : (Kd.f .u x).form = x.form := by
  rw [Kd.form, Kd.fac, Kd.fac]
  rfl
theorem Kd.q_toU (x : Kd) : (Kd.f x .u).form = Kd.u.form := by rw [Kd.form, Kd.form, Kd.fac, Kd.fac, Kd.fac]
theorem Kd.q_comm (x y : Kd) : (Kd.p y x).form = (Kd.p x y).form := by rw [Kd.form_p, Kd.form_p]; exact Fc.srt_congr List.perm_append_comm
theorem Kd.q_assoc (x y z : Kd) : (Kd.p (.p x y) z).form = (Kd.p x (.p y z)).form := by
  rw [Kd.form, Kd.form, Kd.fac, Kd.fac, Kd.fac, Kd.fac, List.append_assoc]
theorem Kd.q_part (a x y : Kd) : (Kd.p (.f a x) (.f a y)).form = (Kd.f a (.p x y)).form := by
  rw [Kd.form, Kd.form, Kd.fac, Kd.fac, Kd.fac, Kd.fac, Kd.fac]
theorem Kd.q_curry (a b y : Kd) : (Kd.f (.p a b) y).form = (Kd.f a (.f b y)).form := by
  have h : Fc.srt ([] ++ Fc.srt ((Kd.p a b).fac [])) = Fc.srt (Fc.srt ([] ++ Fc.srt (a.fac [])) ++ Fc.srt (b.fac [])) := by
    rw [Kd.fac, List.nil_append, List.nil_append, Fc.srt_srt, Fc.srt_srt, Fc.srt_left, Fc.srt_right]
  show Fc.srt (y.fac (Fc.srt ([] ++ Fc.srt ((Kd.p a b).fac [])))) = Fc.srt (y.fac (Fc.srt (Fc.srt ([] ++ Fc.srt (a.fac [])) ++ Fc.srt (b.fac []))))
  rw [h]
theorem Kd.rk_lt : ∀ k : Kd, k.rk < k.leaves
  | .b _ => by simp [Kd.rk, Kd.leaves]
  | .u => by simp [Kd.rk, Kd.leaves]
  | .p x y => by have := Kd.rk_lt x; have := Kd.rk_lt y; simp only [Kd.rk, Kd.leaves]; omega
  | .f x y => by have := Kd.rk_lt x; have := Kd.rk_lt y; have := y.leaves_pos; simp only [Kd.rk, Kd.leaves]; omega
/-! ## the numbers in factors; bases -/
namespace Fc
mutual
def num : Fc → List Nat
  | mk ws n => n :: nums ws
def nums : List Fc → List Nat
  | [] => []
  | f :: r => num f ++ nums r
end
theorem mem_nums {n : Nat} : ∀ {l : List Fc}, n ∈ nums l ↔ ∃ f ∈ l, n ∈ num f
  | [] => by rw [nums]; simp
  | f :: r => by rw [nums, List.mem_append, mem_nums (l := r)]; simp
theorem nums_perm {n : Nat} {l m : List Fc} (p : l.Perm m) : n ∈ nums l ↔ n ∈ nums m := by
  rw [mem_nums, mem_nums]
  exact ⟨fun ⟨f, h, e⟩ => ⟨f, p.mem_iff.mp h, e⟩, fun ⟨f, h, e⟩ => ⟨f, p.mem_iff.mpr h, e⟩⟩
theorem nums_srt {n : Nat} (l : List Fc) : n ∈ nums (srt l) ↔ n ∈ nums l := nums_perm (srt_perm l)
theorem nums_app {n : Nat} (a b : List Fc) : n ∈ nums (a ++ b) ↔ n ∈ nums a ∨ n ∈ nums b := by
  rw [mem_nums, mem_nums, mem_nums]
  constructor
  · rintro ⟨f, h, e⟩
    rcases List.mem_append.mp h with h | h
    · exact .inl ⟨f, h, e⟩
    · exact .inr ⟨f, h, e⟩
  · rintro (⟨f, h, e⟩ | ⟨f, h, e⟩)
    · exact ⟨f, List.mem_append.mpr (.inl h), e⟩
    · exact ⟨f, List.mem_append.mpr (.inr h), e⟩
theorem num_add {n : Nat} (V : List Fc) : ∀ f : Fc, n ∈ num (add V f) ↔ n ∈ nums V ∨ n ∈ num f
  | mk ws m => by
    rw [add, num, num, List.mem_cons, List.mem_cons, nums_srt, nums_app]
    constructor
    · rintro (h | h | h)
      · exact .inr (.inl h)
      · exact .inl h
      · exact .inr (.inr h)
    · rintro (h | h | h)
      · exact .inr (.inl h)
      · exact .inl h
      · exact .inr (.inr h)
theorem nums_addL {n : Nat} (V : List Fc) (l : List Fc) : n ∈ nums (l.map (add V)) ↔ (l ≠ [] ∧ n ∈ nums V) ∨ n ∈ nums l := by
  rw [mem_nums (l := l.map (add V)), mem_nums (l := l)]
  constructor
  · rintro ⟨f, h, e⟩
    obtain ⟨g, hg, rfl⟩ := List.mem_map.mp h
    rcases (num_add V g).mp e with e | e
    · exact .inl ⟨fun z => (by rw [z] at hg; cases hg), e⟩
    · exact .inr ⟨g, hg, e⟩
  · rintro (⟨h, e⟩ | ⟨g, hg, e⟩)
    · cases l with
      | nil => exact absurd rfl h
      | cons g r => exact ⟨_, List.mem_map.mpr ⟨g, List.mem_cons_self, rfl⟩, (num_add V g).mpr (.inl e)⟩
    · exact ⟨_, List.mem_map.mpr ⟨g, hg, rfl⟩, (num_add V g).mpr (.inr e)⟩
end Fc
namespace Kd
def bases : Kd → List Nat
  | b n => [n]
  | u => []
  | p x y => x.bases ++ y.bases
  | f x y => x.bases ++ y.bases
theorem bases_ok : ∀ {k : Kd}, k.ok → ∀ n ∈ k.bases, n < 8
  | b m, h, n, e => by rw [bases, List.mem_singleton] at e; rw [e]; exact h
  | u, _, n, e => by rw [bases] at e; cases e
  | p x y, h, n, e => by rw [bases] at e; exact (List.mem_append.mp e).elim (bases_ok h.1 n) (bases_ok h.2 n)
  | f x y, h, n, e => by rw [bases] at e; exact (List.mem_append.mp e).elim (bases_ok h.1 n) (bases_ok h.2 n)
theorem bases_length : ∀ k : Kd, k.bases.length ≤ k.leaves
  | b _ => Nat.le_refl _
  | u => by simp [bases]
  | p x y => by have := bases_length x; have := bases_length y; simp only [bases, List.length_append, leaves]; omega
  | f x y => by have := bases_length x; have := bases_length y; simp only [bases, List.length_append, leaves]; omega
/-- one base exchanged, by its place -/
def chg (c : Nat) : Kd → Int → Kd
  | b n, i => if i = 0 then b c else b n
  | u, _ => u
  | p x y, i => p (x.chg c i) (y.chg c (i - x.bases.length))
  | f x y, i => f (x.chg c i) (y.chg c (i - x.bases.length))
theorem chg_ok {c : Nat} (hc : c < 8) : ∀ {k : Kd} (i : Int), k.ok → (k.chg c i).ok
  | b n, i, h => by rw [chg]; split; exact hc; exact h
  | u, _, h => h
  | p x y, i, h => ⟨chg_ok hc _ h.1, chg_ok hc _ h.2⟩
  | f x y, i, h => ⟨chg_ok hc _ h.1, chg_ok hc _ h.2⟩
theorem chg_leaves {c : Nat} : ∀ (k : Kd) (i : Int), (k.chg c i).leaves = k.leaves
  | b n, i => by rw [chg]; split <;> rfl
  | u, _ => rfl
  | p x y, i => by rw [chg, leaves, leaves, chg_leaves x, chg_leaves y]
  | f x y, i => by rw [chg, leaves, leaves, chg_leaves x, chg_leaves y]
/-- where the base exchanged is not in the form, this is as it was -/
theorem chg_form {c : Nat} : ∀ (k : Kd) (i : Int), c ∉ Fc.nums (k.chg c i).form → (k.chg c i).form = k.form
  | b n, i, h => by
    rw [chg] at h ⊢
    split at h
    · rw [form_b] at h; exact absurd (by simp [Fc.nums, Fc.num]) h
    · rename_i z; rw [if_neg z]
  | u, _, _ => rfl
  | p x y, i, h => by
    rw [chg] at h ⊢
    rw [form_p, Fc.nums_srt, Fc.nums_app] at h
    exact cong_p (chg_form x _ fun z => h (.inl z)) (chg_form y _ fun z => h (.inr z))
  | f x y, i, h => by
    rw [chg] at h ⊢
    rw [form_f, Fc.nums_srt, Fc.nums_addL] at h
    have hy := chg_form y (i - x.bases.length) fun z => h (.inr z)
    by_cases e : (y.chg c (i - x.bases.length)).form = []
    · rw [form_f, form_f, ← hy, e]; rfl
    · exact cong_f (chg_form x _ fun z => h (.inl ⟨e, z⟩)) hy
theorem nums_form {n : Nat} : ∀ {k : Kd}, n ∈ Fc.nums k.form → n ∈ k.bases
  | b m, h => by rw [form_b] at h; simpa [Fc.nums, Fc.num, bases] using h
  | u, h => by rw [form_u] at h; cases h
  | p x y, h => by
    rw [form_p, Fc.nums_srt, Fc.nums_app] at h
    rw [bases, List.mem_append]
    exact h.imp nums_form nums_form
  | f x y, h => by
    rw [form_f, Fc.nums_srt, Fc.nums_addL] at h
    rw [bases, List.mem_append]
    exact h.imp (fun z => nums_form z.2) nums_form
end Kd
mutual
theorem Fc.bases_kd (n : Nat) : ∀ f : Fc, n ∈ f.kd.bases ↔ n ∈ Fc.num f
  | .mk ws m => by
    rw [Fc.kd, Fc.num, Fc.bases_kdw n (.b m) ws, Kd.bases]
    simp only [List.mem_cons, List.not_mem_nil, or_false]
    exact or_comm
theorem Fc.bases_kdw (n : Nat) (b : Kd) : ∀ l : List Fc, n ∈ (Fc.kdw b l).bases ↔ n ∈ Fc.nums l ∨ n ∈ b.bases
  | [] => by rw [Fc.kdw, Fc.nums]; simp
  | f :: r => by rw [Fc.kdw, Kd.bases, List.mem_append, Fc.bases_kdf n f.kd r, Fc.nums, List.mem_append, Fc.bases_kd n f]
theorem Fc.bases_kdf (n : Nat) (k : Kd) : ∀ l : List Fc, n ∈ (Fc.kdf k l).bases ↔ n ∈ k.bases ∨ n ∈ Fc.nums l
  | [] => by rw [Fc.kdf, Fc.nums]; simp
  | f :: r => by rw [Fc.kdf, Kd.bases, List.mem_append, Fc.bases_kdf n f.kd r, Fc.nums, List.mem_append, Fc.bases_kd n f]
end
theorem Fc.bases_kds (n : Nat) : ∀ l : List Fc, n ∈ (Fc.kds l).bases ↔ n ∈ Fc.nums l
  | [] => by rw [Fc.kds, Fc.nums]; simp [Kd.bases]
  | f :: r => by rw [Fc.kds, Fc.bases_kdf, Fc.nums, List.mem_append, Fc.bases_kd n f]
/-- what the law of the base exchanged asks -/
theorem Kd.chg_law {k : Kd} {c : Nat} (hc : c ∉ k.bases) (i : Int) : (Fc.cmps k.form (k.chg c i).form == .eq) = !decide (c ∈ (Fc.kds (k.chg c i).form).bases) := by
  by_cases h : c ∈ (Fc.kds (k.chg c i).form).bases
  · rw [decide_eq_true h]
    rw [Fc.bases_kds] at h
    have : k.form ≠ (k.chg c i).form := fun e => hc (Kd.nums_form (by rw [e]; exact h))
    have : Fc.cmps k.form (k.chg c i).form ≠ .eq := fun z => this ((Fc.cmps_eq _ _).mp z)
    simpa using this
  · rw [decide_eq_false h]
    rw [Fc.bases_kds] at h
    rw [Kd.chg_form k i h, (Fc.cmps_eq _ _).mpr rfl]
    rfl
end KB

namespace KB
open PySem PySem.Spec PyProof.Rows L2
/-! ## sorted of a tuple of factors -/
section
variable {P : Program} {W : World} {A : Around} {X : Value → Shared → Prop} {s : Shared}
/-- the heap behind the gathering of the items -/
abbrev gath (h : Heap) (its : List Value) : Heap := (h.push (seqObj "list" #[] 0)).update h.objs.size (Obj.mapSeq (· ++ its.toArray))
theorem gather_tup {t : Addr} {its : List Value} {R : List Value → Shared → Prop} (ht : IsTup s.heap t its.toArray) (hn : its.length ≤ sizeLine) (q : R its { s with heap := gath s.heap its }) : wpAny (model P W) A (collect (.ref t)) R X s := by
  obtain ⟨ob, get, cl, m, dat⟩ := id ht
  have get2 : (s.heap.push (seqObj "list" #[] 0)).get? t = some ob := Heap.get?_push_of_some _ get
  have new : (s.heap.push (seqObj "list" #[] 0)).get? s.heap.objs.size = some (seqObj "list" #[] 0) := Heap.get?_push_size _ rfl
  unfold collect
  refine wpAny_bind (wpAny_runValue (codeAny_builtin entry_proto_collect' (?_ : wpAny _ _ (do again (.builtin "list.__iadd__" ⟨[← newList [], .ref t], []⟩)) _ _ s)))
  refine wpAny_bind (wpAny_newList (wpAny_pure ⟨Code.quiet_builtin _ (by decide +kernel), codeAny_builtin entry_list_iadd' (?_ : wpAny _ _ (Builtin.List.listExtendWith (.ref s.heap.objs.size) (.ref t) (.ref s.heap.objs.size)) _ _ { s with heap := s.heap.push (seqObj "list" #[] 0) })⟩))
  unfold Builtin.List.listExtendWith
  refine wpAny_bind (wpAny_typeOf (T := "tuple") ⟨ob, get2, cl⟩ (?_ : wpAny _ _ _ _ _ _))
  have yes : (Value.type "tuple" == Value.type "tuple") = true := by decide
  rw [if_pos (by rw [yes]; simp)]
  refine wpAny_bind (listItems_at get2 dat (wpAny_bind (listItems_at new rfl ?_)))
  rw [if_neg (by simp)]
  have fits : (#[] ++ its.toArray).size ≤ sizeLine + 1 := by simp only [Array.size_append, List.size_toArray, List.length_nil]; omega
  refine wpAny_bind (listUpdate_at new rfl (wpAny_pure ?_) (Nat.zero_le _) fits)
  have back : (#[] ++ its.toArray).toList = its := by simp
  refine wpAny_bind (wpAny_load (get?_update_seq new _) (?_ : wpAny _ _ (pure ((#[] : Array Value) ++ its.toArray).toList) R X _))
  rw [back]
  exact wpAny_pure q
theorem sorted_tup {t : Addr} {its : List Value} {lt : Value → Value → Bool} {R : Value → Shared → Prop} (O : SrtO.Swo lt) (ht : IsTup s.heap t its.toArray) (hn : its.length ≤ sizeLine)
    (S : 2 ≤ its.length → ∀ (g : Heap) (a : Addr), g.get? a = some (seqObj "list" its.toArray 0) → (∀ b o, s.heap.get? b = some o → b ≠ a ∧ g.get? b = some o) → SrtO.SortableO P W A.in1.in1 { s with heap := g } a its lt)
    (q : ∀ res : List Value, SrtO.Srtd lt res → SrtO.Stb lt res its → R (.ref (s.heap.objs.size + 1)) { s with heap := sortedAll s.heap its res.toArray }) :
    wpAny (model P W) A (call (.builtin "sorted") [.ref t]) R X s := by
  have size2 : (gath s.heap its).objs.size = s.heap.objs.size + 1 := by rw [Heap.size_update, size_push']
  have at2 : ((gath s.heap its).push (seqObj "list" its.toArray 0)).get? (s.heap.objs.size + 1) = some (seqObj "list" its.toArray 0) := by rw [← size2]; exact Heap.get?_push_size _ rfl
  have old : ∀ b o, s.heap.get? b = some o → b ≠ s.heap.objs.size + 1 ∧ ((gath s.heap its).push (seqObj "list" its.toArray 0)).get? b = some o := fun b o e => by
    have below : b < s.heap.objs.size := Heap.lt_size e
    refine ⟨Nat.ne_of_lt (Nat.lt_succ_of_lt below), Heap.get?_push_of_some _ ?_⟩
    rw [Heap.get?_update_ne _ _ _ _ (Nat.ne_of_lt below)]; exact Heap.get?_push_of_some _ e
  refine Calls.call_function_entry kind_sorted plain_sorted entry_sorted (args_sorted1 _) (?_ : wpAny _ _ _ _ _ _)
  unfold Builtin.«sorted»
  refine wpAny_bind (m := checkCount "sorted" 1 1 _) (wpAny_pure (wpAny_bind (gather_tup ht hn (wpAny_bind (wpAny_newList ?_ hn)))))
  show wpAny _ _ _ _ _ { s with heap := (gath s.heap its).push (seqObj "list" its.toArray 0) }
  rw [size2]
  refine wpAny_bind (wpAny_holding (wpAny_call_entry slot_list_sort ⟨_, at2, rfl⟩ entry_list_sort (SrtO.list_sort_ord O at2 hn (fun two => S two _ _ at2 old) fun res a b => ⟨_, rfl, (?_ : wpAny _ _ _ _ _ _)⟩) (args_list_sort _)))
  exact wpAny_pure ⟨_, rfl, q res a b⟩
theorem Fc.sorted_fcT {l : Addr} {vs : List Value} {k : Value → Fc} {Q : Value → Shared → Prop} (hl : IsTup s.heap l vs.toArray) (hz : vs.length ≤ sizeLine)
    (hp : ∀ v ∈ vs, ∃ as, Reads s.heap v (dat (k v)) as ∧ A.units + ((dat (k v)).depth + 4) < cLine)
    (h : ∀ (h' : Heap) (d : Addr) (out : List Value), SrtO.Srtd (fun v u => Fc.lt (k v) (k u)) out → out.Perm vs → (∀ (b : Addr) (o : Obj), s.heap.get? b = some o → h'.get? b = some o) → s.heap.objs.size ≤ d → (∃ n, h'.get? d = some (seqObj "list" out.toArray n)) →
      Q (.ref d) { heap := h', gens := s.gens, drawn := s.drawn, toks := s.toks, os := s.os }) :
    wpAny (model P W) A (call (.builtin "sorted") [.ref l]) Q X s := by
  refine sorted_tup (lt := fun v u => Fc.lt (k v) (k u)) ⟨fun x y => swo.asym _ _, fun x y z => swo.tr _ _ _⟩ hl hz (fun h2 h₁ a ha kk => ?_) fun out hs hb => ?_
  · refine sortable (s := { heap := h₁, gens := s.gens, drawn := s.drawn, toks := s.toks, os := s.os }) (by omega) (fun v hv => ?_) fun o e => ?_
    · obtain ⟨as, r, u⟩ := hp v hv
      exact ⟨as, keeps (fun b o _ e => (kk b o e).2) _ r, by show A.units + 1 + 1 + _ < cLine; omega⟩
    · have e2 := ha.symm.trans e
      cases e2
      intro z
      exact absurd (Value.type.inj z) (by decide)
  · obtain ⟨n, e⟩ := sortedAll_at s.heap vs out.toArray
    exact h _ _ out hs hb.perm (fun b o e => sortedAll_old e) (Nat.le_succ _) ⟨n, e⟩
end
def rSortG (K : PySem.W.Frag) : List V → Hp → VK → Prop := fun vs H Q => ∃ a xs fs, vs = [.ref a] ∧ (SqL K H a xs ∨ SqT K H a xs) ∧ DqAll K H xs (Fc.dats fs) ∧ PyData.depthAll (Fc.dats fs) ≤ 180 ∧
  ∀ ys p, DqAll K H ys (Fc.dats (Fc.srt fs)) → H p = none → Q (.ref p) (upd H p (.lst ys))
theorem call_sortG {X : Cx} (hu : X.A.units + 200 < cLine) : CallR X (.builtin "sorted") (rSortG X.K) := by
  rintro pins s σ H vs us Q I r ⟨a, xs, fs, rfl, hs, hd, hdep, q⟩
  rcases hs with hs | hs
  · exact call_sortF hu pins s σ H _ us Q I r ⟨a, xs, fs, rfl, hs, hd, hdep, q⟩
  obtain ⟨its, rv, hl, hz⟩ := I.tuple hs
  cases r with
  | cons r1 r2 =>
    cases r2
    cases r1
    obtain ⟨as, ra, _⟩ := DqAll.reads I hd rv
    obtain ⟨e1, e2⟩ := L2.refs_back rv (Fc.dq_refs hd)
    have hk := Fc.map_k ra
    obtain ⟨hlen, hat⟩ := Fc.reads_at ra
    have hd' : DqAll X.K H (its.map L2.backV) (Fc.dats (its.map (Fc.kOf s.heap))) := by rw [← e1, hk]; exact hd
    have each := Fc.dq_each _ _ hd'
    refine Fc.sorted_fcT (k := Fc.kOf s.heap) hl (by rw [← rv.length]; exact hz) (fun v hv => ?_) fun h' d out ho hp kp hsz hn => ?_
    · obtain ⟨j, hj, rfl⟩ := List.getElem_of_mem hv
      obtain ⟨f, bs, ef, rf⟩ := hat j hj
      rw [Fc.kOf_eq rf]
      have := Fc.depth_mem ef
      exact ⟨bs, rf, by omega⟩
    · obtain ⟨n, hn⟩ := hn
      have h3 : ∀ u ∈ out, ∃ a, u = Value.ref a := fun u hu => e2 u (hp.mem_iff.mp hu)
      have es : out.map (Fc.kOf s.heap) = Fc.srt fs := by
        refine Fc.ord_one _ _ (List.pairwise_map.mpr ho) (Fc.srt_ord _) ?_
        have p1 := hp.map (Fc.kOf s.heap)
        rw [hk] at p1
        exact p1.trans (Fc.srt_perm fs).symm
      refine ⟨.ref d, upd H d (.lst (out.map L2.backV)), I.laid kp hsz ⟨?_, out, n, L2.vals_back h3, hn⟩, rfl, q _ d ?_ (HOk.fresh I.hok hsz)⟩
      · rw [List.length_map, hp.length_eq, ← rv.length]; exact hz
      · rw [← es]
        exact Fc.dq_all _ _ fun v hv => each v (hp.mem_iff.mp hv)
/-! ## rows of a form: it, and what each factor wants, and so on -/
def Fc.ws : Fc → List Fc
  | .mk ws _ => ws
def Fc.n : Fc → Nat
  | .mk _ n => n
mutual
def Fc.rowsF : Fc → List (List Fc)
  | .mk ws _ => ws :: Fc.rowsW ws
def Fc.rowsW : List Fc → List (List Fc)
  | [] => []
  | f :: r => Fc.rowsF f ++ Fc.rowsW r
end
def Fc.rows (l : List Fc) : List (List Fc) := l :: Fc.rowsW l
theorem Fc.rowsW_map (l : List Fc) : Fc.rowsW l = (l.map fun f => Fc.rows f.ws).flatten := by
  induction l with
  | nil => rfl
  | cons f r ih => obtain ⟨ws, n⟩ := f; rw [Fc.rowsW, ih, Fc.rowsF]; rfl
def Fc.her (l : List Fc) : Bool := (Fc.rows l).all fun r => Fc.cmps r (Fc.srt r) == .eq
mutual
/-- each row in order, each number that of a base -/
def Fc.good : Fc → Prop
  | .mk ws n => n < 8 ∧ Fc.Ord ws ∧ Fc.goods ws
def Fc.goods : List Fc → Prop
  | [] => True
  | f :: r => Fc.good f ∧ Fc.goods r
end
theorem Fc.goods_iff : ∀ {l : List Fc}, Fc.goods l ↔ ∀ f ∈ l, Fc.good f
  | [] => by rw [Fc.goods]; simp
  | f :: r => by rw [Fc.goods, Fc.goods_iff (l := r)]; simp
theorem Fc.goods_srt (l : List Fc) : Fc.goods (Fc.srt l) ↔ Fc.goods l := by
  rw [Fc.goods_iff, Fc.goods_iff]
  exact ⟨fun h f hf => h f ((Fc.srt_perm l).mem_iff.mpr hf), fun h f hf => h f ((Fc.srt_perm l).mem_iff.mp hf)⟩
theorem Fc.goods_app (a b : List Fc) : Fc.goods (a ++ b) ↔ Fc.goods a ∧ Fc.goods b := by
  rw [Fc.goods_iff, Fc.goods_iff, Fc.goods_iff]
  exact ⟨fun h => ⟨fun f hf => h f (List.mem_append.mpr (.inl hf)), fun f hf => h f (List.mem_append.mpr (.inr hf))⟩, fun h f hf => (List.mem_append.mp hf).elim (h.1 f) (h.2 f)⟩
theorem Kd.fac_good : ∀ {k : Kd} {W : List Fc}, k.ok → Fc.Ord W → Fc.goods W → Fc.goods (k.fac W)
  | .b n, W, h, o, g => by rw [Kd.fac, Fc.goods, Fc.goods, Fc.good]; exact ⟨⟨h, o, g⟩, trivial⟩
  | .u, W, h, o, g => by rw [Kd.fac, Fc.goods]; trivial
  | .p x y, W, h, o, g => by rw [Kd.fac, Fc.goods_app]; exact ⟨Kd.fac_good h.1 o g, Kd.fac_good h.2 o g⟩
  | .f x y, W, h, o, g => by
    rw [Kd.fac]
    refine Kd.fac_good h.2 (Fc.srt_ord _) ?_
    rw [Fc.goods_srt, Fc.goods_app, Fc.goods_srt]
    exact ⟨g, Kd.fac_good h.1 .nil (by rw [Fc.goods]; trivial)⟩
theorem Kd.form_good {k : Kd} (h : k.ok) : Fc.goods k.form := by
  rw [Kd.form, Fc.goods_srt]
  exact Kd.fac_good h .nil (by rw [Fc.goods]; trivial)
mutual
theorem Fc.her_rowsF : ∀ {f : Fc}, Fc.good f → ∀ r ∈ Fc.rowsF f, Fc.Ord r
  | .mk ws n, g, r, h => by
    rw [Fc.good] at g
    rw [Fc.rowsF] at h
    rcases List.mem_cons.mp h with h | h
    · rw [h]; exact g.2.1
    · exact Fc.her_rowsW g.2.2 r h
theorem Fc.her_rowsW : ∀ {l : List Fc}, Fc.goods l → ∀ r ∈ Fc.rowsW l, Fc.Ord r
  | [], g, r, h => by rw [Fc.rowsW] at h; cases h
  | f :: t, g, r, h => by
    rw [Fc.goods] at g
    rw [Fc.rowsW] at h
    exact (List.mem_append.mp h).elim (Fc.her_rowsF g.1 r) (Fc.her_rowsW g.2 r)
end
theorem Kd.form_her {k : Kd} (h : k.ok) : Fc.her k.form = true := by
  refine List.all_eq_true.mpr fun r hr => ?_
  have o : Fc.Ord r := by
    rcases List.mem_cons.mp hr with e | e
    · rw [e]; exact Fc.srt_ord _
    · exact Fc.her_rowsW (Kd.form_good h) r e
  rw [Fc.srt_of o, (Fc.cmps_eq _ _).mpr rfl]; rfl
mutual
theorem Fc.good_num : ∀ {f : Fc}, Fc.good f → ∀ n ∈ Fc.num f, n < 8
  | .mk ws m, g, n, h => by
    rw [Fc.good] at g
    rw [Fc.num] at h
    rcases List.mem_cons.mp h with e | e
    · rw [e]; exact g.1
    · exact Fc.goods_num g.2.2 n e
theorem Fc.goods_num : ∀ {l : List Fc}, Fc.goods l → ∀ n ∈ Fc.nums l, n < 8
  | [], g, n, h => by rw [Fc.nums] at h; cases h
  | f :: r, g, n, h => by
    rw [Fc.goods] at g
    rw [Fc.nums] at h
    exact (List.mem_append.mp h).elim (Fc.good_num g.1 n) (Fc.goods_num g.2 n)
end
/-! ## how much there is of a form -/
mutual
def Fc.cnt : Fc → Nat
  | .mk ws _ => 1 + Fc.cnts ws
def Fc.cnts : List Fc → Nat
  | [] => 0
  | f :: r => Fc.cnt f + Fc.cnts r
end
theorem Fc.cnts_app (a b : List Fc) : Fc.cnts (a ++ b) = Fc.cnts a + Fc.cnts b := by
  induction a with
  | nil => rw [List.nil_append, Fc.cnts, Nat.zero_add]
  | cons f r ih => rw [List.cons_append, Fc.cnts, Fc.cnts, ih, Nat.add_assoc]
theorem Fc.cnts_perm {l m : List Fc} (p : l.Perm m) : Fc.cnts l = Fc.cnts m := by
  induction p with
  | nil => rfl
  | cons x _ ih => rw [Fc.cnts, Fc.cnts, ih]
  | swap x y l => simp only [Fc.cnts]; omega
  | trans _ _ a b => exact a.trans b
theorem Fc.cnts_add (V : List Fc) : ∀ l : List Fc, Fc.cnts (l.map (Fc.add V)) = Fc.cnts l + l.length * Fc.cnts V
  | [] => by rw [List.map_nil, Fc.cnts]; simp
  | .mk ws n :: r => by
    rw [List.map_cons, Fc.cnts, Fc.cnts_add V r, Fc.cnts, Fc.add, Fc.cnt, Fc.cnt, Fc.cnts_perm (Fc.srt_perm _), Fc.cnts_app, List.length_cons, Nat.succ_mul]
    omega
theorem Kd.cnts_form : ∀ k : Kd, Fc.cnts k.form + 1 ≤ 2 ^ k.leaves
  | .b n => by rw [Kd.form_b]; simp [Fc.cnts, Fc.cnt, Kd.leaves]
  | .u => by rw [Kd.form_u]; simp [Fc.cnts, Kd.leaves]
  | .p x y => by
    have a := Kd.cnts_form x
    have b := Kd.cnts_form y
    rw [Kd.form_p, Fc.cnts_perm (Fc.srt_perm _), Fc.cnts_app, Kd.leaves, Nat.pow_add]
    have c : 2 ^ x.leaves * 2 ^ y.leaves ≥ 2 ^ x.leaves * 1 + 1 * 2 ^ y.leaves - 1 := by
      have p1 : 1 ≤ 2 ^ x.leaves := Nat.one_le_two_pow
      have p2 : 1 ≤ 2 ^ y.leaves := Nat.one_le_two_pow
      obtain ⟨i, hi⟩ : ∃ i, 2 ^ x.leaves = i + 1 := ⟨_, (Nat.sub_add_cancel p1).symm⟩
      obtain ⟨j, hj⟩ : ∃ j, 2 ^ y.leaves = j + 1 := ⟨_, (Nat.sub_add_cancel p2).symm⟩
      rw [hi, hj, Nat.add_mul, Nat.mul_add]
      omega
    omega
  | .f x y => by
    have a := Kd.cnts_form x
    have b := Kd.cnts_form y
    have l := y.form_length
    have lt : y.leaves < 2 ^ y.leaves := Nat.lt_two_pow_self
    rw [Kd.form_f, Fc.cnts_perm (Fc.srt_perm _), Fc.cnts_add, Kd.leaves, Nat.pow_add]
    obtain ⟨i, hi⟩ : ∃ i, 2 ^ x.leaves = i + 1 := ⟨_, (Nat.sub_add_cancel Nat.one_le_two_pow).symm⟩
    obtain ⟨j, hj⟩ : ∃ j, 2 ^ y.leaves = j + 1 := ⟨_, (Nat.sub_add_cancel Nat.one_le_two_pow).symm⟩
    rw [hi] at a
    rw [hj] at b lt
    rw [hi, hj, Nat.add_mul, Nat.mul_add]
    have m : y.form.length * Fc.cnts x.form ≤ j * i := Nat.mul_le_mul (by omega) (by omega)
    have e := Nat.mul_comm i j
    omega
mutual
theorem Fc.sz_cnt : ∀ f : Fc, sz (Fc.dat f) = 3 * Fc.cnt f
  | .mk ws n => by rw [Fc.dat, Fc.cnt]; simp only [sz, szs]; rw [Fc.szs_cnt ws]; omega
theorem Fc.szs_cnt : ∀ l : List Fc, szs (Fc.dats l) = 3 * Fc.cnts l
  | [] => by rw [Fc.dats, Fc.cnts]; rfl
  | f :: r => by rw [Fc.dats, Fc.cnts]; simp only [szs]; rw [Fc.sz_cnt f, Fc.szs_cnt r]; omega
end
theorem Kd.form_szs (k : Kd) (h : k.leaves ≤ 16) : szs (Fc.dats k.form) ≤ 200000 := by
  have a := Kd.cnts_form k
  have b : 2 ^ k.leaves ≤ 2 ^ 16 := Nat.pow_le_pow_right (by decide) h
  rw [Fc.szs_cnt]
  have : (2 : Nat) ^ 16 = 65536 := by decide
  omega
end KB

namespace KB
open PySem PySem.Spec PyProof.Rows L2
/-- what follows is asked by a name of one's own -/
theorem pss_gen {X : Cx} {S : List Stmt} {t I : TS} (h : PSs X S t) (w : ∀ (D : Ends) (σ : L2.St) (H : Hp), I D σ H → t D σ H) : PSs X S I :=
  ⟨fun pins s σ H D J i => h.run pins s σ H D J (w D σ H i)⟩
/-- both ways of a test lead to the same -/
theorem ite2' {p : Prop} [Decidable p] {A B : Prop} (a : A) (b : ¬ p → B) : if p then A else B := by
  split
  · exact a
  · rename_i h; exact b h
end KB

namespace KB
open PySem L2
/-! ## how wide and deep the kind of a form is -/
theorem Kd.chg_rk {c : Nat} : ∀ (k : Kd) (i : Int), (k.chg c i).rk = k.rk
  | .b n, i => by rw [Kd.chg]; split <;> rfl
  | .u, _ => rfl
  | .p x y, i => by rw [Kd.chg, Kd.rk, Kd.rk, Kd.chg_rk x, Kd.chg_rk y]
  | .f x y, i => by rw [Kd.chg, Kd.rk, Kd.rk, Kd.chg_rk x, Kd.chg_rk y]
mutual
def Fc.wid : Fc → Nat
  | .mk ws _ => max ws.length (Fc.wids ws)
def Fc.wids : List Fc → Nat
  | [] => 0
  | f :: r => max (Fc.wid f) (Fc.wids r)
end
theorem Fc.wids_le {B : Nat} : ∀ {l : List Fc}, Fc.wids l ≤ B ↔ ∀ f ∈ l, Fc.wid f ≤ B
  | [] => by rw [Fc.wids]; simp
  | f :: r => by
    rw [Fc.wids, Nat.max_le, Fc.wids_le (l := r)]
    simp
theorem Fc.wids_app {B : Nat} (a b : List Fc) : Fc.wids (a ++ b) ≤ B ↔ Fc.wids a ≤ B ∧ Fc.wids b ≤ B := by
  rw [Fc.wids_le, Fc.wids_le, Fc.wids_le]
  exact ⟨fun h => ⟨fun f hf => h f (List.mem_append.mpr (.inl hf)), fun f hf => h f (List.mem_append.mpr (.inr hf))⟩, fun h f hf => (List.mem_append.mp hf).elim (h.1 f) (h.2 f)⟩
theorem Fc.wids_srt {B : Nat} (l : List Fc) : Fc.wids (Fc.srt l) ≤ B ↔ Fc.wids l ≤ B := by
  rw [Fc.wids_le, Fc.wids_le]
  exact ⟨fun h f hf => h f ((Fc.srt_perm l).mem_iff.mpr hf), fun h f hf => h f ((Fc.srt_perm l).mem_iff.mp hf)⟩
theorem Kd.fac_wid {B : Nat} : ∀ (k : Kd) {W : List Fc}, Fc.wids W ≤ B → W.length + k.leaves ≤ B → Fc.wids (k.fac W) ≤ B
  | .b n, W, h, l => by
    rw [Kd.fac, Fc.wids, Fc.wids, Fc.wid]
    simp only [Kd.leaves] at l
    omega
  | .u, W, h, l => by rw [Kd.fac, Fc.wids]; exact Nat.zero_le _
  | .p x y, W, h, l => by
    simp only [Kd.leaves] at l
    rw [Kd.fac, Fc.wids_app]
    exact ⟨Kd.fac_wid x h (by omega), Kd.fac_wid y h (by omega)⟩
  | .f x y, W, h, l => by
    simp only [Kd.leaves] at l
    have lx := x.fac_length []
    rw [Kd.fac]
    refine Kd.fac_wid y ?_ ?_
    · rw [Fc.wids_srt, Fc.wids_app, Fc.wids_srt]
      exact ⟨h, Kd.fac_wid x (by rw [Fc.wids]; exact Nat.zero_le _) (by simp only [List.length_nil]; omega)⟩
    · rw [Fc.srt_length, List.length_append, Fc.srt_length]; omega
theorem Kd.form_wid (k : Kd) : Fc.wids k.form ≤ k.leaves := by
  rw [Kd.form, Fc.wids_srt]
  exact Kd.fac_wid k (by rw [Fc.wids]; exact Nat.zero_le _) (by simp)
theorem Fc.kdf_deep {B : Nat} : ∀ (r : List Fc) (k : Kd), k.deep ≤ B → (∀ g ∈ r, g.kd.deep ≤ B) → (Fc.kdf k r).deep ≤ B + r.length
  | [], k, h, _ => by rw [Fc.kdf]; exact h
  | f :: r, k, h, hr => by
    have := Fc.kdf_deep r f.kd (hr f List.mem_cons_self) fun g hg => hr g (List.mem_cons_of_mem _ hg)
    rw [Fc.kdf, Kd.deep, List.length_cons]
    omega
theorem Fc.kds_deep (M : Nat) : ∀ (j : Nat) (l : List Fc), l.length ≤ M → Fc.wids l ≤ M → PyData.depthAll (Fc.dats l) ≤ 2 * j → (Fc.kds l).deep ≤ (M + 1) * j + 1
  | 0, l, _, _, hd => by
    cases l with
    | nil => rw [Fc.kds]; simp [Kd.deep]
    | cons f r =>
      obtain ⟨ws, n⟩ := f
      rw [Fc.dats, Fc.dat] at hd
      simp only [PyData.depthAll, PyData.depth] at hd
      omega
  | j + 1, l, hl, hw, hd => by
    cases l with
    | nil => rw [Fc.kds]; simp [Kd.deep]
    | cons f r =>
      have each : ∀ g ∈ f :: r, g.kd.deep ≤ (M + 1) * j + 2 := by
        intro g hg
        have dg := Fc.depth_of hg
        have wg := Fc.wids_le.mp hw g hg
        obtain ⟨ws, n⟩ := g
        rw [Fc.dat] at dg
        simp only [PyData.depthAll, PyData.depth] at dg
        rw [Fc.wid] at wg
        cases ws with
        | nil => rw [Fc.kd, Fc.kdw]; simp only [Kd.deep]; omega
        | cons g0 r0 =>
          have ih := Fc.kds_deep M j (g0 :: r0) (by omega) (by omega) (by omega)
          have e : (Fc.mk (g0 :: r0) n).kd = .f (Fc.kds (g0 :: r0)) (.b n) := by rw [Fc.kd, Fc.kdw, Fc.kds]
          rw [e]
          simp only [Kd.deep]
          omega
      have := Fc.kdf_deep r f.kd (each f List.mem_cons_self) fun g hg => each g (List.mem_cons_of_mem _ hg)
      rw [Fc.kds]
      rw [List.length_cons] at hl
      have e : (M + 1) * (j + 1) = (M + 1) * j + (M + 1) := Nat.mul_succ _ _
      omega
mutual
theorem Fc.kd_leaves : ∀ f : Fc, f.kd.leaves ≤ Fc.cnt f
  | .mk [] n => by rw [Fc.kd, Fc.kdw, Fc.cnt, Fc.cnts]; simp [Kd.leaves]
  | .mk (g :: r) n => by
    have a := Fc.kd_leaves g
    have b := Fc.kdf_leaves g.kd r
    rw [Fc.kd, Fc.kdw, Fc.cnt, Fc.cnts]
    simp only [Kd.leaves]
    omega
theorem Fc.kdf_leaves (k : Kd) : ∀ l : List Fc, (Fc.kdf k l).leaves ≤ k.leaves + Fc.cnts l
  | [] => by rw [Fc.kdf, Fc.cnts]; exact Nat.le_refl _
  | f :: r => by
    have a := Fc.kd_leaves f
    have b := Fc.kdf_leaves f.kd r
    rw [Fc.kdf, Kd.leaves, Fc.cnts]
    omega
end
theorem Fc.kds_leaves : ∀ l : List Fc, (Fc.kds l).leaves ≤ 1 + Fc.cnts l
  | [] => by rw [Fc.kds, Fc.cnts]; exact Nat.le_refl _
  | f :: r => by
    have a := Fc.kd_leaves f
    have b := Fc.kdf_leaves f.kd r
    rw [Fc.kds, Fc.cnts]
    omega
mutual
theorem Fc.kd_ok : ∀ {f : Fc}, Fc.good f → f.kd.ok
  | .mk [] n, h => by rw [Fc.good] at h; rw [Fc.kd, Fc.kdw]; exact h.1
  | .mk (g :: r) n, h => by
    rw [Fc.good, Fc.goods] at h
    rw [Fc.kd, Fc.kdw]
    exact ⟨Fc.kdf_ok (Fc.kd_ok h.2.2.1) h.2.2.2, h.1⟩
theorem Fc.kdf_ok {k : Kd} (hk : k.ok) : ∀ {l : List Fc}, Fc.goods l → (Fc.kdf k l).ok
  | [], _ => by rw [Fc.kdf]; exact hk
  | f :: r, h => by
    rw [Fc.goods] at h
    rw [Fc.kdf]
    exact ⟨hk, Fc.kdf_ok (Fc.kd_ok h.1) h.2⟩
end
theorem Fc.kds_ok : ∀ {l : List Fc}, Fc.goods l → (Fc.kds l).ok
  | [], _ => trivial
  | f :: r, h => by
    rw [Fc.goods] at h
    rw [Fc.kds]
    exact Fc.kdf_ok (Fc.kd_ok h.1) h.2
end KB

namespace KB
open PySem PySem.Spec PyProof.Rows L2
/-! ## kinds so deep; the kind of a form has this form -/
theorem Kd.rk_deep : ∀ k : Kd, k.rk + 1 ≤ k.deep
  | .b _ => by simp [Kd.rk, Kd.deep]
  | .u => by simp [Kd.rk, Kd.deep]
  | .p x y => by have := Kd.rk_deep x; have := Kd.rk_deep y; simp only [Kd.rk, Kd.deep]; omega
  | .f x y => by have := Kd.rk_deep x; have := Kd.rk_deep y; simp only [Kd.rk, Kd.deep]; omega
theorem Kd.leaves_deep : ∀ (n : Nat) (k : Kd), k.deep ≤ n + 1 → k.leaves ≤ 2 ^ n
  | _, .b _, _ => Nat.one_le_two_pow
  | _, .u, _ => Nat.one_le_two_pow
  | 0, .p x y, h => by have := x.leaves_pos; have := x.deep_le; have : 1 ≤ x.deep := by cases x <;> simp [Kd.deep] <;> omega
                       simp only [Kd.deep] at h; omega
  | 0, .f x y, h => by have : 1 ≤ x.deep := by cases x <;> simp [Kd.deep] <;> omega
                       simp only [Kd.deep] at h; omega
  | n + 1, .p x y, h => by
    simp only [Kd.deep] at h
    have a := Kd.leaves_deep n x (by omega)
    have b := Kd.leaves_deep n y (by omega)
    simp only [Kd.leaves]; rw [Nat.pow_succ]; omega
  | n + 1, .f x y, h => by
    simp only [Kd.deep] at h
    have a := Kd.leaves_deep n x (by omega)
    have b := Kd.leaves_deep n y (by omega)
    simp only [Kd.leaves]; rw [Nat.pow_succ]; omega
def cb : Nat → Nat
  | 0 => 1
  | n + 1 => cb n * (1 + 2 ^ n)
theorem cb_pos : ∀ n, 1 ≤ cb n
  | 0 => Nat.le_refl _
  | n + 1 => by
    rw [cb]
    have := cb_pos n
    exact Nat.le_trans this (Nat.le_mul_of_pos_right _ (Nat.lt_of_lt_of_le Nat.zero_lt_one (Nat.le_add_right 1 _)))
theorem Kd.cnts_deep : ∀ (n : Nat) (k : Kd), k.deep ≤ n + 1 → Fc.cnts k.form ≤ cb n
  | n, .b m, _ => by rw [Kd.form_b]; have := cb_pos n; simp [Fc.cnts, Fc.cnt]; omega
  | n, .u, _ => by rw [Kd.form_u]; simp [Fc.cnts]
  | 0, .p x y, h => by have : 1 ≤ x.deep := by cases x <;> simp [Kd.deep] <;> omega
                       simp only [Kd.deep] at h; omega
  | 0, .f x y, h => by have : 1 ≤ x.deep := by cases x <;> simp [Kd.deep] <;> omega
                       simp only [Kd.deep] at h; omega
  | n + 1, .p x y, h => by
    simp only [Kd.deep] at h
    have a := Kd.cnts_deep n x (by omega)
    have b := Kd.cnts_deep n y (by omega)
    rw [Kd.form_p, Fc.cnts_perm (Fc.srt_perm _), Fc.cnts_app, cb, Nat.mul_add]
    have : cb n * 1 ≤ cb n * 2 ^ n := Nat.mul_le_mul (Nat.le_refl _) Nat.one_le_two_pow
    omega
  | n + 1, .f x y, h => by
    simp only [Kd.deep] at h
    have a := Kd.cnts_deep n x (by omega)
    have b := Kd.cnts_deep n y (by omega)
    have l := y.form_length
    have ly := Kd.leaves_deep n y (by omega)
    rw [Kd.form_f, Fc.cnts_perm (Fc.srt_perm _), Fc.cnts_add, cb, Nat.mul_add, Nat.mul_comm (cb n) (2 ^ n)]
    have m : y.form.length * Fc.cnts x.form ≤ 2 ^ n * cb n := Nat.mul_le_mul (by omega) a
    omega
mutual
theorem Fc.kd_form : ∀ {f : Fc}, Fc.good f → f.kd.form = [f]
  | .mk [] n, h => by rw [Fc.kd, Fc.kdw, Kd.form_b]
  | .mk (g :: r) n, h => by
    rw [Fc.good, Fc.goods] at h
    have e : (Fc.kdf g.kd r).form = g :: r := by
      rw [Fc.kdf_form h.2.2.2, Fc.kd_form h.2.2.1, List.singleton_append, Fc.srt_of h.2.1]
    rw [Fc.kd, Fc.kdw, Kd.form_f, Kd.form_b, e, List.map_cons, List.map_nil, Fc.add, List.append_nil, Fc.srt_of h.2.1]
    rfl
theorem Fc.kdf_form {k : Kd} : ∀ {l : List Fc}, Fc.goods l → (Fc.kdf k l).form = Fc.srt (k.form ++ l)
  | [], _ => by rw [Fc.kdf, List.append_nil, Kd.form_srt]
  | f :: r, h => by
    rw [Fc.goods] at h
    rw [Fc.kdf, Kd.form_p, Fc.kdf_form h.2, Fc.kd_form h.1, Fc.srt_right, List.singleton_append]
end
theorem Fc.kds_form {l : List Fc} (g : Fc.goods l) (o : Fc.Ord l) : (Fc.kds l).form = l := by
  cases l with
  | nil => rw [Fc.kds, Kd.form_u]
  | cons f r =>
    rw [Fc.goods] at g
    rw [Fc.kds, Fc.kdf_form g.2, Fc.kd_form g.1, List.singleton_append, Fc.srt_of o]
theorem Kd.kds_form {k : Kd} (h : k.ok) : (Fc.kds k.form).form = k.form := Fc.kds_form (Kd.form_good h) (Fc.srt_ord _)
mutual
theorem Fc.kd_rk : ∀ f : Fc, 2 * f.kd.rk + 2 ≤ (Fc.dat f).depth
  | .mk [] n => by rw [Fc.kd, Fc.kdw, Fc.dat, Fc.dats]; simp only [Kd.rk, PyData.depth, PyData.depthAll]; omega
  | .mk (g :: r) n => by
    have a := Fc.kdf_rk g.kd r
    have b := Fc.kd_rk g
    have e : (Fc.mk (g :: r) n).kd.rk = (Fc.kdf g.kd r).rk + 1 := by rw [Fc.kd, Fc.kdw]; simp only [Kd.rk]; exact Nat.max_eq_left (Nat.zero_le _)
    rw [e, Fc.dat, Fc.dats]
    simp only [PyData.depth, PyData.depthAll]
    omega
theorem Fc.kdf_rk (k : Kd) : ∀ l : List Fc, 2 * (Fc.kdf k l).rk + 2 ≤ max (2 * k.rk + 2) (PyData.depthAll (Fc.dats l))
  | [] => by rw [Fc.kdf]; omega
  | f :: r => by
    have a := Fc.kdf_rk f.kd r
    have b := Fc.kd_rk f
    rw [Fc.kdf, Fc.dats]
    simp only [Kd.rk, PyData.depthAll]
    omega
end
theorem Fc.kds_rk (l : List Fc) : 2 * (Fc.kds l).rk ≤ PyData.depthAll (Fc.dats l) := by
  cases l with
  | nil => rw [Fc.kds]; simp [Kd.rk]
  | cons f r =>
    have a := Fc.kdf_rk f.kd r
    have b := Fc.kd_rk f
    rw [Fc.kds, Fc.dats]
    simp only [PyData.depthAll]
    omega
/-! ## what is read stays, but for tables of code -/
def notab (H : Hp) : Hp := fun b => match H b with | some (.tbl _) => none | o => o
theorem notab_sub (H : Hp) : Same (notab H) H := fun b o e => by
  unfold notab at e
  split at e
  · cases e
  · exact e
theorem notab_at {H : Hp} {b : Addr} {o : HO} (h : H b = some o) (n : ∀ ps, o ≠ .tbl ps) : notab H b = some o := by
  unfold notab
  rw [h]
  split
  · rename_i e
    exact absurd (Option.some.inj e) (n _)
  · rfl
theorem notab_ext {H H' : Hp} (e : LamX.ExtN H H') : Same (notab H) (notab H') := fun b o h => by
  have n : ∀ ps, o ≠ .tbl ps := fun ps z => by
    unfold notab at h
    split at h
    · cases h
    · rename_i hx; exact hx ps (by rw [h, z])
  exact notab_at (e b o (notab_sub H b o h) n) n
theorem notab_seq {K : PySem.W.Frag} {H : Hp} {a : Addr} {xs : List V} (h : SqL K H a xs) : SqL K (notab H) a xs := by
  rcases h with (h | ⟨o, h⟩) | h
  · exact .inl (.inl (notab_at h fun _ z => by cases z))
  · exact .inl (.inr ⟨o, notab_at h fun _ z => by cases z⟩)
  · exact .inr h
theorem notab_tup {K : PySem.W.Frag} {H : Hp} {a : Addr} {xs : List V} (h : SqT K H a xs) : SqT K (notab H) a xs := by
  rcases h with (h | ⟨o, h⟩) | h
  · exact .inl (.inl (notab_at h fun _ z => by cases z))
  · exact .inl (.inr ⟨o, notab_at h fun _ z => by cases z⟩)
  · exact .inr h
mutual
theorem Dq.notab {K : PySem.W.Frag} {H : Hp} : ∀ {d : PyData} {v : V}, Dq K H v d → Dq K (KB.notab H) v d
  | _, _, .non => .non
  | _, _, .bl b => .bl b
  | _, _, .int i => .int i
  | _, _, .str x => .str x
  | _, _, .lst h a => .lst (notab_seq h) (DqAll.notab a)
  | _, _, .tup h a => .tup (notab_tup h) (DqAll.notab a)
  | _, _, .dct h => .dct (notab_at h fun _ z => by cases z)
theorem DqAll.notab {K : PySem.W.Frag} {H : Hp} : ∀ {ds : List PyData} {vs : List V}, DqAll K H vs ds → DqAll K (KB.notab H) vs ds
  | _, _, .nil => .nil
  | _, _, .cons h a => .cons (Dq.notab h) (DqAll.notab a)
end
theorem Dq.extN {K : PySem.W.Frag} {H H' : Hp} {d : PyData} {v : V} (e : LamX.ExtN H H') (h : Dq K H v d) : Dq K H' v d := (h.notab.same (notab_ext e)).same (notab_sub H')
theorem seq_extN {K : PySem.W.Frag} {H H' : Hp} {a : Addr} {xs : List V} (e : LamX.ExtN H H') (h : SqL K H a xs) : SqL K H' a xs := L2.Same.seq (notab_sub H') (L2.Same.seq (notab_ext e) (notab_seq h))
end KB

namespace KB
open PySem PySem.Spec PyProof.Rows L2
/-! ## which of two tuples is greater -/
def RcGt (A : Around) (s : Shared) (y x : Value) (k : Bool) : Prop := ∀ (P : Program) (w : World) (E Q : Value → Shared → Prop), Q (.bool k) s → wpAny (model P w) A (richCompare .Gt y x) Q E s
section
open SeqAt AutoSeq1
theorem gt_at (p q : Addr) (us vs : Array Value) (m m2 : Nat) (d1 d2 : Option Addr) (k1 k2 : Array (Option Value)) (e r : Nat → Bool) :
    Meets (Builtin.«tuple.__gt__» ⟨[.ref p, .ref q], []⟩) fun A R s => s.heap.get? p = some ⟨.type "tuple", d1, .seq us m, k1⟩ ∧ s.heap.get? q = some ⟨.type "tuple", d2, .seq vs m2, k2⟩ ∧
      (∀ j (a : j < us.size) (b : j < vs.size), EqAt A.in1 s us[j] vs[j] (e j)) ∧ (∀ j (a : j < us.size) (b : j < vs.size), e j = false → RcGt A.in1 s us[j] vs[j] (r j)) ∧ R (.ok (.ret (.bool (firstLt e r (decide (us.size > vs.size)) (List.range (min us.size vs.size)))))) s :=
  .of_wp fun P w A R s ⟨gp, gq, heq, hgt, hR⟩ => by
    obtain ⟨hp, g, d, tk, os⟩ := s
    have kinds := AutoSeq1.sub_tuple_tuple
    have both : (us.toList.zip vs.toList).length = min us.size vs.size := by simp
    wp_walk using wpAny_loadPart' gp, wpAny_loadPart' gq, wpAny_forIn_list _ (fun left st s' => st.1 = none ∧ s' = ⟨hp, g, d, tk, os⟩ ∧ ∃ i, left = (us.toList.zip vs.toList).drop i ∧ R (.ok (.ret (.bool (firstLt e r (decide (us.size > vs.size)) ((List.range (min us.size vs.size)).drop i))))) ⟨hp, g, d, tk, os⟩) _
    case turn =>
      rintro ⟨y, x⟩ left st s' ⟨h0, rfl, i, hz, hR⟩
      have lt : i < (us.toList.zip vs.toList).length := by
        by_cases z : i < (us.toList.zip vs.toList).length
        · exact z
        · rw [List.drop_of_length_le (by omega)] at hz; cases hz
      have im : i < min us.size vs.size := both ▸ lt
      have i1 : i < us.size := by omega
      have i2 : i < vs.size := by omega
      rw [List.drop_eq_getElem_cons lt] at hz
      injection hz with hyx rest
      obtain rfl : y = us[i] := by simpa using congrArg Prod.fst hyx
      obtain rfl : x = vs[i] := by simpa using congrArg Prod.snd hyx
      have cut : (List.range (min us.size vs.size)).drop i = i :: (List.range (min us.size vs.size)).drop (i + 1) := by simp [List.drop_eq_getElem_cons, im]
      rw [cut] at hR
      refine wpAny_bind (heq i i1 i2 P w _ _ ?_)
      cases same : e i with
      | true => rw [firstLt_yes same] at hR; wp_walk; exact ⟨rfl, rfl, i + 1, rest, hR⟩
      | false =>
        rw [firstLt_no same] at hR
        have hg : ∀ (E Q : Value → Shared → Prop), Q (.bool (r i)) ⟨hp, g, d, tk, os⟩ → wpAny (model P w) A.in1 (richCompare .Gt us[i] vs[i]) Q E ⟨hp, g, d, tk, os⟩ := fun E Q h => hgt i i1 i2 same P w E Q h
        clear heq hgt
        generalize @PySem.richCompare = rc at hg ⊢
        wp_walk
        refine hg _ _ ?_
        wp_walk
        exact ⟨_, rfl, hR⟩
    case fin =>
      rintro ⟨c1, c2⟩ s' ⟨h0, rfl, i, hz, hR⟩
      simp only at h0
      subst h0
      have past : min us.size vs.size ≤ i := by
        by_cases z : i < (us.toList.zip vs.toList).length
        · rw [List.drop_eq_getElem_cons z] at hz; cases hz
        · omega
      rw [List.drop_of_length_le (by simpa using past)] at hR
      wp_walk
      exact ⟨_, rfl, by simpa [Builtin.Tuple.tupleCompareSizes, firstLt] using hR⟩
    case h => exact ⟨rfl, rfl, 0, rfl, by simpa using hR⟩
theorem gt_tuples {A : Around} {s : Shared} {p q : Addr} {us vs : Array Value} {e r : Nat → Bool} (hp : s.heap.IsTuple p us) (hq : s.heap.IsTuple q vs) (hu : A.units < cLine)
    (heq : ∀ j (a : j < us.size) (b : j < vs.size), EqAt A.in1 s us[j] vs[j] (e j)) (hgt : ∀ j (a : j < us.size) (b : j < vs.size), e j = false → RcGt A.in1 s us[j] vs[j] (r j)) :
    RcGt A s (.ref p) (.ref q) (firstLt e r (decide (us.size > vs.size)) (List.range (min us.size vs.size))) := fun P w E Q h => by
  obtain ⟨⟨c1, d1, da1, k1⟩, g1, t1, m1, z1⟩ := id hp
  obtain ⟨⟨c2, d2, da2, k2⟩, g2, t2, m2, z2⟩ := id hq
  simp only at t1 z1 t2 z2
  subst t1 z1 t2 z2
  exact richCompare_meets_room (op := .Gt) ⟨_, g1, rfl⟩ ⟨_, g2, rfl⟩ F.slot_tuple_gt F.entry_tuple_gt (F.args_tuple_gt_2 _ _) (gt_at p q us vs m1 m2 d1 d2 k1 k2 e r) ⟨g1, g2, heq, hgt, show _ ≠ Value.notImplemented ∧ Q (.bool _) s from ⟨(fun z => nomatch z), h⟩⟩ hu
end
namespace Fc
def gt (a b : Fc) : Bool := cmp a b == .gt
def gF (fs gs : List Fc) (j : Nat) : Bool := match fs[j]?, gs[j]? with | some f, some g => gt f g | _, _ => false
theorem then_gt (a b : Ordering) : (a.then b == .gt) = (if (a == .eq) = true then (b == .gt) else (a == .gt)) := by cases a <;> cases b <;> rfl
theorem firstGt_cmps : ∀ fs gs : List Fc, SeqAt.firstLt (eF fs gs) (gF fs gs) (decide (fs.length > gs.length)) (List.range (min fs.length gs.length)) = (cmps fs gs == .gt)
  | [], [] => by simp [SeqAt.firstLt.eq_1, cmps]
  | [], _ :: _ => by simp [SeqAt.firstLt.eq_1, cmps]
  | _ :: _, [] => by simp [SeqAt.firstLt.eq_1, cmps]
  | f :: r, g :: t => by
    have hm : min (f :: r).length (g :: t).length = min r.length t.length + 1 := by simp only [List.length_cons]; omega
    have hd : decide ((f :: r).length > (g :: t).length) = decide (r.length > t.length) := by simp
    rw [hm, hd, List.range_succ_eq_map, SeqAt.firstLt.eq_2, firstLt_map]
    have h1 : (fun j => eF (f :: r) (g :: t) (Nat.succ j)) = eF r t := funext fun j => rfl
    have h2 : (fun j => gF (f :: r) (g :: t) (Nat.succ j)) = gF r t := funext fun j => rfl
    rw [h1, h2, firstGt_cmps r t, cmps, then_gt]
    rfl
theorem rg_int {A : Around} {s : Shared} (a : Int) (t : Tok) (b : Int) (u : Tok) : RcGt A s (.int a t) (.int b u) (decide (b < a)) := fun prog w E Q h => gt_int h
mutual
theorem rcGt : ∀ (f g : Fc) {A : Around} {s : Shared} {v u : Value} {as bs : List Addr}, Reads s.heap v (dat f) as → Reads s.heap u (dat g) bs → A.units + (dat f).depth < cLine → RcGt A s v u (gt f g)
  | mk ws n, mk vs m, A, s, v, u, as, bs, rv, ru, hu => by
    rw [dat] at rv ru hu
    simp only [PyData.depth, PyData.depthAll] at hu
    obtain ⟨a, items, rfl, t1, ra⟩ := tup_inv rv
    obtain ⟨b, items2, rfl, t2, rb⟩ := tup_inv ru
    obtain ⟨il⟩ := items
    obtain ⟨il2⟩ := items2
    cases ra with
    | cons r1 r2 => cases r2 with
    | cons r3 r4 => cases r4 with
    | nil => cases rb with
    | cons p1 p2 => cases p2 with
    | cons p3 p4 => cases p4 with
    | nil =>
    cases r3
    cases p3
    have eq0 := SeqAt.eqAt_reads _ _ A.in1 s _ _ _ _ r1 p1 (by simpa [PyData.canLay0] using lays ws) (by simpa [PyData.canLay0] using lays vs) (by show A.units + 1 + _ < cLine; simp only [PyData.depth]; omega)
    rw [ev_tup, eqvs] at eq0
    obtain ⟨a1, w1, rfl, tw, rw1⟩ := tup_inv r1
    obtain ⟨b1, w2, rfl, tv, rv1⟩ := tup_inv p1
    obtain ⟨l1, f1⟩ := reads_at rw1
    obtain ⟨l2, f2⟩ := reads_at rv1
    have lt0 : RcGt A.in1 s (.ref a1) (.ref b1) (cmps ws vs == .gt) := by
      have h := gt_tuples (A := A.in1) (s := s) (e := eF ws vs) (r := gF ws vs) tw tv (by show A.units + 1 < cLine; omega) (fun j h1 h2 => ?_) (fun j h1 h2 _ => ?_)
      · have s1 : w1.size = ws.length := by rw [← l1]; simp
        have s2 : w2.size = vs.length := by rw [← l2]; simp
        rw [s1, s2, firstGt_cmps] at h
        exact h
      · obtain ⟨f, as1, e1, q1⟩ := f1 j (by simpa using h1)
        obtain ⟨g, bs1, e2, q2⟩ := f2 j (by simpa using h2)
        have d1 := depth_mem e1
        have := SeqAt.eqAt_reads _ _ A.in1.in1 s _ _ _ _ q1 q2 (lay f) (lay g) (by show A.units + 1 + 1 + _ < cLine; omega)
        rw [eqv f g] at this
        have ef : eF ws vs j = (cmp f g == .eq) := by simp [eF, e1, e2]
        rw [ef]
        simpa using this
      · obtain ⟨f, as1, e1, q1⟩ := f1 j (by simpa using h1)
        obtain ⟨g, bs1, e2, q2⟩ := f2 j (by simpa using h2)
        have := rcGts ws vs (A := A.in1.in1) j e1 q1 q2 (by show A.units + 1 + 1 + _ < cLine; omega)
        have ef : gF ws vs j = gt f g := by simp [gF, e1, e2]
        rw [ef]
        simpa using this
    have h := gt_tuples (A := A) (s := s) (e := fun j => if j = 0 then (cmps ws vs == .eq) else ((n : Int) == (m : Int))) (r := fun j => if j = 0 then (cmps ws vs == .gt) else decide ((m : Int) < (n : Int))) t1 t2 (by omega) (fun j h1 h2 => ?_) (fun j h1 h2 _ => ?_)
    · have e : SeqAt.firstLt (fun j => if j = 0 then (cmps ws vs == .eq) else ((n : Int) == (m : Int))) (fun j => if j = 0 then (cmps ws vs == .gt) else decide ((m : Int) < (n : Int))) (decide (2 > 2)) [0, 1] = gt (mk ws n) (mk vs m) := by
        rw [SeqAt.firstLt.eq_2, SeqAt.firstLt.eq_2, SeqAt.firstLt.eq_1, gt, cmp, then_gt]
        have hnm : decide ((m : Int) < (n : Int)) = (compare n m == .gt) := by
          by_cases h : m < n
          · have h2 : compare n m = .gt := Nat.compare_eq_gt.mpr h
            have h3 : ((m : Int) < (n : Int)) := by omega
            simp [h2, h3]
          · have h2 : compare n m ≠ .gt := fun z => h (Nat.compare_eq_gt.mp z)
            have h3 : ¬ ((m : Int) < (n : Int)) := by omega
            simp [h2, h3]
        simp only [hnm, nat_ev]
        generalize cmps ws vs = c
        generalize compare n m = d
        cases c <;> cases d <;> rfl
      rw [← e]
      exact h
    · match j, h1, h2 with
      | 0, _, _ => exact eq0
      | 1, _, _ => exact SeqAt.EqAt.int_int _ _ _ _
      | j + 2, h1, _ => exact absurd h1 (by simp)
    · match j, h1, h2 with
      | 0, _, _ => exact lt0
      | 1, _, _ => exact rg_int _ _ _ _
      | j + 2, h1, _ => exact absurd h1 (by simp)
theorem rcGts : ∀ (fs gs : List Fc) {A : Around} {s : Shared} (j : Nat) {f g : Fc} {v u : Value} {as bs : List Addr}, fs[j]? = some f → Reads s.heap v (dat f) as → Reads s.heap u (dat g) bs → A.units + PyData.depthAll (dats fs) < cLine → RcGt A s v u (gt f g)
  | [], _, _, _, _, _, _, _, _, _, _, h, _, _, _ => by simp at h
  | f0 :: r, gs, A, s, 0, f, g, v, u, as, bs, h, rv, ru, hu => by
    have e : f0 = f := by simpa using h
    subst e
    rw [dats] at hu
    simp only [PyData.depthAll] at hu
    exact rcGt f0 g rv ru (by omega)
  | f0 :: r, gs, A, s, j + 1, f, g, v, u, as, bs, h, rv, ru, hu => by
    rw [dats] at hu
    simp only [PyData.depthAll] at hu
    exact rcGts r gs j (by simpa using h) rv ru (by omega)
end
theorem gt_lt (a b : Fc) : gt a b = lt b a := by
  unfold gt lt
  rw [cmp_swap a b]
  cases cmp a b <;> rfl
end Fc
/-- a > b of two factors -/
def rGtF (K : PySem.W.Frag) : R2 := fun x y H Q => ∃ f g : Fc, Dq K H x (Fc.dat f) ∧ Dq K H y (Fc.dat g) ∧ (Fc.dat f).depth ≤ 190 ∧ Q (.bl (Fc.lt g f)) H
theorem op_gtF {X : Cx} (hu : X.A.units + 200 < cLine) : OpR X (compareOp .Gt) (rGtF X.K) := by
  intro pins s σ H x y v u Q I rx ry ⟨f, g, df, dg, dep, q⟩
  obtain ⟨as, ra, _⟩ := Dq.reads I df rx
  obtain ⟨bs, rb, _⟩ := Dq.reads I dg ry
  have h := Fc.rcGt f g (A := X.A) (s := s) ra rb (by omega)
  rw [Fc.gt_lt] at h
  exact h _ _ _ _ ⟨.bl _, H, I, rfl, q⟩
end KB

namespace KB
open PySem PySem.Spec L2
/-! ## data read as factors -/
def pQ (o : Option (List Fc)) (r : List PyData) : Option Fc := match o with
  | none => none
  | some ws => match r with
    | [.int n] => if 0 ≤ n ∧ n < 8 then some (.mk ws n.toNat) else none
    | _ => none
mutual
def pF : PyData → Option Fc
  | .tuple xs => pP xs
  | _ => none
def pP : List PyData → Option Fc
  | [] => none
  | w :: r => pQ (pW w) r
def pW : PyData → Option (List Fc)
  | .tuple ws => pL ws
  | _ => none
def pL : List PyData → Option (List Fc)
  | [] => some []
  | d :: r => match pF d, pL r with
    | some f, some l => some (f :: l)
    | _, _ => none
end
/-- a factor but for what stands in what it wants -/
def facSh : PyData → Bool
  | .tuple [w, b] => tyN w == "tuple" && isBn b
  | _ => false
def wOf : PyData → List PyData
  | .tuple (.tuple ws :: _) => ws
  | _ => []
theorem facSh_is {d : PyData} (h : facSh d = true) : ∃ (ws : List PyData) (n : Nat), d = .tuple [.tuple ws, .int (n : Int)] ∧ n < 8 := by
  match d, h with
  | .tuple [w, b], h =>
    simp only [facSh, Bool.and_eq_true, beq_iff_eq] at h
    cases w <;> simp [tyN] at h
    rename_i ws
    cases b <;> simp [isBn] at h
    rename_i n
    exact ⟨ws, n.toNat, by rw [Int.toNat_of_nonneg h.1], by omega⟩
theorem pF_sh (ws : List PyData) (n : Nat) (h : n < 8) : pF (.tuple [.tuple ws, .int (n : Int)]) = (pL ws).map fun l => .mk l n := by
  simp only [pF, pP, pW]
  cases pL ws with
  | none => rfl
  | some l =>
    have e : (0 : Int) ≤ (n : Int) ∧ (n : Int) < 8 := by omega
    simp only [Option.map_some, pQ]
    rw [if_pos e]; simp
theorem pQ_is {o : Option (List Fc)} {r : List PyData} {f : Fc} (h : pQ o r = some f) : ∃ (ws : List Fc) (n : Nat), o = some ws ∧ r = [.int (n : Int)] ∧ n < 8 ∧ f = .mk ws n := by
  cases o with
  | none => cases h
  | some ws =>
    simp only [pQ] at h
    split at h
    · rename_i n
      split at h
      · rename_i c
        cases h
        exact ⟨ws, n.toNat, rfl, by rw [Int.toNat_of_nonneg c.1], by omega, rfl⟩
      · cases h
    · cases h
mutual
theorem pF_dat : ∀ {d : PyData} {f : Fc}, pF d = some f → facSh d = true ∧ d = Fc.dat f ∧ ∀ n ∈ Fc.num f, n < 8
  | .tuple xs, f, h => by
    simp only [pF] at h
    obtain ⟨ws, n, e, hn, rfl, g⟩ := pP_dat h
    rw [e]
    refine ⟨?_, by rw [Fc.dat], fun k hk => ?_⟩
    · simp [facSh, tyN, isBn]; omega
    · rw [Fc.num] at hk
      rcases List.mem_cons.mp hk with z | z
      · rw [z]; exact hn
      · exact g k z
  | .none, f, h => by simp [pF] at h
  | .bool _, f, h => by simp [pF] at h
  | .int _, f, h => by simp [pF] at h
  | .str _, f, h => by simp [pF] at h
  | .list _, f, h => by simp [pF] at h
  | .dict _, f, h => by simp [pF] at h
theorem pP_dat : ∀ {xs : List PyData} {f : Fc}, pP xs = some f → ∃ (ws : List Fc) (n : Nat), xs = [.tuple (Fc.dats ws), .int (n : Int)] ∧ n < 8 ∧ f = .mk ws n ∧ ∀ k ∈ Fc.nums ws, k < 8
  | [], f, h => by simp [pP] at h
  | w :: r, f, h => by
    simp only [pP] at h
    obtain ⟨ws, n, e, rfl, hn, rfl⟩ := pQ_is h
    obtain ⟨ew, g⟩ := pW_dat e
    exact ⟨ws, n, by rw [ew], hn, rfl, g⟩
theorem pW_dat : ∀ {w : PyData} {ws : List Fc}, pW w = some ws → w = .tuple (Fc.dats ws) ∧ ∀ k ∈ Fc.nums ws, k < 8
  | .tuple xs, ws, h => by
    simp only [pW] at h
    obtain ⟨e, g⟩ := pL_dats h
    exact ⟨by rw [e], g⟩
  | .none, f, h => by simp [pW] at h
  | .bool _, f, h => by simp [pW] at h
  | .int _, f, h => by simp [pW] at h
  | .str _, f, h => by simp [pW] at h
  | .list _, f, h => by simp [pW] at h
  | .dict _, f, h => by simp [pW] at h
theorem pL_dats : ∀ {ds : List PyData} {F : List Fc}, pL ds = some F → ds = Fc.dats F ∧ ∀ n ∈ Fc.nums F, n < 8
  | [], F, h => by simp only [pL] at h; cases h; rw [Fc.dats]; exact ⟨rfl, fun n z => by rw [Fc.nums] at z; cases z⟩
  | d :: r, F, h => by
    simp only [pL] at h
    cases hd : pF d with
    | none => rw [hd] at h; cases h
    | some f =>
      cases hr : pL r with
      | none => rw [hd, hr] at h; cases h
      | some l =>
        rw [hd, hr] at h
        cases h
        obtain ⟨_, a, b⟩ := pF_dat hd
        obtain ⟨c, e⟩ := pL_dats hr
        refine ⟨by rw [Fc.dats, ← a, ← c], fun n hn => ?_⟩
        rw [Fc.nums] at hn
        exact (List.mem_append.mp hn).elim (b n) (e n)
end
theorem pF_no {d : PyData} (h : facSh d = false) : pF d = none := by
  cases e : pF d with
  | none => rfl
  | some f => rw [(pF_dat e).1] at h; cases h
mutual
theorem pF_of : ∀ {f : Fc}, (∀ n ∈ Fc.num f, n < 8) → pF (Fc.dat f) = some f
  | .mk ws n, h => by
    rw [Fc.num] at h
    rw [Fc.dat, pF_sh _ n (h n List.mem_cons_self), pL_of (l := ws) fun k hk => h k (List.mem_cons_of_mem _ hk)]
    rfl
theorem pL_of : ∀ {l : List Fc}, (∀ n ∈ Fc.nums l, n < 8) → pL (Fc.dats l) = some l
  | [], _ => by rw [Fc.dats, pL]
  | f :: r, h => by
    rw [Fc.nums] at h
    rw [Fc.dats, pL, pF_of fun n hn => h n (List.mem_append.mpr (.inl hn)), pL_of fun n hn => h n (List.mem_append.mpr (.inr hn))]
end
/-- where all are factors but for what is wanted, and what each wants is read, all is -/
theorem pL_all : ∀ {ds : List PyData}, (∀ d ∈ ds, facSh d = true) → (∀ d ∈ ds, pL (wOf d) ≠ none) → pL ds ≠ none
  | [], _, _ => by rw [pL]; simp
  | d :: r, h, g => by
    obtain ⟨ws, n, rfl, hn⟩ := facSh_is (h d List.mem_cons_self)
    have g1 := g _ List.mem_cons_self
    have g2 := pL_all (ds := r) (fun e he => h e (List.mem_cons_of_mem _ he)) fun e he => g e (List.mem_cons_of_mem _ he)
    rw [pL, pF_sh ws n hn]
    have e : wOf (.tuple [.tuple ws, .int (n : Int)]) = ws := rfl
    rw [e] at g1
    cases a : pL ws with
    | none => exact absurd a g1
    | some l => cases b : pL r with
      | none => exact absurd b g2
      | some m => simp
/-! ## what the law takes for a form -/
def lawF (d : PyData) : Bool := match pF d with | some f => Fc.her f.ws | none => false
def lawL : PyData → Bool
  | .list ds => (match pL ds with | some F => Fc.her F | none => false)
  | _ => false
theorem her_cons (l : List Fc) : Fc.her l = ((Fc.cmps l (Fc.srt l) == .eq) && l.all fun f => Fc.her f.ws) := by
  rw [Fc.her, Fc.rows, List.all_cons, Fc.rowsW_map, List.all_flatten, List.all_map]
  rfl
theorem lawF_all : ∀ ds : List PyData, ds.all lawF = (match pL ds with | some F => F.all fun f => Fc.her f.ws | none => false)
  | [] => by rw [pL]; rfl
  | d :: r => by
    rw [List.all_cons, lawF_all r, pL, lawF]
    cases pF d with
    | none => rfl
    | some f => cases pL r with
      | none => simp
      | some l => rfl
/-- a list is in order where no neighbours are turned -/
theorem ord_near : ∀ {l : List Fc}, (∀ k, 0 < k → k < l.length → ∀ f g, l[k - 1]? = some f → l[k]? = some g → Fc.lt g f = false) → Fc.Ord l
  | [], _ => .nil
  | [f], _ => List.pairwise_singleton _ _
  | f :: g :: r, h => by
    have t := ord_near (l := g :: r) fun k k0 k1 a b ha hb => h (k + 1) (by omega) (by simp only [List.length_cons] at k1 ⊢; omega) a b (by
      have : k + 1 - 1 = (k - 1) + 1 := by omega
      rw [this]; exact ha) hb
    have e : Fc.lt g f = false := h 1 (by decide) (by simp) f g rfl rfl
    refine List.pairwise_cons.mpr ⟨fun x hx => ?_, t⟩
    rcases List.mem_cons.mp hx with rfl | hx
    · exact e
    · have gx : Fc.lt x g = false := (List.pairwise_cons.mp t).1 x hx
      exact Fc.swo.tr f g x e gx
theorem near_ord {l : List Fc} (o : Fc.Ord l) {k : Nat} {f g : Fc} (k0 : 0 < k) (hf : l[k - 1]? = some f) (hg : l[k]? = some g) : Fc.lt g f = false := by
  have h1 := (List.getElem?_eq_some_iff.mp hf)
  have h2 := (List.getElem?_eq_some_iff.mp hg)
  obtain ⟨a, rfl⟩ := h1
  obtain ⟨b, rfl⟩ := h2
  exact List.pairwise_iff_getElem.mp o (k - 1) k a b (by omega)
theorem ord_iff (l : List Fc) : (Fc.cmps l (Fc.srt l) == .eq) = true ↔ Fc.Ord l := by
  constructor
  · intro h
    have : l = Fc.srt l := (Fc.cmps_eq _ _).mp (by simpa using h)
    rw [this]; exact Fc.srt_ord l
  · intro h
    rw [Fc.srt_of h, (Fc.cmps_eq _ _).mpr rfl]; rfl
end KB

/-! B18: refusals held as values: made, isinstance of them, their fields. -/
namespace KB
open PySem PySem.Spec PySem.Calls PyProof.Rows L2
/-- at a: a refusal of the class cls, held as a value; d: where its dict is, if it has one -/
def ExV (cls : Value) (d : Option Addr) (a : Addr) : HO := .ext fun h => ∃ (o : Obj) (fs : Array Value), h.get? a = some o ∧ Zc cls d o ∧ o.data = .fields fs
theorem exV_ok {P : Program} {w : World} {H : Hp} {h : Heap} {a : Addr} {cls : Value} {d : Option Addr} {o : Obj} {fs : Array Value} (e : h.get? a = some o) (z : Zc cls d o) (k : o.data = .fields fs) : ObjOk P w H h a (ExV cls d a) :=
  ⟨⟨o, fs, e, z, k⟩, ⟨o, e⟩, fun _ _ ⟨o', fs', e', r⟩ g => ⟨o', fs', g o' e', r⟩⟩
theorem inv_like {X : Cx} {pins : List (Addr × Obj)} {σ : L2.St} {H : Hp} {s s' : Shared} (I : Inv X pins σ H s) (h1 : s'.heap = s.heap) (h2 : s'.os = s.os) (h3 : AllBare s'.gens) : Inv X pins σ H s' := by
  obtain ⟨ok, os, bare, base, loc, cell, free, freeC, pin, hok, len⟩ := I
  rw [← h1] at base loc cell pin hok
  exact ⟨ok, h2.trans os, h3, base, loc, cell, free, freeC, pin, hok, len⟩
/-- what makes a refusal, as a value -/
def tHeld (t : L2.St → Hp → XK → Prop) : TE := fun σ H Q => t σ H fun cls d H' => ∀ a, H' a = none → Q (.ref a) (upd H' a (ExV cls d a))
theorem pe_held {X : Cx} {e : Expr} {t : L2.St → Hp → XK → Prop} (h : PMk X e t) : PE X e (tHeld t) := by
  refine ⟨fun pins s σ H Q I q => wpAny_mono (h pins s σ H _ I q) (fun u s1 hu => ?_) fun _ _ x => x⟩
  obtain ⟨a, oe, vs, sI, H', cls, d, eu, J, k, hne, ha, hz, hd, _, na, os, ag, _, q1⟩ := hu
  subst eu
  exact ⟨.ref a, upd H' a (ExV cls d a), inv_like (J.laidN (t' := s1.toks) k hne na (exV_ok ha hz hd)) rfl os ag, rfl, q1 a na⟩
/-- at a: a refusal of the class at D, one with a field (then its dict is known) or without -/
def Err (H : Hp) (a D : Addr) : Prop := ∃ d : Option Addr, H a = some (ExV (.ref D) d a) ∧ ∀ b, d = some b → ∃ fs, H b = some (.xd fs)
theorem Err.inst {P : Program} {w : World} {H : Hp} {h : Heap} {a D : Addr} (e : Err H a D) (k : HOk P w H h) : ∃ ox od, PySem.W.InstAt h a ox D od := by
  obtain ⟨d, e, ed⟩ := e
  obtain ⟨⟨oe, vs, ho, hz, hd⟩, _, _⟩ := k a _ e
  obtain ⟨oc, odd, oda, osl⟩ := oe
  obtain ⟨h1, h2⟩ := hz
  dsimp only at h1 h2 hd
  subst h1 h2 hd
  cases odd with
  | none => exact ⟨_, none, ho, rfl, rfl, trivial⟩
  | some b =>
    obtain ⟨fs, eb⟩ := ed b rfl
    obtain ⟨mA, ⟨o, es, ep, hod, _⟩, _⟩ : ∃ mA, h.Ns1 b mA ∧ ∀ f, RelO (fs.lookup f) (mA f) := k b _ eb
    exact ⟨_, some o, ho, rfl, rfl, hod⟩
/-- isinstance(e, c), e a refusal held as a value -/
def rIsX (K : PySem.W.Frag) : List V → Hp → VK → Prop := fun xs H Q => ∃ (a D : Addr) (c : V) (cv : Value) (b : Bool), xs = [.ref a, c] ∧ ExcC K D ∧ Err H a D ∧ (∀ u, RelV c u → u = cv) ∧ PySem.W.kitOne K (.ref D) cv = some b ∧ Q (.bl b) H
theorem call_isX {X : Cx} : CallR X (.builtin "isinstance") (rIsX X.K) := by
  intro pins s σ H xs us Q I r h
  obtain ⟨a, D, c, cv, b, rfl, C, er, hcv, e, q⟩ := h
  cases r with
  | cons rx rr =>
    cases rr with
    | cons rt rr =>
      cases rr
      cases rx
      have ec := hcv _ rt
      subst ec
      obtain ⟨ox, od, J⟩ := er.inst I.hok
      obtain ⟨cd, hc, _⟩ := PySem.W.any_some C.hd
      exact PySem.W.kia_one (PySem.W.kitx_exc (by rw [hc]; rfl) C.hg C.hk C.hs C.ha C.hn C.ht C.hm) I.kIn J e (fun z => nomatch z) fun tk => ⟨.bl b, H, I.kept (t' := tk) fun _ _ z => z, rfl, q⟩
/-- e.n, e a refusal with fields held as a value -/
def tXv (K : PySem.W.Frag) (n : Str) (te : TE) : TE := fun σ H Q => te σ H fun x H1 => ∃ (a C b : Addr) (fs : List (Str × V)) (v : V), x = .ref a ∧ XfC K C ∧ PySem.W.findIn K (.ref C) n = some none ∧
  H1 a = some (ExV (.ref C) (some b) a) ∧ H1 b = some (.xd fs) ∧ fs.lookup n = some v ∧ Q v H1
theorem pe_xv {X : Cx} {e : Expr} {te : TE} {pos : Pos} {n : Str} (he : PE X e te) (hb : attributeBase e n X.env (eval e X.env) = eval e X.env := by rfl) : PE X (.Attribute e n pos) (tXv X.K n te) := by
  refine ⟨fun pins s σ H Q I h => attr_of hb (thn (he.run pins s σ H _ I h) fun u s1 hh => ?_)⟩
  obtain ⟨x, H1, I1, rx, a, C, b, fs, v, ex, T, hno, ea, eb, l, q⟩ := hh
  subst ex
  obtain rfl : u = Value.ref a := rx
  obtain ⟨⟨oe, vs, ho, hz, hd⟩, _, _⟩ := I1.hok a _ ea
  obtain ⟨mA, hns, hr⟩ : ∃ mA, s1.heap.Ns1 b mA ∧ ∀ f, RelO (fs.lookup f) (mA f) := I1.hok b _ eb
  obtain ⟨od, hod, hl⟩ := lookIn_ns hns
  obtain ⟨u, hu, ru⟩ := RelO.some_of (v := v) (o := mA n) (by rw [← l]; exact hr n)
  have J : PySem.W.InstAt s1.heap a oe C (some od) := ⟨ho, hz.1, by unfold PySem.W.notCls; rw [hd] <;> rfl, by rw [hz.2]; exact hod⟩
  have hf := PySem.W.findObj_own T.hdC hno rfl (by rw [hl, hu])
  exact HandSPX.exc_get I1.kIn J T.ga T.gg T.exC hf (handed_of ru) ⟨v, H1, I1.tok _, ru, q⟩
end KB

/-! B19: a refusal made of its field by name. -/
namespace PySem
namespace KX
open PySem.W PySem.Calls PyProof.Rows PySem.HandSPX
section
variable {prog : Program} {w : World} {A : Around} {E : Value → Shared → Prop} {R : Result → Shared → Prop} {Q : Fin → Shared → Prop} {h : Heap} {g : Array GenState} {d : Drawn} {t : Nat} {os : OsState}
variable {nm q : Str} {C N fI : Addr} {bs bm bmB rest : List Value} {kw : List (Str × Value)} {hdct : Bool} {sn : List Str} {sub : List Value} {ab : Bool} {col : Option Bool} {dd : Option Addr} {k0 k1 k2 k3 k5 : Option Value} {B newId initId : String}
abbrev SameTypes (bm bmB : List Value) : Prop := ∀ X : String, bm.contains (.type X) = bmB.contains (.type X)
theorem own_has {T : String} {b : Bool} (s : SameTypes bm bmB) (e : bmB.contains (.type T) = b) : (Value.ref C :: bm).contains (.type T) = b := by
  have z : (Value.ref C == Value.type T) = false := rfl
  rw [List.contains_cons, s, e]
  cases b <;> rfl
theorem checkK_new (F : ExcBaseFacts B newId initId bmB) (s : SameTypes bm bmB) {M : Model} {Q : Unit → Shared → Prop} (hC : h.get? C = some (excClassObj nm q C N bs bm hdct sn sub ab col dd k0 k1 k2 k3 k5 newId))
    (k : Q () ⟨h, g, d, t, os⟩) : wpAny M A (checkBuiltinCall newId { pos := .ref C :: rest, kw := kw }) Q E ⟨h, g, d, t, os⟩ := by
  have sB := own_has (C := C) s F.hasB
  have ns := F.noStar
  simp only [checkBuiltinCall, F.newRow, F.newSplit, F.newKind]
  repeat (first
    | refine wpAny_madeBy_exc hC ?_
    | refine wpAny_staticBase_exc hC ?_
    | (refine wpAny_isSubtype_exc hC ?_; rw [sB])
    | refine wpAny_loadPart_at hC ?_
    | simp only [if_false, Bool.false_eq_true, bne_self_eq_false]
    | wp_step)
  exact k
theorem runK_new (F : ExcBaseFacts B newId initId bmB) (s : SameTypes bm bmB) (hC : h.get? C = some (excClassObj nm q C N bs bm hdct sn sub ab col dd k0 k1 k2 k3 k5 newId)) (sz : rest.length ≤ sizeLine)
    (k : R (.ok (.ret (.ref (h.objs.size + 1)))) ⟨(h.push (W.kdv_tup rest)).push (excO C h.objs.size), g, d, t, os⟩) :
    codeAny (model prog w) A (.builtin newId { pos := .ref C :: rest, kw := kw }) R ⟨h, g, d, t, os⟩ := by
  have ends := F.ends
  have sB := own_has (C := C) s F.hasB
  have sA := own_has (C := C) s F.noAttr
  have sN := own_has (C := C) s F.noName
  refine codeAny_builtinAt F.entry (wpAt_bind ?_)
  show wpAt _ _ _ (stack >>= _) _ _ _
  refine wpAt_bind (wpAt_stack fun _ _ => wpAt_of_wpAny ?_)
  wp_walk
  refine wpAt_of_wpAny ?_
  rw [F.owner]
  repeat (first
    | with_reducible refine wpAny_loadPart_at hC ?_
    | with_reducible refine wpAny_madeHere_exc F.canon hC ?_
    | (with_reducible refine wpAny_isSubtype_exc hC ?_; first | rw [sN] | rw [sA] | rw [sB])
    | wp_step)
  show R _ _
  rw [Heap.size_push]
  exact k
theorem typeK_new (F : ExcBaseFacts B newId initId bmB) (s : SameTypes bm bmB) (hC : h.get? C = some (excClassObj nm q C N bs bm hdct sn sub ab col dd k0 k1 k2 k3 k5 newId)) (sz : rest.length ≤ sizeLine)
    (hi : W.Looks (model prog w) h (typeLookup (.ref C) "__init__") (some (.ref fI))) (hb : ∀ self, W.Looks (model prog w) h (bindSpecial (.ref fI) self) (.ref fI, [self]))
    (k : codeAny (model prog w) A (.call (.ref fI) { pos := .ref (h.objs.size + 1) :: rest, kw := kw })
      (fun r s' => match r with
        | .ok (.ret v) => v = .none ∧ Q (.done (.ret (.ref (h.objs.size + 1)))) s'
        | .ok _ => False
        | .error e => E e s') ⟨(h.push (W.kdv_tup rest)).push (excO C h.objs.size), g, d, t, os⟩) :
    wpAny (model prog w) A (Builtin.«type.__call__» { pos := .ref C :: rest, kw := kw }) Q E ⟨h, g, d, t, os⟩ := by
  repeat (first | with_reducible refine wpAny_madeBy_exc hC ?_ | with_reducible refine wpAny_loadPart_at hC ?_ | wp_step)
  refine codeAny_call_builtin_code (Code.quiet_builtin _ F.quiet) (checkK_new F s hC (runK_new F s hC sz ?_))
  show wpAny _ _ _ _ _ _
  have up : ∀ b o, h.get? b = some o → ((h.push (W.kdv_tup rest)).push (excO C h.objs.size)).get? b = some o :=
    fun b o e => Heap.get?_push_of_some _ (Heap.get?_push_of_some _ e)
  have hC2 := up _ _ hC
  have hE : ((h.push (W.kdv_tup rest)).push (excO C h.objs.size)).get? (h.objs.size + 1) = some (excO C h.objs.size) := by heap_get
  have sC : (Value.ref C :: bm).contains (.ref C) = true := by simp
  unfold isInstance
  repeat (first | with_reducible refine wpAny_loadPart_at hE ?_ | (with_reducible refine wpAny_isSubtype_exc hC2 ?_; rw [sC]) | wp_step)
  show wpAny _ _ (typeLookup (.ref C) _) _ _ _
  refine (hi.keeps up).at (wpAny_holding (wpAny_bind (((hb (.ref (h.objs.size + 1))).keeps up).at ?_)))
  refine wpAny_bind (wpAny_call (codeAny_mono k fun r s' z => ?_))
  rcases r with e | (v | _ | _ | _) <;> first | exact z | exact z.elim | skip
  obtain ⟨rfl, z⟩ := z
  first | exact wpAny_pure (wpAny_pure z) | (wp_walk; exact z)
theorem checkK_type {M : Model} {Q : Unit → Shared → Prop} (hC : h.get? C = some (excClassObj nm q C N bs bm hdct sn sub ab col dd k0 k1 k2 k3 k5 newId)) (k : Q () ⟨h, g, d, t, os⟩) :
    wpAny M A (checkBuiltinCall "type.__call__" { pos := .ref C :: rest, kw := kw }) Q E ⟨h, g, d, t, os⟩ := by
  have ts := tc_sub
  have ty : (⟨h, g, d, t, os⟩ : Shared).TypeIs (.ref C) "type" := ⟨_, hC, rfl⟩
  simp only [checkBuiltinCall, tc_split, tc_kind]
  repeat (any_goals (first
    | assumption
    | with_reducible refine wpAny_map ?_
    | with_reducible refine wpAny_onRaise ?_
    | with_reducible refine wpAny_loadPart_at hC ?_
    | wp_step))
theorem callK_own (F : ExcBaseFacts B newId initId bmB) (s : SameTypes bm bmB) (hC : h.get? C = some (excClassObj nm q C N bs bm hdct sn sub ab col dd k0 k1 k2 k3 k5 newId)) (sz : rest.length ≤ sizeLine)
    (hi : W.Looks (model prog w) h (typeLookup (.ref C) "__init__") (some (.ref fI))) (hb : ∀ self, W.Looks (model prog w) h (bindSpecial (.ref fI) self) (.ref fI, [self]))
    (k : codeAny (model prog w) (A.under (.builtin "type.__call__" { pos := .ref C :: rest, kw := kw })) (.call (.ref fI) { pos := .ref (h.objs.size + 1) :: rest, kw := kw }) (W.InitBack (h.objs.size + 1) R)
      ⟨(h.push (W.kdv_tup rest)).push (excO C h.objs.size), g, d, t, os⟩) :
    codeAny (model prog w) A (.call (.ref C) { pos := rest, kw := kw }) R ⟨h, g, d, t, os⟩ := by
  have tl := tc_lookup
  have tb := tc_bind (.ref C)
  have ty : (⟨h, g, d, t, os⟩ : Shared).TypeIs (.ref C) "type" := ⟨_, hC, rfl⟩
  refine codeAny_of_tree ?_
  show wpAny _ _ (callAny (.ref C) _) _ _ _
  repeat (any_goals (first | assumption | with_reducible refine wpAny_loadPart_at hC ?_ | wp_step))
  refine ⟨rfl, codeAny_call_builtin_at (Code.quiet_builtin _ (by decide +kernel)) entry_typeCall (checkK_type hC (typeK_new F s hC sz hi hb (codeAny_mono k fun r s' z => ?_)))⟩
  rcases r with e | (v | _ | _ | _) <;> exact z
end
end KX
end PySem

/-! B20: the class above is asked for its __init__; a refusal made of its field by name, held. -/
namespace KB
open PySem PySem.Spec PySem.Calls PyProof.Rows L2
/-- what a class says, so that C.__init__ is ValueError's -/
structure InitC (K : PySem.W.Frag) (C : Addr) : Prop where
  ga : PySem.W.specialIn K (.ref C) "__getattribute__" = some (some (.builtin "type.__getattribute__"))
  ty : PySem.W.typeIn K (.ref C) = some (.type "type")
  rd : PySem.W.readsIn K C (.type "type") = true
  ini : PySem.W.findCls K (.ref C) (.type "type") "__init__" = some (.val (.builtin "ValueError.__init__"))
theorem hand_init : PySem.W.handedIn (.builtin "ValueError.__init__") = true := by decide +kernel
section
variable {X : Cx} {B C fI : Addr} {x : Str} {e : Expr} {es : List Expr} {ta : TA} {p1 p2 p pos : Pos}
theorem pe_ownInit {pl : Sem Bool} (T : InitC X.K B) (hg : Gl X x) (hm : X.mg x = some (.ref B)) (ha : PA X (e :: es) ta) (hdb : (x == ("__debug__" : Str)) = false := by decide)
    (hc : eval (.Call (.Attribute (.Name x p1) "__init__" p2) (e :: es) [] pos) X.env = (do
      let o ← eval (.Name x p1) X.env
      standAt p2.atName
      let (f, fs) ← holding [o] (getMethod o "__init__" pl)
      callWith pos f fs (backTo pos (starEach (e :: es) X.env)) (backToKw pos (keywordEach [] X.env))) := by rfl)
    (he : starEach (e :: es) X.env = (false, eval e X.env) :: starEach es X.env := by rfl) (hpl : (backTo pos (starEach es X.env)).any (·.1) = false := by rfl) :
    PE X (.Call (.Attribute (.Name x p1) "__init__" p2) (e :: es) [] pos) (tVeI X.K ta) := by
  refine ⟨fun pins s σ H Q I h => PySem.W.methodCall_KW (ld_glob I hg hm ?_ hdb) hc⟩
  obtain ⟨m, fr⟩ := I.fr
  refine PySem.W.method_of_cls fr I.ok.mod.kin T.ga (PySem.W.cls_val fr I.ok.mod.kin T.ty T.rd T.ini hand_init ?_)
  show wpAny _ _ (callWith pos (Value.builtin "ValueError.__init__") [] (backTo pos (starEach (e :: es) X.env)) []) _ _ _
  refine PyProof.Rows.callWith_method1 (thn (ha.run pos pins _ σ H _ (I.tok _) h) fun us s1 hh => ?_) he hpl
  obtain ⟨vs, H1, I1, rv, a, C, ws, rfl, sz, O, ea, k⟩ := hh
  cases rv with
  | @cons _ u _ ur ru rw =>
    obtain rfl : u = Value.ref a := ru
    refine oinit_ok O I1 ea ?_ fun s2 J => ⟨.non, H1, J, rfl, k⟩
    rw [← Paired.length rw, sizeLine_eq]
    omega
/-- C(k = v, ..), C's own __init__ keeping sp -/
def tMkK (C : Addr) (sp : Sp) (gV : List V → List V → List V) (tk : TA) : L2.St → Hp → XK → Prop := fun σ H Q => tk σ H fun zs H1 => ∀ a, H1 a = none → sp (gV [.ref a] zs) (upd H1 a (exo a C none))
  (fun v H2 => v = .non ∧ ∃ (d : Addr) (fs : List (Str × V)), H2 a = some (exo a C (some d)) ∧ H2 d = some (exd d fs) ∧ H1 d = none ∧ Q (.ref C) (some d) (upd (del H2 a) d (.xd fs))) (fun _ _ _ => False)
theorem pmk_oexK {CX : CXT} {k : Nat} {fd : FuncData} {ps ks : List Str} {g : List Value → List Value → List Value} {gV : List V → List V → List V} {sp : Sp} {kws : List Keyword} {tk : TA} (T : OexC X.K C)
    (iC : PySem.W.findIn X.K (.ref C) "__init__" = some (some (.ref fI))) (tI : PySem.W.typeIn X.K (.ref fI) = some (.type "function")) (F1 : FnOk X.prog X.w X.K X.mg X.base CX k fI fd ps sp) (hr : Room (k + 1) X.A)
    (hb : KBinds X.K fd ps ks g gV) (hx : Passes CX X (fun _ _ _ => False)) (hg : Gl X x) (hm : X.mg x = some (.ref C)) (hkw : PK X kws tk) (hdb : (x == ("__debug__" : Str)) = false := by decide)
    (hall : (backToKw pos (keywordEach kws X.env)).all (·.1.isSome) = true := by rfl) (hks : (backToKw pos (keywordEach kws X.env)).filterMap (·.1) = ks := by rfl)
    (hpl : ((backTo pos (starEach [] X.env)).any (·.1) || (backToKw pos (keywordEach kws X.env)).any (·.1.isNone)) = false := by rfl) : PMk X (.Call (.Name x p) [] kws pos) (tMkK C sp gV tk) := by
  intro pins s σ H Q I h
  obtain ⟨nm, q, N, bs, bm, sn, sub, ab, col, dd, k0, k1, k2, k3, k5, hC, hbm⟩ := T.cls
  refine wpAny_Call_Name_kw (ld_glob I hg hm (PySem.W.callWith_KW0 (h₀ := X.base) I.ok.mod.kin T.kC hall (thn (hkw.run pos pins s σ H _ I h) fun ws s1 hh => ⟨?_, ?_⟩) hpl) hdb)
  · obtain ⟨zs, H1, I1, rz, q1⟩ := hh
    exact I1.kIn
  obtain ⟨zs, H1, I1, rz, q1⟩ := hh
  rw [hks]
  obtain ⟨hp, g0, dr, tk0, os⟩ := s1
  have up : ∀ b o, hp.get? b = some o → ((hp.push (PySem.W.kdv_tup [])).push (PySem.HandSPX.excO C hp.objs.size)).get? b = some o := fun b o e => Heap.get?_push_of_some _ (Heap.get?_push_of_some _ e)
  have at_ : ((hp.push (PySem.W.kdv_tup [])).push (PySem.HandSPX.excO C hp.objs.size)).get? (hp.objs.size + 1) = some (PySem.HandSPX.excO C hp.objs.size) := by heap_get
  have new : H1 (hp.objs.size + 1) = none := I1.hok.fresh (Nat.le_succ _)
  have I2 : Inv X pins σ (upd H1 (hp.objs.size + 1) (exo (hp.objs.size + 1) C none)) ⟨(hp.push (PySem.W.kdv_tup [])).push (PySem.HandSPX.excO C hp.objs.size), g0, dr, tk0, os⟩ := I1.laid up (Nat.le_succ _) (exo_ok at_)
  have q2 := q1 _ new
  have r2 : Vals (gV [V.ref (hp.objs.size + 1)] zs) (g [Value.ref (hp.objs.size + 1)] ws) := hb.rel (.cons rfl .nil) rz
  have len : (g [Value.ref (hp.objs.size + 1)] ws).length = ps.length := by rw [← r2.length]; exact F1.len _ _ _ _ q2
  refine wpAny_call (PySem.KX.callK_own F.excBase_ValueError (fun Y => PySem.HandSPX.refsVE_contains Y bm hbm) (I1.kIn _ _ hC) (Nat.zero_le _) (PySem.W.looks_findIn I1.kIn iC) (fun self => PySem.W.bind_fn I1.kIn self tI) ?_)
  refine codeAny_mono (F1.run _ X.stack _ _ ⟨[.ref (hp.objs.size + 1)], ks.zip ws⟩ _ _ _ (fun _ _ _ => False) (hr.make C [] (ks.zip ws)) (I2.env0.make C [] (ks.zip ws)) (hb.to _ [.ref (hp.objs.size + 1)] ws I2.kIn len) r2 q2) fun r s2 z => ?_
  cases r with
  | error er => exact hx pins σ _ _ er s2 I2 z
  | ok fl =>
    cases fl with
    | next => exact z.elim
    | brk => exact z.elim
    | cont => exact z.elim
    | ret u =>
      obtain ⟨v, H2, os2, bare2, un2, hok2, rv, ev, d, fs, ea, ed, hd1, q3⟩ := z
      subst ev
      obtain ⟨h2, g2, d2, t2, o2⟩ := s2
      exact ⟨rv, mk_end (raises_own T.exC T.tyC) I1 (Nat.le_succ _) up un2 hok2 os2 bare2 ea ed hd1 q3⟩
end
end KB

/-! B21: truths of a list counted. -/
namespace KB
open PySem PySem.Spec PyProof.Rows L2 PySem.SeqAt
def isBl (c : Bool) (v : Value) : Bool := match v with
  | .bool b => b == c
  | _ => false
theorem isBl_at {A : Around} {s : Shared} {c : Bool} : ∀ {bs : List Bool} {us : List Value}, Vals (bs.map V.bl) us → ∀ y ∈ us, EqAt A s y (.bool c) (isBl c y)
  | [], us, r, y, hy => by
    rw [List.map_nil] at r
    cases r
    cases hy
  | b :: bs, us, r, y, hy => by
    rw [List.map_cons] at r
    cases r with
    | @cons _ u _ ur ru rr =>
      rcases List.mem_cons.mp hy with e | e
      · obtain rfl : u = Value.bool b := ru
        rw [e]
        exact EqAt.bool_bool b c
      · exact isBl_at rr y e
theorem isBl_count {c : Bool} : ∀ {bs : List Bool} {us : List Value}, Vals (bs.map V.bl) us → us.countP (isBl c) = bs.count c
  | [], us, r => by
    rw [List.map_nil] at r
    cases r
    rfl
  | b :: bs, us, r => by
    rw [List.map_cons] at r
    cases r with
    | @cons _ u _ ur ru rr =>
      obtain rfl : u = Value.bool b := ru
      rw [List.countP_cons, List.count_cons, isBl_count rr] <;> rfl
def rCntB (K : PySem.W.Frag) : V → List V → Hp → VK → Prop := fun x xs H Q => ∃ (p : Addr) (bs : List Bool) (c : Bool), x = .ref p ∧ xs = [.bl c] ∧ SqL K H p (bs.map V.bl) ∧ Q (.int (bs.count c : Nat)) H
theorem mt_lcountB {X : Cx} : MtR X "list.count" (rCntB X.K) := by
  intro pins s σ H x xs v us Q I rx rxs h
  obtain ⟨p, bs, c, rfl, rfl, hs, q⟩ := h
  cases rx
  obtain ⟨u, rfl, ru⟩ := rxs.one
  obtain rfl : u = Value.bool c := ru
  obtain ⟨its, rv, ⟨⟨cls, dd, data, sl⟩, n, ho, hc, hdn, hd⟩, _⟩ := I.list hs
  simp only at hc hd
  subst hc hd
  have cnt : its.toArray.toList.countP (isBl c) = bs.count c := isBl_count rv
  refine call_meets PySem.F.slot_list_count ⟨_, ho, rfl⟩ PySem.F.entry_list_count (PySem.F.args_list_count_2 _ _) (SeqAt.list_countAt p its.toArray n dd sl (.bool c) (isBl c)) ?_
  refine ⟨ho, fun y hy => isBl_at rv y (by simpa using hy), .int (bs.count c : Nat), H, I.tok _, ⟨s.toks, ?_⟩, q⟩
  rw [cnt]
end KB

/-! B22: kinds by sizes: their numbers, and the objects that hold them. -/
namespace KB
open PySem PySem.Spec PyProof.Rows L2
/-- the j-th statement of a class -/
def defIn (s : Stmt) (j : Nat) : Stmt := match s with
  | .ClassDef _ _ _ b _ _ _ _ _ _ _ => b.getD j (.Pass ⟨0, 0, 0, 0⟩)
  | _ => .Pass ⟨0, 0, 0, 0⟩
/-- the least number that is too great -/
def tooGreat : Nat := 10 ^ 40
/-- n to the power of t, or what is too great -/
def pw (n t : Nat) : Nat := min (n ^ t) tooGreat
theorem pw_one (t : Nat) : pw 1 t = 1 := by
  unfold pw tooGreat
  rw [Nat.one_pow]
  exact Nat.min_eq_left (Nat.one_le_pow _ _ (by decide))
theorem pw_stop {n t j : Nat} (hn : 1 ≤ n) (hj : j ≤ t) (h : t - j = 0 ∨ tooGreat ≤ n ^ j) : min (n ^ j) tooGreat = pw n t := by
  unfold pw
  rcases h with h | h
  · have e : j = t := by omega
    rw [e]
  · have h2 : n ^ j ≤ n ^ t := Nat.pow_le_pow_right hn hj
    rw [Nat.min_eq_right h, Nat.min_eq_right (Nat.le_trans h h2)]
theorem tooGreat_pos : 1 ≤ tooGreat := Nat.one_le_pow _ _ (by decide)
theorem pw_pos {n t : Nat} (hn : 1 ≤ n) : 1 ≤ pw n t := by
  have h1 : 1 ≤ n ^ t := Nat.one_le_pow _ _ hn
  have h2 := tooGreat_pos
  unfold pw
  omega
theorem pw_le {n t : Nat} : pw n t ≤ tooGreat := Nat.min_le_right _ _
namespace Kd
/-- how many worths, or what is too great -/
def num (s : Nat → Nat) : Kd → Nat
  | b i => s i
  | u => 1
  | p x y => min (x.num s * y.num s) tooGreat
  | f x y => pw (y.num s) (x.num s)
/-- the most that a function in it takes -/
def took (s : Nat → Nat) : Kd → Nat
  | b _ => 0
  | u => 0
  | p x y => max (x.took s) (y.took s)
  | f x y => max (max (x.took s) (y.took s)) (x.num s)
theorem num_pos {s : Nat → Nat} (hs : ∀ i, 1 ≤ s i) : ∀ k : Kd, 1 ≤ k.num s
  | b i => hs i
  | u => Nat.le_refl 1
  | p x y => by
    have hx := num_pos hs x
    have hy := num_pos hs y
    have h1 : 1 * 1 ≤ x.num s * y.num s := Nat.mul_le_mul hx hy
    have h2 := tooGreat_pos
    show 1 ≤ min (x.num s * y.num s) tooGreat
    omega
  | f x y => pw_pos (num_pos hs y)
theorem num_le {s : Nat → Nat} (hs : ∀ i, s i ≤ 999) : ∀ k : Kd, k.num s ≤ tooGreat
  | b i => Nat.le_trans (hs i) (by decide)
  | u => tooGreat_pos
  | p _ _ => Nat.min_le_right _ _
  | f _ _ => pw_le
theorem took_le {s : Nat → Nat} (hs : ∀ i, s i ≤ 999) : ∀ k : Kd, k.took s ≤ tooGreat
  | b _ => Nat.zero_le _
  | u => Nat.zero_le _
  | p x y => Nat.max_le.mpr ⟨took_le hs x, took_le hs y⟩
  | f x y => Nat.max_le.mpr ⟨Nat.max_le.mpr ⟨took_le hs x, took_le hs y⟩, num_le hs x⟩
end Kd
/-- the fields of such an object in the order in which they are set -/
def szF (wd : Str) (o t : V) (m k : Nat) : List (Str × V) := [("word", .str wd), ("one", o), ("other", t), ("many", .int m), ("most_taken", .int k)]
theorem szF_word {wd : Str} {o t : V} {m k : Nat} : (szF wd o t m k).lookup ("word" : Str) = some (V.str wd) := by rfl
theorem szF_one {wd : Str} {o t : V} {m k : Nat} : (szF wd o t m k).lookup ("one" : Str) = some o := by rfl
theorem szF_other {wd : Str} {o t : V} {m k : Nat} : (szF wd o t m k).lookup ("other" : Str) = some t := by rfl
theorem szF_many {wd : Str} {o t : V} {m k : Nat} : (szF wd o t m k).lookup ("many" : Str) = some (V.int m) := by rfl
theorem szF_most {wd : Str} {o t : V} {m k : Nat} : (szF wd o t m k).lookup ("most_taken" : Str) = some (V.int k) := by rfl
theorem szF_put {wd : Str} {o t : V} {m k j : Nat} : putF "most_taken" (.int j) (szF wd o t m k) = szF wd o t m j := by rfl
theorem szF_made {wd : Str} {o t : V} {m : Nat} : putF "most_taken" (.int 0) (putF "many" (.int m) (putF "other" t (putF "one" o (putF "word" (.str wd) [])))) = szF wd o t m 0 := by rfl
theorem putF_le {f : Str} {v : V} : ∀ {fs : List (Str × V)}, (putF f v fs).length ≤ fs.length + 1
  | [] => by simp [putF]
  | (g, x) :: r => by
    have h := putF_le (f := f) (v := v) (fs := r)
    unfold putF
    split
    · simp
    · simp only [List.length_cons]; omega
theorem upd_twice {H : Hp} {a : Addr} {o u : HO} : upd (upd H a o) a u = upd H a u := by
  funext b
  by_cases h : b = a
  · rw [h, upd_same, upd_same]
  · rw [upd_ne h, upd_ne h, upd_ne h]
theorem max_int {i j : Nat} : (if (j : Int) > (i : Int) then (j : Int) else (i : Int)) = ((max i j : Nat) : Int) := by
  split <;> omega
/-- at a: an object of the class C with these fields -/
def SzO (H : Hp) (C a : Addr) (wd : Str) (o t : V) (m k : Nat) : Prop := ∃ dx, H a = some (.ins C dx (szF wd o t m k))
/-- v is the kind by sizes -/
def Szd (C : Addr) (s : Nat → Nat) (H : Hp) : Kd → V → Prop
  | .b i, v => ∃ a, v = .ref a ∧ SzO H C a "base" .non .non (s i) 0
  | .u, v => ∃ a, v = .ref a ∧ SzO H C a "unit" .non .non 1 0
  | .p x y, v => ∃ a o t, v = .ref a ∧ SzO H C a "both" o t ((Kd.p x y).num s) ((Kd.p x y).took s) ∧ Szd C s H x o ∧ Szd C s H y t
  | .f x y, v => ∃ a o t, v = .ref a ∧ SzO H C a "from" o t ((Kd.f x y).num s) ((Kd.f x y).took s) ∧ Szd C s H x o ∧ Szd C s H y t
theorem Szd.same {C : Addr} {s : Nat → Nat} {H H' : Hp} (e : Same H H') : ∀ {k : Kd} {v : V}, Szd C s H k v → Szd C s H' k v
  | .b _, _, ⟨a, h, dx, g⟩ => ⟨a, h, dx, e _ _ g⟩
  | .u, _, ⟨a, h, dx, g⟩ => ⟨a, h, dx, e _ _ g⟩
  | .p _ _, _, ⟨a, o, t, h, ⟨dx, g⟩, h1, h2⟩ => ⟨a, o, t, h, ⟨dx, e _ _ g⟩, Szd.same e h1, Szd.same e h2⟩
  | .f _ _, _, ⟨a, o, t, h, ⟨dx, g⟩, h1, h2⟩ => ⟨a, o, t, h, ⟨dx, e _ _ g⟩, Szd.same e h1, Szd.same e h2⟩
/-- what each of them has: its word, its number, the most taken -/
theorem Szd.obj {C : Addr} {s : Nat → Nat} {H : Hp} {k : Kd} {v : V} (h : Szd C s H k v) : ∃ a wd o t, v = .ref a ∧ SzO H C a wd o t (k.num s) (k.took s) := by
  cases k with
  | b i => obtain ⟨a, e, g⟩ := h; exact ⟨a, _, _, _, e, g⟩
  | u => obtain ⟨a, e, g⟩ := h; exact ⟨a, _, _, _, e, g⟩
  | p x y => obtain ⟨a, o, t, e, g, _⟩ := h; exact ⟨a, _, o, t, e, g⟩
  | f x y => obtain ⟨a, o, t, e, g, _⟩ := h; exact ⟨a, _, o, t, e, g⟩
end KB

/-! B23: a whole number that stands in the module. -/
namespace KB
open PySem PySem.Spec PyProof.Rows L2
theorem pe_globN {X : Cx} {x : Str} {n : Int} {pos : Pos} (hg : Gl X x) (hm : ∃ t, X.mg x = some (.int n t)) (hd : (x == ("__debug__" : Str)) = false := by decide) : PE X (.Name x pos) (tC (.int n)) := by
  obtain ⟨t, h⟩ := hm
  exact pe_glob hg h ⟨_, rfl⟩ hd
theorem tooGreat_bits : tooGreat < 2 ^ 140 := by decide +kernel
theorem tooGreat_int : ((tooGreat : Nat) : Int) = 10000000000000000000000000000000000000000 := by decide +kernel
theorem min_nat {i j : Nat} : V.int (if (j : Int) < (i : Int) then (j : Int) else (i : Int)) = V.int ((min i j : Nat) : Int) := by
  congr 1
  split <;> omega
theorem pow_mul_ok {n j : Nat} (h1 : n ≤ tooGreat) (h2 : n ^ j < tooGreat) : CMulW ((n ^ j : Nat) : Int) (n : Int) := by
  have b := tooGreat_bits
  exact wide_mul (a := 140) (b := 140) (by rw [Int.natAbs_natCast]; omega) (by rw [Int.natAbs_natCast]; omega) (by decide) (by decide) (by decide)
end KB

/-! B24: the worths of a kind by sizes, in order. -/
namespace KB
open PySem PySem.Spec PyProof.Rows L2
/-- the rows of n things of l, in order -/
def rowsN (l : List PyData) : Nat → List (List PyData)
  | 0 => [[]]
  | n + 1 => (rowsN l n).flatMap fun r => l.map fun o => r ++ [o]
theorem sum_const {α : Type} (c : Nat) : ∀ l : List α, (l.map fun _ => c).sum = l.length * c
  | [] => by simp
  | _ :: r => by
    rw [List.map_cons, List.sum_cons, sum_const c r, List.length_cons, Nat.succ_mul]
    omega
theorem rowsN_length (l : List PyData) : ∀ n, (rowsN l n).length = l.length ^ n
  | 0 => rfl
  | n + 1 => by
    show ((rowsN l n).flatMap fun r => l.map fun o => r ++ [o]).length = _
    rw [List.length_flatMap]
    simp only [List.length_map]
    rw [sum_const, rowsN_length l n, Nat.pow_succ]
theorem rowsN_each {l : List PyData} : ∀ {n : Nat} {r : List PyData}, r ∈ rowsN l n → r.length = n ∧ ∀ o ∈ r, o ∈ l
  | 0, r, h => by
    have e : r = [] := by simpa [rowsN] using h
    subst e
    exact ⟨rfl, fun o ho => by cases ho⟩
  | n + 1, r, h => by
    obtain ⟨q, hq, h⟩ := List.mem_flatMap.mp h
    obtain ⟨o, ho, rfl⟩ := List.mem_map.mp h
    obtain ⟨h1, h2⟩ := rowsN_each hq
    refine ⟨by simp [h1], fun x hx => ?_⟩
    rcases List.mem_append.mp hx with hx | hx
    · exact h2 x hx
    · have e : x = o := by simpa using hx
      rw [e]
      exact ho
namespace Kd
/-- all worths, in order -/
def wl (s : Nat → Nat) : Kd → List PyData
  | b i => (List.range (s i)).map fun n => .int (n : Nat)
  | u => [.tuple []]
  | p x y => (x.wl s).flatMap fun c => (y.wl s).map fun d => .tuple [c, d]
  | f x y => (rowsN (y.wl s) (x.num s)).map .tuple
theorem wl_length {s : Nat → Nat} (hs : ∀ i, 1 ≤ s i ∧ s i ≤ 999) : ∀ k : Kd, k.num s < tooGreat → (k.wl s).length = k.num s
  | b i, _ => by show ((List.range (s i)).map _).length = s i; simp
  | u, _ => rfl
  | p x y, h => by
    have hx := num_pos (fun i => (hs i).1) x
    have hy := num_pos (fun i => (hs i).1) y
    have h : min (x.num s * y.num s) tooGreat < tooGreat := h
    have hp : x.num s * y.num s < tooGreat := by omega
    have h1 : x.num s * 1 ≤ x.num s * y.num s := Nat.mul_le_mul (Nat.le_refl _) hy
    have h2 : 1 * y.num s ≤ x.num s * y.num s := Nat.mul_le_mul hx (Nat.le_refl _)
    have e1 := wl_length hs x (by omega)
    have e2 := wl_length hs y (by omega)
    show ((x.wl s).flatMap fun c => (y.wl s).map fun d => PyData.tuple [c, d]).length = min (x.num s * y.num s) tooGreat
    rw [List.length_flatMap]
    simp only [List.length_map]
    rw [sum_const, e1, e2]
    omega
  | f x y, h => by
    have hx := num_pos (fun i => (hs i).1) x
    have hy := num_pos (fun i => (hs i).1) y
    have h : min (y.num s ^ x.num s) tooGreat < tooGreat := h
    have hp : y.num s ^ x.num s < tooGreat := by omega
    have h1 : y.num s ^ 1 ≤ y.num s ^ x.num s := Nat.pow_le_pow_right hy hx
    rw [Nat.pow_one] at h1
    have e2 := wl_length hs y (by omega)
    show ((rowsN (y.wl s) (x.num s)).map PyData.tuple).length = min (y.num s ^ x.num s) tooGreat
    rw [List.length_map, rowsN_length, e2]
    omega
end Kd
/-- whether a thing is a worth, told from within -/
def isW (s : Nat → Nat) : Kd → PyData → Bool
  | .b i, .int n => decide (0 ≤ n ∧ n < (s i : Int))
  | .u, .tuple [] => true
  | .p x y, .tuple [c, d] => isW s x c && isW s y d
  | .f x y, .tuple l => decide (l.length = x.num s) && l.all (isW s y)
  | _, _ => false
theorem wl_isW {s : Nat → Nat} : ∀ {k : Kd} {d : PyData}, d ∈ k.wl s → isW s k d = true
  | .b i, d, h => by
    obtain ⟨n, hn, rfl⟩ := List.mem_map.mp h
    have hn := List.mem_range.mp hn
    simp only [isW]
    exact decide_eq_true ⟨by omega, by omega⟩
  | .u, d, h => by
    have e : d = .tuple [] := by simpa [Kd.wl] using h
    subst e
    simp only [isW]
  | .p x y, d, h => by
    obtain ⟨c, hc, h⟩ := List.mem_flatMap.mp h
    obtain ⟨e, he, rfl⟩ := List.mem_map.mp h
    simp only [isW]
    rw [wl_isW hc, wl_isW he]
    rfl
  | .f x y, d, h => by
    obtain ⟨r, hr, rfl⟩ := List.mem_map.mp h
    obtain ⟨h1, h2⟩ := rowsN_each hr
    simp only [isW]
    rw [decide_eq_true h1, Bool.true_and]
    exact List.all_eq_true.mpr fun o ho => wl_isW (h2 o ho)
end KB

/-! B25: all(test for x in list); what is known at the end of the tables of several defs. -/
namespace KB
open PySem PySem.Spec PyProof.Rows L2
/-- the element: a test of the value v, told by its reading alone -/
def EltV (prog : Program) (w : World) (mg : Str → Option Value) (scope : Scope) (x : Str) (elt : Expr) (pb : V → Bool) : Prop :=
  ∀ (cenv : Env) (A' : Around) (E' : Value → Shared → Prop) (v : V) (u : Value) (T : String) (s₂ : Shared) (m₂ : Str → Option Value), cenv.scope = scope → s₂.heap.Ns cenv.globals mg → (∃ mb, s₂.heap.Ns cenv.builtins mb ∧ ∀ x : Str, x ≠ "__name__" → mb x = bootBuiltins x) →
    RelV v u → s₂.TypeIs u T → (Value.type T == Value.type "builtin_function_or_method") = false → ((∃ n, v = .int n ∧ T = "int") ∨ ((∀ n, v ≠ .int n) ∧ T ≠ "int")) → s₂.heap.Ns cenv.locals m₂ → m₂ x = some u →
    wpAny (model prog w) A' (eval elt cenv) (fun y s₃ => y = .bool (pb v) ∧ Keeps s₂ s₃) E' s₂
theorem ty_int {K : PySem.W.Frag} {H : Hp} {v : V} {T : String} (t : TyB K H v T) : (∃ n, v = .int n ∧ T = "int") ∨ ((∀ n, v ≠ .int n) ∧ T ≠ "int") := by
  cases t <;> first | exact .inl ⟨_, rfl, rfl⟩ | exact .inr ⟨fun n z => (by cases z), (by decide)⟩
theorem type_keeps {s s' : Shared} {P : Addr} {u : Value} {T : String} {ps : Array Value} (hP : s.heap.get? P = some { cls := .none, data := .fields ps }) (k : ∀ b o, b ≠ P → s.heap.get? b = some o → s'.heap.get? b = some o) (h : s.TypeIs u T) : s'.TypeIs u T := by
  cases u with
  | ref a =>
    obtain ⟨o, e, c⟩ := (show ∃ o, s.heap.get? a = some o ∧ o.cls = .type T from h)
    refine (show ∃ o, s'.heap.get? a = some o ∧ o.cls = .type T from ⟨o, k a o (fun z => ?_) e, c⟩)
    rw [z, hP] at e
    cases e
    cases c
  | _ => exact h
/-- the test at place j -/
def trV (pb : V → Bool) (l : List V) (j : Nat) : Bool := match l[j]? with
  | some b => pb b
  | none => false
theorem trV_some {pb : V → Bool} {l : List V} {j : Nat} {b : V} (h : l[j]? = some b) : trV pb l j = pb b := by
  unfold trV
  rw [h]
theorem all_trV (l : List V) (pb : V → Bool) : (List.range l.length).all (trV pb l) = l.all pb := by
  rw [Bool.eq_iff_iff, List.all_eq_true, List.all_eq_true]
  constructor
  · intro h b hb
    obtain ⟨j, hj, e⟩ := List.getElem_of_mem hb
    have q := h j (List.mem_range.mpr hj)
    rw [trV_some (List.getElem?_eq_getElem hj), e] at q
    exact q
  · intro h j hj
    have hj' := List.mem_range.mp hj
    rw [trV_some (List.getElem?_eq_getElem hj')]
    exact h _ (List.getElem_mem hj')
section
variable {X : Cx} {pins : List (Addr × Obj)} {σ : L2.St} {H : Hp} {s : Shared}
/-- the generator g over the values ws, ready to be walked, in the state s5; H1: what was held before -/
def ReadyV (X : Cx) (pins : List (Addr × Obj)) (σ : L2.St) (H1 : Hp) (P : Addr) (ws : List V) (pb : V → Bool) (g : Addr) (s5 : Shared) : Prop :=
  ∃ (fp wr : List Addr) (G : Array GenState → Array GenState → Prop) (F : Nat → Value → Prop) (St : Nat → Shared → Prop),
    WalksS X.prog X.w X.A.in1 g fp wr G ws.length F St ∧ St 0 s5 ∧ TruthOf X.prog X.w X.A.in1 F (trV pb ws) ∧
    ∀ s', Moved wr G s5 s' → ∃ H2, GxR.Tabbed P H1 H2 ∧ Inv X pins σ H2 s'
theorem gen_lstV {c P : Addr} {elt iter : Expr} {x : Str} {px gpos : Pos} {scope : Scope} {pb : V → Bool} {te : TE} {k : Nat} {Q' : Value → Shared → Prop} {R : List V → Hp → Prop}
    (hr : Room k X.A) (TB : GxR.TabB X.base X.mg c P) (hcode : X.env.code = .ref c) (S : GxR.GenS X.env scope x) (hi : PE X iter te) (hel : EltV X.prog X.w X.mg scope x elt pb)
    (hs : ∀ v, genFold iter X.env v = pure v) (I : Inv X pins σ H s) (h : te σ H fun v H1 => ∃ (yl : Addr) (ws : List V), v = .ref yl ∧ SqL X.K H1 yl ws ∧ (∀ a ∈ ws, ∃ T, TyB X.K H1 a T) ∧ GxR.TabG H1 P ∧ R ws H1)
    (hQ : ∀ ws H1 g s5, R ws H1 → ReadyV X pins σ H1 P ws pb g s5 → Q' (.ref g) s5) :
    wpAny (model X.prog X.w) X.A (eval (.GeneratorExp elt [⟨.Name x px, iter, [], 0⟩] scope gpos) X.env) Q' X.xe s := by
  refine wpAny_GeneratorExp_walksQ hr.hd S.co (closure_ok S.free) S.cell S.dot S.loc S.kind (by have := hr.dp; omega) ?_ hs
  refine thn (hi.run pins s σ H _ I h) fun xv s1 ⟨v, H1, I1, r1, q1⟩ => ?_
  obtain ⟨yl, ws, rfl, hyl, hPz, ⟨ps, hP, ht⟩, q1⟩ := q1
  obtain rfl : xv = Value.ref yl := r1
  obtain ⟨its, rv, hl, hz⟩ := I1.list hyl
  have hIL := hl.isList
  have hlen : its.length = ws.length := by rw [← rv.length]
  have hPs : s1.heap.get? P = some { cls := .none, data := .fields ps } := I1.hok P _ hP
  have hat : ∀ (i : Nat) (v : Value), its.toArray[i]? = some v → ∃ (a : V) (T : String), ws[i]? = some a ∧ RelV a v ∧ s1.TypeIs v T ∧ (Value.type T == Value.type "builtin_function_or_method") = false ∧ ((∃ n, a = .int n ∧ T = "int") ∨ ((∀ n, a ≠ .int n) ∧ T ≠ "int")) := fun i v hv => by
    have hv2 : its[i]? = some v := by simpa using hv
    have hi2 : i < its.length := (List.getElem?_eq_some_iff.mp hv2).1
    obtain ⟨a, ha⟩ : ∃ a, ws[i]? = some a := ⟨ws[i]'(by omega), List.getElem?_eq_getElem _⟩
    obtain ⟨u, hu, ru⟩ := rv.get ha
    rw [hv2] at hu
    cases hu
    obtain ⟨T, tT⟩ := hPz a (List.mem_of_getElem? ha)
    exact ⟨a, T, ha, ru, tT.is I1 ru, tT.nb, ty_int tT⟩
  refine wpAny_pyIter_list hIL ?_
  generalize ho : ({ cls := .type "list_iterator", data := .fields #[.ref yl, .int 0 0] } : Obj) = o
  have hitr : (s1.heap.push o).IsListIter s1.heap.objs.size yl 0 := by
    subst ho
    exact ⟨_, Heap.get?_push_size _ rfl, rfl, rfl⟩
  have hylt : yl < s1.heap.objs.size := by
    obtain ⟨_, e, _⟩ := _root_.id hIL
    exact Heap.lt_size e
  have hPlt : P < s1.heap.objs.size := Heap.lt_size hPs
  have hP2 : (s1.heap.push o).get? P = some { cls := .none, data := .fields ps } := Heap.get?_push_of_some _ hPs
  have cd : PySem.W.CodeHd (s1.heap.push o) c P := TB.code.keeps fun b u e => Heap.get?_push_of_some _ (I1.bk b u e)
  have lim2 : (s1.heap.push o).NoLimit := I1.nolimit.push o
  obtain ⟨mb, hmb, hbb⟩ := I1.mod.blt
  have hmb1 : s1.heap.Ns builtinsNs mb := hmb.keeps I1.bk
  have bP : builtinsNs ≠ P := fun z => by
    obtain ⟨o', es, ep, e, hd, _⟩ := hmb1
    rw [z, hPs] at e
    cases e
    cases hd
  have hmg1 : s1.heap.Ns mainGlobals X.mg := I1.mod.glob.keeps I1.bk
  have cont : ∀ (code : Value) (h3 : Heap) (tk : Nat) (ps' : Array Value), Heap.ExtBut P (s1.heap.push o) h3 → (s1.heap.push o).objs.size ≤ h3.objs.size → h3.get? P = some { cls := .none, data := .fields ps' } → (∃ more, ps' = ps ++ more) → TriplesOk ps'.toList →
      wpAny (model X.prog X.w) X.A (builtinsFor X.env.globals X.env.builtins) (fun bi s₄ =>
        ∃ Ia fp wr n₀ Pf St₀ pz F, Value.ref s1.heap.objs.size = .ref Ia ∧ (∀ A' : Around, A'.handled = none → Walks X.prog X.w A' Ia fp wr n₀ Pf St₀) ∧ St₀ 0 s₄.heap ∧ (∀ b ∈ fp, b < s₄.heap.objs.size) ∧ s₄.heap.NoLimit ∧ cStatics ∉ wr ∧
          (∀ href : Heap, (∀ b o, s₄.heap.get? b = some o → href.get? b = some o) →
            QuietGen X.prog X.w (genEnv scope (cloFrom X.env.cells scope.names []) s₄.heap.objs.size code bi X.env) x [] elt (List.range s₄.heap.objs.size) wr Pf pz F href) ∧
          (∀ a h₅ tk gs, gs.bare = true → s₄.heap.objs.size < a → h₅.objs.size = a + 1 → (∀ b o, s₄.heap.get? b = some o → h₅.get? b = some o) →
            WalksS X.prog X.w X.A.in4 a (a :: s₄.heap.objs.size :: List.range s₄.heap.objs.size) (s₄.heap.objs.size :: wr) (GenOnlyQ s₄.gens.size) (passing pz n₀ 0).length
              (fun j y => ∃ i, (passing pz n₀ 0)[j]? = some i ∧ F i y) (GenAt X.prog X.w X.A.in4 a s₄.gens.size s₄.heap.objs.size (List.range s₄.heap.objs.size) wr pz n₀ F) →
            GenAt X.prog X.w X.A.in4 a s₄.gens.size s₄.heap.objs.size (List.range s₄.heap.objs.size) wr pz n₀ F 0 { s₄ with gens := s₄.gens.push gs, toks := tk, heap := h₅ } →
            Q' (.ref a) { s₄ with gens := s₄.gens.push gs, toks := tk, heap := h₅ })) X.xe { s1 with heap := h3, toks := tk } := by
    intro code h3 tk ps' hx hsz hP3 hmore ht3
    obtain ⟨bm, ob, e1, e2, e3, e4, e5, e6, e7, e8⟩ := TB.bm
    have hcP : cStatics ≠ P := fun e => by
      obtain ⟨_, hns, _⟩ := I1.nolimit
      obtain ⟨o', es, ep, ho, hd, _⟩ := hns
      rw [e, hPs] at ho
      cases ho
      cases hd
    have hcl : cStatics < s1.heap.objs.size := let ⟨_, hns, _⟩ := I1.nolimit; hns.lt
    have sz2 : (s1.heap.push o).objs.size = s1.heap.objs.size + 1 := Heap.size_push ..
    have keep3 : ∀ b u, b ≠ P → s1.heap.get? b = some u → h3.get? b = some u := fun b u hb e => hx b u hb (Heap.get?_push_of_some _ e)
    refine wpAny_builtinsFor (m := X.mg) (by rw [I1.ok.glob]; exact ((I1.mod.glob.keeps I1.bk).push o).extBut hx TB.gP) e1 e2 (keep3 _ _ e4 (I1.bk _ _ e5)) e6 e7 e8 ?_
    have hylP : yl ≠ P := fun z => by
      obtain ⟨_, e, hc1, _, hd1⟩ := _root_.id hIL
      rw [z, hPs] at e
      cases e
      cases hd1
    have hIL3 : h3.IsList yl its.toArray := by
      obtain ⟨ob, e, r⟩ := _root_.id hIL
      exact ⟨ob, keep3 _ _ hylP e, r⟩
    have hItr3 : h3.IsListIter s1.heap.objs.size yl 0 := hitr.at fun u e => hx _ u (Nat.ne_of_gt hPlt) e
    refine ⟨s1.heap.objs.size, [s1.heap.objs.size, yl], [s1.heap.objs.size], its.toArray.size, (fun i v => its.toArray[i]? = some v), (fun i h => h.IsListIter s1.heap.objs.size yl i ∧ h.IsList yl its.toArray), (fun _ => true),
      (fun i y => ∃ a : V, ws[i]? = some a ∧ y = .bool (pb a)), rfl, (fun A' hA => Walks.list hA _ _ (Nat.ne_of_lt hylt) _), ⟨hItr3, hIL3⟩, ?_, lim2.extBut hx hcP, ?_, ?_, ?_⟩
    · intro b hb
      rcases List.mem_cons.mp hb with z | z
      · rw [z]
        show s1.heap.objs.size < h3.objs.size
        omega
      · rcases List.mem_cons.mp z with z | z
        · rw [z]
          have e9 : s1.heap.objs.size ≤ h3.objs.size := by omega
          exact Nat.lt_of_lt_of_le hylt e9
        · cases z
    · intro z
      rcases List.mem_cons.mp z with z | z
      · exact Nat.ne_of_lt hcl z
      · cases z
    · intro href hhref
      refine ⟨fun A' E' i v s₂ m₂ hA hPv hn hm hk => ?_, fun A' E' i v s₂ m₂ hA hPv hp hn hm hk => ?_⟩
      · simp only [List.forIn_nil]
        exact wpAny_pure ⟨rfl, GxR.keeps_refl _⟩
      · obtain ⟨a, T, ha, ru, tT, nb, ti⟩ := hat i v hPv
        have k2 : ∀ b u, b ≠ P → s1.heap.get? b = some u → s₂.heap.get? b = some u := fun b u hb e => by
          have e3 := keep3 b u hb e
          have l1 : b < s1.heap.objs.size := Heap.lt_size e
          refine hk b (List.mem_range.mpr (Heap.lt_size e3)) (fun z => ?_) u (hhref b u e3)
          rcases List.mem_cons.mp z with z | z
          · rw [z] at l1
            exact Nat.lt_irrefl _ l1
          · cases z
        refine wpAny_mono (hel _ A' E' a v T s₂ m₂ rfl ?_ ⟨mb, ?_, hbb⟩ ru (type_keeps hPs k2 tT) nb ti hn hm) (fun y s3 r => ⟨⟨a, ha, r.1⟩, r.2⟩) fun _ _ e => e
        · show s₂.heap.Ns X.env.globals X.mg
          rw [I1.ok.glob]
          exact hmg1.extBut k2 TB.gP
        · exact hmb1.extBut k2 bP
    · intro g h5 tk5 gs hgb hag hsz5 hk5 W5 hgat
      simp only [GxR.passing_true, List.length_range] at W5
      have hn5 : its.toArray.size = ws.length := by rw [List.size_toArray, hlen]
      rw [hn5] at W5 hgat
      refine hQ ws H1 g _ q1 ⟨_, _, _, _, _, W5.in4_1, hgat, ?_, fun s' hm => ?_⟩
      · intro j y sj Qj Ej hy hQj
        obtain ⟨i, hij, a, ha, rfl⟩ := hy
        obtain ⟨hj, ej⟩ := List.getElem?_eq_some_iff.mp hij
        rw [List.getElem_range] at ej
        subst ej
        have hQ2 : Qj (trV pb ws j) sj := hQj
        rw [trV_some ha] at hQ2
        exact wpAny_truthy_bool hQ2
      · obtain ⟨more, em⟩ := hmore
        have nwr : ∀ b u, s1.heap.get? b = some u → b ∉ h3.objs.size :: [s1.heap.objs.size] := fun b u e hb => by
          have hl := Heap.lt_size e
          rcases List.mem_cons.mp hb with z | z
          · rw [z] at hl
            have h9 : (h3.objs.size : Nat) < s1.heap.objs.size := hl
            omega
          · rcases List.mem_cons.mp z with z | z
            · rw [z] at hl
              exact Nat.lt_irrefl _ hl
            · cases z
        have J := GxR.inv_tab (more := more) (h' := s'.heap) (g' := s'.gens) (d' := s'.drawn) (t' := s'.toks) I1 hP (fun b u hb e => hm.heap b u (nwr b u e) (hk5 b u (keep3 b u hb e)))
          (by rw [← em]; exact hm.heap P _ (nwr P _ hPs) (hk5 P _ hP3)) (AllBare.movedS (I1.bare.push hgb) hm)
        rw [GxR.sh_eta s1 s' hm.os] at J
        refine ⟨upd H1 P (.tbl (ps ++ more)), ⟨⟨ps ++ more, upd_same, by rw [← em]; exact ht3⟩, fun b hb => upd_ne hb⟩, J⟩
  refine ⟨lim2, ?_⟩
  cases hf : codeAmong gpos ps.toList with
  | none =>
    refine wpAny_genexprCodeX hcode (cd.code hP2 ht) (cd.tab hP2) hf fun c' h' tk hx hge hlt hco' _ htab' _ => ?_
    obtain ⟨o1, vs, f1, tf, fl, tg, inF, tx, tt, op, _, _, _, _, _, _, _, _, _, htr, _⟩ := hco'
    exact cont _ h' tk _ hx (Nat.le_trans hge (Nat.le_of_lt hlt)) htab'.2 ⟨_, rfl⟩ htr
  | some cv =>
    refine wpAny_genexprCode_hit hcode (cd.code hP2 ht) hf ?_
    exact cont cv (s1.heap.push o) s1.toks ps (Heap.ExtBut.refl _ _) (Nat.le_refl _) hP2 ⟨#[], by simp⟩ ht
/-- all(test for x in e), e a list -/
def tAllL (K : PySem.W.Frag) (P : Addr) (pb : V → Bool) (te : TE) : TE := fun σ H Q => te σ H fun v H1 => ∃ (yl : Addr) (ws : List V), v = .ref yl ∧ SqL K H1 yl ws ∧ (∀ a ∈ ws, ∃ T, TyB K H1 a T) ∧ GxR.TabG H1 P ∧ ∀ H2, GxR.Tabbed P H1 H2 → Q (.bl (ws.all pb)) H2
theorem pe_allL {c P : Addr} {elt iter : Expr} {x : Str} {px p pos gpos : Pos} {scope : Scope} {pb : V → Bool} {te : TE} {k : Nat}
    (hr : Room k X.A) (hg : Gl X "all") (hm : X.mg "all" = none) (hb : bootBuiltins "all" = some (.builtin "all")) (TB : GxR.TabB X.base X.mg c P) (hcode : X.env.code = .ref c) (S : GxR.GenS X.env scope x) (hi : PE X iter te) (hel : EltV X.prog X.w X.mg scope x elt pb)
    (hs : ∀ v, genFold iter X.env v = pure v)
    (he : starEach [.GeneratorExp elt [⟨.Name x px, iter, [], 0⟩] scope gpos] X.env = (false, eval (.GeneratorExp elt [⟨.Name x px, iter, [], 0⟩] scope gpos) X.env) :: starEach [] X.env := by rfl) :
    PE X (.Call (.Name "all" p) [.GeneratorExp elt [⟨.Name x px, iter, [], 0⟩] scope gpos] [] pos) (tAllL X.K P pb te) := by
  refine ⟨fun pins s σ H Q I h => ?_⟩
  refine wpAny_Call_Name_kw (ld_blt I hg hm hb ?_)
  refine PyProof.Rows.callWith_builtin1 ?_ he (by rfl)
  rw [he]
  show wpAny _ _ (spliced ((false, eval (.GeneratorExp elt [⟨.Name x px, iter, [], 0⟩] scope gpos) X.env) :: backTo pos (starEach [] X.env))) _ _ s
  refine Calls.spliced_cons (gen_lstV (R := fun ws H1 => ∀ H2, GxR.Tabbed P H1 H2 → Q (.bl (ws.all pb)) H2) hr TB hcode S hi hel hs I h fun ws H1 g s5 hR hG => ?_)
  obtain ⟨fp, wr, G, F, St, W, hst, htr, hI⟩ := hG
  refine Calls.spliced_nil ?_
  refine call_all_walkS (W.self 0 _ _ _ hst ⟨g, fp, wr, G, _, F, St, _, rfl, W, hst, htr, fun s' hmv => ?_⟩)
  obtain ⟨H2, hT, J⟩ := hI s' hmv
  refine ⟨.bl _, H2, J, rfl, ?_⟩
  rw [all_trV ws pb]
  exact hR H2 hT
end
/-- type(x) is int and lo <= x <= hi -/
def sizeV (hi : Int) : V → Bool
  | .int n => decide (1 ≤ n) && decide (n ≤ hi)
  | _ => false
theorem elt_size {prog : Program} {w : World} {mg : Str → Option Value} {scope : Scope} {x y : Str} {hi : Int} {th : Tok} {j : Nat} {p1 p2 p3 p4 p5 p6 p7 p8 p9 p10 : Pos} (hk : scope.kind = .function) (hl : scope.names.lookup x = some .local) (gt : scope.names.lookup ("type" : Str) = some .globalImplicit) (gi : scope.names.lookup ("int" : Str) = some .globalImplicit) (gy : scope.names.lookup y = some .globalImplicit)
    (mt : mg "type" = none) (mi : mg "int" = none) (my : mg y = some (.int hi th)) (hd : (x == ("__debug__" : Str)) = false := by decide) (hy : (y == ("__debug__" : Str)) = false := by decide) :
    EltV prog w mg scope x (.BoolOp .And [.Compare (.Call (.Name "type" p1) [.Name x p2] [] p3) [.Is] [.Name "int" p4] p5, .Compare (.Constant (.int 1) j p6) [.LtE, .LtE] [.Name x p7, .Name y p8] p9] p10) (sizeV hi) := by
  intro cenv A' E' v u T s₂ m₂ hs hg hb ru tT nb ti hn hm
  obtain ⟨mb, hmb, hbb⟩ := hb
  have hk' : cenv.scope.kind = .function := by rw [hs]; exact hk
  have kof : ∀ {z : Str}, scope.names.lookup z = some .globalImplicit → cenv.kindOf z = some .globalImplicit := fun {z} h => by
    show cenv.scope.names.lookup z = some .globalImplicit
    rw [hs]; exact h
  have look : ∀ {Q : Value → Shared → Prop} {s : Shared} {pp : Pos}, s.heap.Ns cenv.locals m₂ → Q u s → wpAny (model prog w) A' (eval (.Name x pp) cenv) Q E' s := fun {Q s pp} h1 h2 =>
    wpAny_Name (wpAny_loadName_local hk' (show cenv.scope.names.lookup x = some .local by rw [hs]; exact hl) h1 hm h2) hd
  refine BoolOp_and (wpAny_Compare1 ?_)
  refine wpAny_Call_Name_kw (Calls.Name_function_global hk' (kof gt) (Calls.loadGlobal_builtin hg mt hmb ((hbb "type" (by decide)).trans (by decide +kernel : bootBuiltins "type" = some (.type "type"))) ?_) (by decide))
  refine Pv.callWith_type1 (Calls.spliced_cons (look hn (Calls.spliced_nil (call_type_of tT nb ?_))))
  refine Calls.Name_function_global hk' (kof gi) (Calls.loadGlobal_builtin hg mi hmb ((hbb "int" (by decide)).trans (by decide +kernel : bootBuiltins "int" = some (.type "int"))) ?_) (by decide)
  refine wpAny_is_plain rfl (wpAny_truthy_bool ?_)
  rcases ti with ⟨n, rfl, rfl⟩ | ⟨nn, nT⟩
  · rw [show (Value.type "int" == Value.type "int") = true from by decide +kernel]
    refine ite_tt (BoolOp_one ?_)
    obtain ⟨t, rfl⟩ := (show ∃ t, u = Value.int n t from ru)
    refine Compare_chain (wpAny_Constant_int ?_)
    refine chain_link (look hn (le_int (wpAny_truthy_bool ?_)))
    by_cases c : (1 : Int) ≤ n
    · rw [decide_eq_true c]
      refine ite_tt (chain_last (Calls.Name_function_global hk' (kof gy) (Calls.loadGlobal_global hg my (le_int ?_)) hy))
      refine ⟨?_, GxR.keeps_tok _ _⟩
      show Value.bool _ = Value.bool (decide (1 ≤ n) && decide (n ≤ hi))
      rw [decide_eq_true c, Bool.true_and]
    · rw [decide_eq_false c]
      refine ite_ff ⟨?_, GxR.keeps_tok _ _⟩
      show Value.bool _ = Value.bool (decide (1 ≤ n) && decide (n ≤ hi))
      rw [decide_eq_false c, Bool.false_and]
  · rw [show (Value.type T == Value.type "int") = false from by rw [ty_beq]; exact decide_eq_false nT]
    refine ite_ff ⟨?_, GxR.keeps_refl _⟩
    have e : sizeV hi v = false := by cases v <;> first | rfl | exact absurd rfl (nn _)
    rw [e]
/-! ## the end where defs of the module hold generator expressions -/
/-- as LamX.walk_ofOwn, for any defs of these names -/
theorem walk_ofTabs {l : PySem.W.OpenLaw} {n k : Nat} {q : Program} {loose : List Str} {XP : (Str → Option Value) → Heap → Prop} {YP : World → Heap → Prop} {d : DefRec} {K : Params → PySem.W.Frag} {CX : World → CXT} {x : Str} (names : List Str)
    (hn : l.most = some n) (hn2 : n ≤ sizeLine) (hdf : d.params.defaults = []) (hr : Room k callerA) (hrec : (names.all fun z => (recsOf q).any fun e => e.name == z) = true) (hY : ∀ (w : World) (h : Heap), YP w h → (K w.params).In h)
    (F : ∀ (w : World) (mg : Str → Option Value) (fa : Addr) (h : Heap), YP w h → (K w.params).In h → h.Ns mainGlobals mg → mg d.name = some (.ref fa) → (∀ z ∈ names, ∀ f, mg z = some (.ref f) → LamX.OwnTab (K w.params) f h) → LamX.LawAtS l w (K w.params) (CX w) k n x mg fa h)
    (hCX : ∀ (w : World) (H : Hp) (s : Shared) (e : Value) (s' : Shared), CX w [] H s (fun _ _ _ => False) e s' → False) :
    PySem.W.WalkO q loose XP YP l.row.toRowW d [] (fun f vs => PySem.call f vs) := by
  refine Att.attach_callB hn hdf fun w s₀ s₁ mg mb fa o pm cd doc a vs ns G Y ho hd hcd hmg hobj hints hlen hbits hg => ?_
  have KX := hY w _ Y
  have own : ∀ z ∈ names, ∀ f, mg z = some (.ref f) → LamX.OwnTab (K w.params) f s₁.heap := fun z hz f hf c P o1 fd1 e dd vs1 sl k1 k2 k3 k4 k5 => by
    obtain ⟨dL, hm, hn1⟩ := List.any_eq_true.mp (List.all_eq_true.mp hrec z hz)
    have hn2 : dL.name = z := beq_iff_eq.mp hn1
    obtain ⟨a', o', fd', c', P', h1, h2, h3, h4, h5, h6⟩ := G.T.tab dL hm
    rw [hn2, hf] at h1
    cases h1
    have g1 := KX _ _ k1
    rw [g1] at h2
    cases h2
    rw [k2] at h3
    cases h3
    rw [k3] at h4
    cases h4
    obtain ⟨⟨oc, vc, e1, _, e3, e4⟩, hP⟩ := h6
    have g2 := KX _ _ k4
    rw [g2] at e1
    cases e1
    cases e3
    rw [k5] at e4
    cases e4
    exact hP
  obtain ⟨fd, cs, sp, hT, nT, C, hb, hsp, hF⟩ := F w mg fa _ Y KX G.T.g hmg own
  exact LamX.law_callTs KX G.T.g G.T.b G.T.builtins G.T.nolimit hg hT nT C G.T.bmain hobj hints (Nat.le_trans hlen hn2) hr hF hb (fun H hH hS => hsp H a ns hlen hbits hH hS) fun H e s' => hCX w H s₁ e s'
end KB

/-! B26: () + t; t * n for any n from 1 on; list(range(n)). -/
namespace KB
open PySem PySem.Spec PyProof.Rows L2
section
variable {X : Cx}
/-- () + t is t -/
def rCatT0 (K : PySem.W.Frag) : R2 := fun x y H Q => ∃ a b ys, x = .ref a ∧ y = .ref b ∧ SqT K H a [] ∧ SqT K H b ys ∧ Q (.ref b) H
theorem op_catT0 : OpR X (binaryOp .Add) (rCatT0 X.K) := by
  intro pins s σ H x y v u Q I rx ry h
  obtain ⟨a, b, ys, rfl, rfl, ha, hb, q⟩ := h
  cases rx
  cases ry
  obtain ⟨its, r1, p1, _⟩ := I.tuple ha
  obtain ⟨its2, r2, p2, _⟩ := I.tuple hb
  cases r1
  obtain ⟨⟨cls, dd, data, sl⟩, ho, hc, n, hd⟩ := id p1
  obtain ⟨⟨cls2, dd2, data2, sl2⟩, ho2, hc2, n2, hd2⟩ := id p2
  simp only at hc hd hc2 hd2
  subst hc hd hc2 hd2
  exact concat_meets ⟨_, ho, rfl⟩ ⟨_, ho2, rfl⟩ noFill_tuple_add seq_tuple_add PySem.F.slot_tuple_add PySem.F.entry_tuple_add (PySem.F.args_tuple_add_2 _ _)
      (tuple_addW0 a b (List.toArray []) its2.toArray n n2 dd dd2 sl sl2 rfl) ⟨ho, ho2, ⟨.ref b, H, I, rfl, q⟩⟩
def rAddB (K : PySem.W.Frag) : R2 := fun x y H Q => rAddA K x y H Q ∨ rCatT0 K x y H Q
theorem op_addB : OpR X (binaryOp .Add) (rAddB X.K) := op_addA.or op_catT0
theorem tuple_mulW1 (l : Addr) (items : Array Value) (n : Nat) (dd : Option Addr) (sl : Array (Option Value)) (u : Tok) :
    Meets (Builtin.«tuple.__mul__» ⟨[.ref l, .int 1 u], []⟩) (fun _ R s => s.heap.get? l = some { cls := .type "tuple", dict := dd, data := .seq items n, slots := sl } ∧ R (.ok (.ret (Value.ref l))) s) :=
  .of_wp fun prog w A R s h => by
    obtain ⟨hp, g, d, tk, os⟩ := s
    obtain ⟨hl, h⟩ := h
    have f1 := AutoSeq1.idx_int
    have f2 := AutoSeq1.sub_tuple_tuple
    have c0 : (decide ((1 : Int) < -(2 ^ 63)) || decide ((1 : Int) ≥ 2 ^ 63)) = false := by decide
    have c1 : (items.isEmpty || (1 : Int) == 1) = true := by rw [show ((1 : Int) == 1) = true from rfl, Bool.or_true]
    wp_walk using wpAny_loadPart' hl
    repeat (first
      | (refine wpAny_ite_false (decide_eq_false (by rw [c0]; exact Bool.false_ne_true)) ?_; wp_walk using wpAny_loadPart' hl)
      | (refine wpAny_ite_true (decide_eq_true c1) ?_; wp_walk using wpAny_loadPart' hl))
    exact ⟨_, rfl, h⟩
/-- t * 1 is t -/
def rRepT1 (K : PySem.W.Frag) : R2 := fun x y H Q => ∃ l xs, x = .ref l ∧ y = .int 1 ∧ SqT K H l xs ∧ Q (.ref l) H
theorem op_repT1 : OpR X (binaryOp .Mult) (rRepT1 X.K) := by
  intro pins s σ H x y v u Q I rx ry h
  obtain ⟨l, xs, rfl, rfl, hT, q⟩ := h
  cases rx
  obtain ⟨t, rfl⟩ := ry
  obtain ⟨its, r, ⟨⟨cls, dd, data, sl⟩, ho, hc, n, hd⟩, hs⟩ := I.tuple hT
  simp only at hc hd
  subst hc hd
  exact wpAny_binaryOp_repeat_ref (T := "tuple") (U := "int") (by decide) ⟨_, ho, rfl⟩ (fun s' => typeIs_int s' 1 t) noFill_tuple_mul F.fills_int_mul F.slot_int_rmul repeat_tuple F.slot_int_index.lookup
    (call_meets F.slot_int_rmul (typeIs_int s 1 t) F.entry_int_rmul (F.args_int_rmul_2 _ _) (int_rmul_tuple 1 t l its.toArray n dd sl)
      ⟨ho, rfl, ⟨_, ho, rfl⟩, call_meets F.slot_tuple_mul ⟨_, ho, rfl⟩ F.entry_tuple_mul (F.args_tuple_mul_2 _ _) (tuple_mulW1 l its.toArray n dd sl t) ⟨ho, ⟨.ref l, H, I, rfl, q⟩⟩⟩)
/-- t * k is a new tuple, k from 2 on, of a million things at most -/
def rRepTL (K : PySem.W.Frag) : R2 := fun x y H Q => ∃ l k xs, x = .ref l ∧ y = .int k ∧ SqT K H l xs ∧ xs ≠ [] ∧ 2 ≤ k ∧ xs.length * k.toNat ≤ 1000000 ∧ ∀ p, H p = none → Q (.ref p) (upd H p (.tup (List.replicate k.toNat xs).flatten))
theorem op_repTL : OpR X (binaryOp .Mult) (rRepTL X.K) := by
  intro pins s σ H x y v u Q I rx ry h
  obtain ⟨l, k, xs, rfl, rfl, hT, hne, h1, hz, q⟩ := h
  cases rx
  obtain ⟨t, rfl⟩ := ry
  obtain ⟨its, r, ⟨⟨cls, dd, data, sl⟩, ho, hc, n, hd⟩, hs⟩ := I.tuple hT
  simp only at hc hd
  subst hc hd
  have hle : its.length = xs.length := r.length.symm
  have hn : its ≠ [] := fun e => hne (by
    rw [e] at hle
    exact List.eq_nil_of_length_eq_zero hle.symm)
  have hi : its.toArray.isEmpty = false := by
    cases its with
    | nil => exact absurd rfl hn
    | cons a b => rfl
  have hsz0 : its.toArray.size = xs.length := by rw [List.size_toArray, hle]
  have hpos : 0 < xs.length := List.length_pos_iff.mpr hne
  have kk : k.toNat ≤ 1000000 := by
    have a1 : 1 * k.toNat ≤ xs.length * k.toNat := Nat.mul_le_mul hpos (Nat.le_refl _)
    omega
  have ek : ((k.toNat : Nat) : Int) = k := by omega
  have hm : ((its.toArray.size : Nat) : Int) * k ≤ 1000000 := by
    rw [hsz0, ← ek, ← Int.natCast_mul]
    revert hz
    generalize xs.length * k.toNat = m
    omega
  have hz' : k.toNat * xs.length ≤ 1000000 := by rw [Nat.mul_comm]; exact hz
  have flen : (List.replicate k.toNat its).flatten.length ≤ sizeLine := by
    rw [PyProof.Rows.lm_len_rep_flat, hle, sizeLine_eq]
    omega
  have c0 : (decide (k < -(2 ^ 63)) || decide (k ≥ 2 ^ 63)) = false := by
    rw [decide_eq_false (by omega), decide_eq_false (by omega)] <;> rfl
  have c1 : (its.toArray.isEmpty || k == 1) = false := by
    rw [hi, Bool.false_or]
    exact beq_eq_false_iff_ne.mpr (by omega)
  have c2 : (decide (k ≤ 0) || its.toArray.isEmpty) = false := by
    rw [hi, Bool.or_false]
    exact decide_eq_false (by omega)
  have c4 : Builtin.Tuple.tupleTooMany (((its.toArray.size : Nat) : Int) * k) = false := by
    unfold Builtin.Tuple.tupleTooMany
    rw [sizeLine_eq]
    exact decide_eq_false (by omega)
  refine wpAny_binaryOp_repeat_ref (T := "tuple") (U := "int") (by decide) ⟨_, ho, rfl⟩ (fun s' => typeIs_int s' k t) noFill_tuple_mul F.fills_int_mul F.slot_int_rmul repeat_tuple F.slot_int_index.lookup
    (call_meets F.slot_int_rmul (typeIs_int s k t) F.entry_int_rmul (F.args_int_rmul_2 _ _) (int_rmul_tuple k t l its.toArray n dd sl)
      ⟨ho, rfl, ⟨_, ho, rfl⟩, call_meets F.slot_tuple_mul ⟨_, ho, rfl⟩ F.entry_tuple_mul (F.args_tuple_mul_2 _ _) (tuple_mulW l its.toArray n dd sl k t c0 c1 c2 (by omega) c4 (by rw [size_rep, List.size_toArray]; exact flen)) ⟨ho, ?_⟩⟩)
  rw [size_rep]
  refine ⟨.ref s.heap.objs.size, _, I.laid (t' := s.toks) (o := .tup (List.replicate k.toNat xs).flatten) (fun b ob q => Heap.get?_push_of_some _ q) (Nat.le_refl _) ?_, rfl, q _ (I.hok.fresh (Nat.le_refl _))⟩
  exact ⟨by rw [PyProof.Rows.lm_len_rep_flat, sizeLine_eq]; omega, _, r.rep k.toNat, IsTup.new _ _⟩
def rRepTA (K : PySem.W.Frag) : R2 := fun x y H Q => rRepT1 K x y H Q ∨ rRepTL K x y H Q
theorem op_repTA : OpR X (binaryOp .Mult) (rRepTA X.K) := op_repT1.or op_repTL
end
end KB

/-! B27: sizes as data; what stays where tables of code grow; comprehensions with two walks. -/
namespace KB
open PySem PySem.Spec PyProof.Rows L2
/-! ## sizes -/
def szD : PyData → Bool
  | .int n => decide (1 ≤ n) && decide (n ≤ 999)
  | _ => false
/-- whether a thing is sizes -/
def isSz : PyData → Bool
  | .list ds => ds.length == 8 && ds.all szD
  | _ => false
def intD : PyData → Int
  | .int n => n
  | _ => 1
/-- the sizes that are told by data -/
def sOf (ds : List PyData) (i : Nat) : Nat := if i < 8 then (intD (ds.getD i .none)).toNat else 1
theorem Dq.szV {K : PySem.W.Frag} {H : Hp} {v : V} {d : PyData} (h : Dq K H v d) : sizeV 999 v = szD d := by cases h <;> rfl
theorem DqAll.szV {K : PySem.W.Frag} {H : Hp} : ∀ {ds : List PyData} {vs : List V}, DqAll K H vs ds → vs.all (sizeV 999) = ds.all szD
  | _, _, .nil => rfl
  | _, _, .cons h a => by rw [List.all_cons, List.all_cons, Dq.szV h, DqAll.szV a]
theorem DqAll.tys {K : PySem.W.Frag} {H : Hp} : ∀ {ds : List PyData} {vs : List V}, DqAll K H vs ds → ∀ a ∈ vs, ∃ T, TyB K H a T
  | _, _, .nil, a, h => by cases h
  | _, _, .cons (d := d) h t, a, ha => by
    rcases List.mem_cons.mp ha with rfl | ha
    · exact ⟨tyN d, h.ty⟩
    · exact DqAll.tys t a ha
theorem DqAll.get {K : PySem.W.Frag} {H : Hp} : ∀ {ds : List PyData} {vs : List V} {i : Nat} {v : V}, DqAll K H vs ds → vs[i]? = some v → ∃ d, ds[i]? = some d ∧ Dq K H v d
  | _, _, i, v, .nil, h => by rw [List.getElem?_nil] at h; cases h
  | _, _, 0, v, .cons (d := d) hd t, h => by
    have e := Option.some.inj h
    exact ⟨d, rfl, e ▸ hd⟩
  | _, _, i + 1, v, .cons hd t, h => DqAll.get (i := i) t h
theorem DqAll.getD {K : PySem.W.Frag} {H : Hp} {ds : List PyData} {vs : List V} {i : Nat} {d : PyData} (a : DqAll K H vs ds) (h : ds[i]? = some d) : ∃ v, vs[i]? = some v ∧ Dq K H v d := by
  have hl := a.length
  have hi : i < vs.length := by rw [hl]; exact (List.getElem?_eq_some_iff.mp h).1
  obtain ⟨d', e, q⟩ := a.get (List.getElem?_eq_getElem hi)
  rw [h] at e
  cases e
  exact ⟨_, List.getElem?_eq_getElem hi, q⟩
theorem szD_is {d : PyData} (h : szD d = true) : ∃ n : Int, d = .int n ∧ 1 ≤ n ∧ n ≤ 999 := by
  cases d <;> simp only [szD] at h <;> try (cases h)
  rename_i n
  rw [Bool.and_eq_true] at h
  exact ⟨n, rfl, of_decide_eq_true h.1, of_decide_eq_true h.2⟩
theorem isSz_is {d : PyData} (h : isSz d = true) : ∃ ds, d = .list ds ∧ ds.length = 8 ∧ ∀ x ∈ ds, szD x = true := by
  cases d <;> simp only [isSz] at h <;> try (cases h)
  rename_i ds
  rw [Bool.and_eq_true] at h
  exact ⟨ds, rfl, eq_of_beq h.1, List.all_eq_true.mp h.2⟩
theorem sOf_ok {ds : List PyData} (hl : ds.length = 8) (h : ∀ x ∈ ds, szD x = true) (i : Nat) : 1 ≤ sOf ds i ∧ sOf ds i ≤ 999 := by
  unfold sOf
  by_cases c : i < 8
  · rw [if_pos c]
    have hi : i < ds.length := by omega
    have e : ds.getD i .none = ds[i] := by rw [List.getD_eq_getElem?_getD, List.getElem?_eq_getElem hi]; rfl
    rw [e]
    obtain ⟨n, en, n1, n2⟩ := szD_is (h _ (List.getElem_mem hi))
    rw [en]
    show 1 ≤ n.toNat ∧ n.toNat ≤ 999
    omega
  · rw [if_neg c]
    exact ⟨Nat.le_refl _, by decide⟩
theorem DqAll.ints {K : PySem.W.Frag} {H : Hp} : ∀ {ds : List PyData} {vs : List V}, DqAll K H vs ds → (∀ x ∈ ds, szD x = true) → vs = (ds.map intD).map V.int
  | _, _, .nil, _ => rfl
  | _, _, .cons (d := d) h t, q => by
    obtain ⟨n, en, _⟩ := szD_is (q d List.mem_cons_self)
    subst en
    cases h
    rw [DqAll.ints t fun x hx => q x (List.mem_cons_of_mem _ hx)]
    rfl
theorem ints_at {ds : List PyData} (hl : ds.length = 8) (h : ∀ x ∈ ds, szD x = true) {i : Nat} (hi : i < 8) : (ds.map intD)[i]? = some ((sOf ds i : Nat) : Int) := by
  have hi' : i < ds.length := by omega
  have e : ds.getD i .none = ds[i] := by rw [List.getD_eq_getElem?_getD, List.getElem?_eq_getElem hi']; rfl
  obtain ⟨n, en, n1, n2⟩ := szD_is (h _ (List.getElem_mem hi'))
  unfold sOf
  rw [if_pos hi, e, List.getElem?_map, List.getElem?_eq_getElem hi', en]
  show some n = some ((n.toNat : Nat) : Int)
  congr 1
  omega
/-! ## what stays where tables of code grow -/
structure Stay (P : Addr) (H H' : Hp) : Prop where
  ext : LamX.ExtN H H'
  tab : GxR.TabG H' P
  but : ∀ b o, b ≠ P → H b = some o → H' b = some o
theorem TabG.same {P : Addr} {H H' : Hp} (t : GxR.TabG H P) (s : Same H H') : GxR.TabG H' P := by
  obtain ⟨ps, e, r⟩ := t
  exact ⟨ps, s _ _ e, r⟩
theorem Stay.of_same {P : Addr} {H H' : Hp} (t : GxR.TabG H P) (s : Same H H') : Stay P H H' := ⟨LamX.ExtN.of s, TabG.same t s, fun b o _ e => s b o e⟩
theorem Stay.refl {P : Addr} {H : Hp} (t : GxR.TabG H P) : Stay P H H := .of_same t (Same.refl _)
theorem Stay.of_tab {P : Addr} {H H' : Hp} (t : GxR.TabG H P) (h : GxR.Tabbed P H H') : Stay P H H' := by
  refine ⟨fun b o e n => ?_, h.1, fun b o n e => by rw [h.2 b n]; exact e⟩
  by_cases c : b = P
  · obtain ⟨ps, e2, _⟩ := t
    rw [c, e2] at e
    cases e
    exact absurd rfl (n ps)
  · rw [h.2 b c]; exact e
theorem Stay.trans {P : Addr} {H H1 H2 : Hp} (a : Stay P H H1) (b : Stay P H1 H2) : Stay P H H2 := ⟨a.ext.trans b.ext, b.tab, fun x o n e => b.but x o n (a.but x o n e)⟩
theorem Stay.same {P : Addr} {H H1 H2 : Hp} (a : Stay P H H1) (s : Same H1 H2) : Stay P H H2 := a.trans (.of_same a.tab s)
theorem Tabbed.refl {P : Addr} {H : Hp} (t : GxR.TabG H P) : GxR.Tabbed P H H := ⟨t, fun _ _ => rfl⟩
theorem Stay.at_ {P a : Addr} {H H' : Hp} {xs : List V} (s : Stay P H H') (e : H a = some (.lst xs)) : H' a = some (.lst xs) := s.ext _ _ e fun _ z => by cases z
theorem Stay.dq {P : Addr} {K : PySem.W.Frag} {H H' : Hp} {d : PyData} {v : V} (s : Stay P H H') (h : Dq K H v d) : Dq K H' v d := Dq.extN s.ext h
theorem Stay.dqs {P : Addr} {K : PySem.W.Frag} {H H' : Hp} {ds : List PyData} {vs : List V} (s : Stay P H H') (h : DqAll K H vs ds) : DqAll K H' vs ds := (h.notab.same (notab_ext s.ext)).same (notab_sub H')
/-- nothing but a table may stand there -/
def Nw (H : Hp) (p : Addr) : Prop := ∀ o, H p = some o → ∃ ps, o = .tbl ps
theorem Nw.of {H : Hp} {p : Addr} (h : H p = none) : Nw H p := fun o e => by rw [h] at e; cases e
theorem Nw.back {H H' : Hp} {p : Addr} (e : LamX.ExtN H H') (h : Nw H' p) : Nw H p := fun o q => Classical.byContradiction fun c => c (h o (e p o q fun ps z => c ⟨ps, z⟩))
theorem Nw.ne {H : Hp} {p a : Addr} {o : HO} (h : Nw H p) (e : H a = some o) (n : ∀ ps, o ≠ .tbl ps) : a ≠ p := fun z => by
  obtain ⟨ps, r⟩ := h o (z ▸ e)
  exact n ps r
theorem out_extN {w : Addr} {H H' : Hp} (e : LamX.ExtN H H') : LamX.ExtN (out w H) (out w H') := fun b o h n => by
  obtain ⟨c, h⟩ := out_some h
  exact out_at c (e b o h n)
theorem Szd.extN {C : Addr} {s : Nat → Nat} {H H' : Hp} (e : LamX.ExtN H H') : ∀ {k : Kd} {v : V}, Szd C s H k v → Szd C s H' k v
  | .b _, _, ⟨a, h, dx, g⟩ => ⟨a, h, dx, e _ _ g fun _ z => by cases z⟩
  | .u, _, ⟨a, h, dx, g⟩ => ⟨a, h, dx, e _ _ g fun _ z => by cases z⟩
  | .p _ _, _, ⟨a, o, t, h, ⟨dx, g⟩, h1, h2⟩ => ⟨a, o, t, h, ⟨dx, e _ _ g fun _ z => by cases z⟩, Szd.extN e h1, Szd.extN e h2⟩
  | .f _ _, _, ⟨a, o, t, h, ⟨dx, g⟩, h1, h2⟩ => ⟨a, o, t, h, ⟨dx, e _ _ g fun _ z => by cases z⟩, Szd.extN e h1, Szd.extN e h2⟩
/-- what stood stays also without a new object -/
theorem same_out {D : Addr} {H H' : Hp} (n : H D = none) (s : Same H H') : Same H (out D H') := fun b o e => out_at (ne_of_none e n) (s b o e)
/-! ## walks within comprehensions, one within another -/
/-- a walk over a list, whatever is done in each turn -/
theorem lc_out {K : PySem.W.Frag} {a : Addr} {xs : List V} {Body : V → Hp → (Hp → Prop) → Prop} {H0 : Hp} {Qd : Hp → Prop} (Pv : Nat → Hp → Prop) (h0 : Pv 0 H0) (hl : ∀ i H, i ≤ xs.length → Pv i H → SqL K H a xs)
    (hs : ∀ i x H, xs[i]? = some x → Pv i H → Body x H (Pv (i + 1))) (hd : ∀ H, Pv xs.length H → Qd H) :
    ∃ W : Nat → Nat → Hp → Prop, (∃ m, W 0 m H0) ∧ ∀ i m H, W i m H → ((Itl K a).stop i H ∧ Qd H) ∨ ((Itl K a).go i H ∧ ∃ Nx : Hp → Prop, (∀ H', Nx H' → ∃ m', m' < m ∧ W (i + 1) m' H') ∧ ∀ x H', (Itl K a).yld i H x H' → Body x H' Nx) := by
  refine ⟨fun i m H => m = xs.length - i ∧ i ≤ xs.length ∧ Pv i H, ⟨xs.length, by simp, Nat.zero_le _, h0⟩, ?_⟩
  rintro i m H ⟨rfl, hi, p⟩
  have q := hl i H hi p
  by_cases hlt : i < xs.length
  · refine .inr ⟨⟨xs, xs[i], q, by simp [hlt]⟩, Pv (i + 1), fun H' p' => ⟨xs.length - (i + 1), by omega, rfl, hlt, p'⟩, fun x H' y => ?_⟩
    obtain ⟨e, y⟩ := y
    subst e
    exact hs i x _ (y xs q) p
  · have e : i = xs.length := by omega
    subst e
    exact .inl ⟨⟨xs, q, Nat.le_refl _⟩, hd H p⟩
/-- the same over a tuple -/
theorem lc_outT {K : PySem.W.Frag} {a : Addr} {xs : List V} {Body : V → Hp → (Hp → Prop) → Prop} {H0 : Hp} {Qd : Hp → Prop} (Pv : Nat → Hp → Prop) (h0 : Pv 0 H0) (hl : ∀ i H, i ≤ xs.length → Pv i H → SqT K H a xs)
    (hs : ∀ i x H, xs[i]? = some x → Pv i H → Body x H (Pv (i + 1))) (hd : ∀ H, Pv xs.length H → Qd H) :
    ∃ W : Nat → Nat → Hp → Prop, (∃ m, W 0 m H0) ∧ ∀ i m H, W i m H → ((Itt K a).stop i H ∧ Qd H) ∨ ((Itt K a).go i H ∧ ∃ Nx : Hp → Prop, (∀ H', Nx H' → ∃ m', m' < m ∧ W (i + 1) m' H') ∧ ∀ x H', (Itt K a).yld i H x H' → Body x H' Nx) := by
  refine ⟨fun i m H => m = xs.length - i ∧ i ≤ xs.length ∧ Pv i H, ⟨xs.length, by simp, Nat.zero_le _, h0⟩, ?_⟩
  rintro i m H ⟨rfl, hi, p⟩
  have q := hl i H hi p
  by_cases hlt : i < xs.length
  · refine .inr ⟨⟨xs, xs[i], q, by simp [hlt]⟩, Pv (i + 1), fun H' p' => ⟨xs.length - (i + 1), by omega, rfl, hlt, p'⟩, fun x H' y => ?_⟩
    obtain ⟨e, y⟩ := y
    subst e
    exact hs i x _ (y xs q) p
  · have e : i = xs.length := by omega
    subst e
    exact .inl ⟨⟨xs, q, Nat.le_refl _⟩, hd H p⟩
theorem DqAll.snoc {K : PySem.W.Frag} {H : Hp} {ds : List PyData} {vs : List V} {d : PyData} {v : V} (a : DqAll K H vs ds) (h : Dq K H v d) : DqAll K H (vs ++ [v]) (ds ++ [d]) := a.append (.cons h .nil)
/-- what is held at D of data that do not hang on D -/
structure Held (K : PySem.W.Frag) (H : Hp) (D : Addr) (ds : List PyData) : Prop where
  ex : ∃ us, H D = some (.lst us) ∧ DqAll K (out D H) us ds
/-- a list of data that do not hang on it, one more being put to it; the new thing t is laid before -/
theorem Held.put {K : PySem.W.Frag} {H : Hp} {D : Addr} {us : List V} {ds : List PyData} {v : V} {d : PyData} (e : H D = some (.lst us)) (a : DqAll K (out D H) us ds) (h : Dq K (out D H) v d) :
    DqAll K (out D (upd H D (.lst (us ++ [v])))) (us ++ [v]) (ds ++ [d]) := (a.same (out_set _)).snoc (h.same (out_set _))
theorem take_succ {α : Type} {l : List α} {i : Nat} {x : α} (h : l[i]? = some x) : l.take (i + 1) = l.take i ++ [x] := by rw [List.take_add_one, h]; rfl
end KB

/-! B28: all worths: their numbers, and lists that are put together of two. -/
namespace KB
open PySem PySem.Spec PyProof.Rows L2
/-- a walk within a comprehension's block: the context's own K is told -/
theorem pi_listK {X : Cx} {K : PySem.W.Frag} {tg l : Expr} {tl : TE} (hK : X.K = K) (hl : PE X l tl) : PI X tg l (iList K tl) := by
  subst hK
  exact pi_list hl
theorem pi_tupK {X : Cx} {K : PySem.W.Frag} {tg l : Expr} {tl : TE} (hK : X.K = K) (hl : PE X l tl) : PI X tg l (iTup K tl) := by
  subst hK
  exact pi_tup hl
theorem dq_range {K : PySem.W.Frag} {H : Hp} (n : Nat) : DqAll K H (rgV 0 (n : Int)) ((List.range n).map fun i => PyData.int (i : Nat)) := by
  have e : rgV 0 (n : Int) = (List.range n).map fun i => V.int ((i : Nat) : Int) := by
    unfold rgV
    have e1 : ((n : Int) - 0).toNat = n := by omega
    rw [e1]
    refine List.map_congr_left fun i _ => ?_
    rw [Int.zero_add]
  rw [e]
  induction List.range n with
  | nil => exact .nil
  | cons i r ih => exact .cons (.int _) ih
theorem few_p {s : Nat → Nat} (hs : ∀ i, 1 ≤ s i ∧ s i ≤ 999) {x y : Kd} (h : (Kd.p x y).num s ≤ 5000) : x.num s ≤ 5000 ∧ y.num s ≤ 5000 ∧ x.num s * y.num s ≤ 5000 := by
  have hx := Kd.num_pos (fun i => (hs i).1) x
  have hy := Kd.num_pos (fun i => (hs i).1) y
  have tg : 5000 < tooGreat := by decide +kernel
  have h : min (x.num s * y.num s) tooGreat ≤ 5000 := h
  have hp : x.num s * y.num s ≤ 5000 := by omega
  have h1 : x.num s * 1 ≤ x.num s * y.num s := Nat.mul_le_mul (Nat.le_refl _) hy
  have h2 : 1 * y.num s ≤ x.num s * y.num s := Nat.mul_le_mul hx (Nat.le_refl _)
  omega
theorem few_f {s : Nat → Nat} (hs : ∀ i, 1 ≤ s i ∧ s i ≤ 999) {x y : Kd} (h : (Kd.f x y).num s ≤ 5000) : y.num s ≤ 5000 ∧ y.num s ^ x.num s ≤ 5000 := by
  have hx := Kd.num_pos (fun i => (hs i).1) x
  have hy := Kd.num_pos (fun i => (hs i).1) y
  have tg : 5000 < tooGreat := by decide +kernel
  have h : min (y.num s ^ x.num s) tooGreat ≤ 5000 := h
  have hp : y.num s ^ x.num s ≤ 5000 := by omega
  have h1 : y.num s ^ 1 ≤ y.num s ^ x.num s := Nat.pow_le_pow_right hy hx
  rw [Nat.pow_one] at h1
  omega
theorem few_lt {n : Nat} (h : n ≤ 5000) : n < tooGreat := Nat.lt_of_le_of_lt h (by decide +kernel)
theorem rowsN_one (d : PyData) : ∀ n, rowsN [d] n = [List.replicate n d]
  | 0 => rfl
  | n + 1 => by
    show (rowsN [d] n).flatMap (fun r => [d].map fun o => r ++ [o]) = _
    rw [rowsN_one d n]
    simp [List.replicate_succ']
theorem len_pos_of {α : Type} {l : List α} (h : l.length = 1) : ∃ d, l = [d] := by
  match l, h with
  | [d], _ => exact ⟨d, rfl⟩
/-- what is made so far of a list at D -/
def Pr2 (K : PySem.W.Frag) (D : Addr) (H3 : Hp) (data : List PyData) (H : Hp) : Prop := ∃ acc, H D = some (.lst acc) ∧ DqAll K (out D H) acc data ∧ Same H3 H
theorem Pr2.start {K : PySem.W.Frag} {D : Addr} {H3 : Hp} (n : H3 D = none) : Pr2 K D H3 [] (upd H3 D (.lst [])) := ⟨[], upd_same, .nil, same_new n _⟩
/-- one more thing is put to the list -/
theorem Pr2.step {K : PySem.W.Frag} {D : Addr} {H3 H H' : Hp} {data : List PyData} {acc : List V} {v : V} {d : PyData} (n : H3 D = none) (e : H D = some (.lst acc)) (a : DqAll K (out D H) acc data) (s : Same H3 H) (s2 : Same H H') (dv : Dq K (out D H') v d) : Pr2 K D H3 (data ++ [d]) (upd H' D (.lst (acc ++ [v]))) :=
  ⟨acc ++ [v], upd_same, ((a.same (out_same s2)).snoc dv).same (out_set _), fun b o q => by rw [upd_ne (ne_of_none q n)]; exact s2 _ _ (s _ _ q)⟩
theorem flat_length {α : Type} (A B : List α) (f : α → α → α) : (A.flatMap fun c => B.map (f c)).length = A.length * B.length := by
  rw [List.length_flatMap]
  simp only [List.length_map]
  exact sum_const _ _
theorem flat_take {α : Type} {A B : List α} {f : α → α → α} {i : Nat} {c : α} (h : A[i]? = some c) : (A.take (i + 1)).flatMap (fun c => B.map (f c)) = (A.take i).flatMap (fun c => B.map (f c)) ++ B.map (f c) := by
  rw [take_succ h, List.flatMap_append]
  simp
/-- so far, in the midst -/
def mid (A B : List PyData) (f : PyData → PyData → PyData) (i : Nat) (c : PyData) (j : Nat) : List PyData := (A.take i).flatMap (fun c => B.map (f c)) ++ (B.take j).map (f c)
theorem mid_zero {A B : List PyData} {f : PyData → PyData → PyData} {i : Nat} {c : PyData} : mid A B f i c 0 = (A.take i).flatMap (fun c => B.map (f c)) := by simp [mid]
theorem mid_succ {A B : List PyData} {f : PyData → PyData → PyData} {i j : Nat} {c d : PyData} (h : B[j]? = some d) : mid A B f i c (j + 1) = mid A B f i c j ++ [f c d] := by simp [mid, take_succ h]
theorem mid_end {A B : List PyData} {f : PyData → PyData → PyData} {i : Nat} {c : PyData} (h : A[i]? = some c) : mid A B f i c B.length = (A.take (i + 1)).flatMap (fun c => B.map (f c)) := by
  rw [flat_take h]
  simp [mid]
theorem mid_length {A B : List PyData} {f : PyData → PyData → PyData} {i j : Nat} {c : PyData} (hi : i < A.length) (hj : j < B.length) (few : A.length * B.length ≤ 5000) : (mid A B f i c j).length < 5000 := by
  unfold mid
  rw [List.length_append, flat_length, List.length_map, List.length_take, List.length_take]
  have h1 : (i + 1) * B.length ≤ A.length * B.length := Nat.mul_le_mul (by omega) (Nat.le_refl _)
  rw [Nat.succ_mul] at h1
  have e1 : min i A.length = i := by omega
  have e2 : min j B.length = j := by omega
  rw [e1, e2]
  omega
/-- a row with one more -/
def catT : PyData → PyData → PyData
  | .tuple r, d => .tuple (r ++ [d])
  | _, d => d
theorem rows_cat {ws : List PyData} {j : Nat} : (((rowsN ws j).map PyData.tuple).flatMap fun c => ws.map fun d => catT c d) = (rowsN ws (j + 1)).map PyData.tuple := by
  show _ = ((rowsN ws j).flatMap fun r => ws.map fun o => r ++ [o]).map PyData.tuple
  rw [List.map_flatMap, List.flatMap_map]
  simp only [List.map_map]
  rfl
end KB

/-! B29: whether a thing is a worth: rows of things, and how much is left to be looked at. -/
namespace KB
open PySem PySem.Spec PyProof.Rows L2
/-- within a comprehension's block -/
theorem pe_fldK {X : Cx} {K : PySem.W.Frag} {e : Expr} {f : Str} {pos : Pos} {ta : TE} (hK : X.K = K) (he : PE X e ta) (hb : attributeBase e f X.env (eval e X.env) = eval e X.env) : PE X (.Attribute e f pos) (tFld K ta f) := by
  subst hK
  exact pe_fld he hb
/-- a thing's first look -/
def topW (s : Nat → Nat) : Kd → PyData → Bool
  | .b i, .int n => decide (0 ≤ n) && decide (n < (s i : Int))
  | .b _, _ => false
  | .u, .tuple l => l.length == 0
  | .p _ _, .tuple l => l.length == 2
  | .f x _, .tuple l => l.length == x.num s
  | _, _ => false
/-- the things that stand in one of a pair's row -/
def nthD (n : Nat) : PyData → PyData
  | .tuple l => l.getD n .none
  | _ => .none
def itemsD : PyData → List PyData
  | .tuple l => l
  | _ => []
/-- a row of things, all worths of the kind -/
def rowW (s : Nat → Nat) (k : Kd) (ds : List PyData) : Bool := ds.all (isW s k)
theorem isW_b {s : Nat → Nat} {i : Nat} (d : PyData) : isW s (.b i) d = topW s (.b i) d := by
  cases d <;> simp only [isW, topW]
  rename_i n
  rw [← Bool.decide_and]
theorem isW_u {s : Nat → Nat} (d : PyData) : isW s .u d = topW s .u d := by
  cases d <;> try (simp only [isW, topW])
  rename_i l
  cases l <;> simp [isW, topW]
theorem isW_p {s : Nat → Nat} {x y : Kd} (d : PyData) : isW s (.p x y) d = (topW s (.p x y) d && (isW s x (nthD 0 d) && isW s y (nthD 1 d))) := by
  cases d <;> try (simp only [isW, topW, Bool.false_and])
  rename_i l
  match l with
  | [] => simp [isW, topW]
  | [a] => simp [isW, topW]
  | [a, b] => simp [isW, topW, nthD]
  | a :: b :: c :: r => simp [isW, topW]
theorem isW_f {s : Nat → Nat} {x y : Kd} (d : PyData) : isW s (.f x y) d = (topW s (.f x y) d && (itemsD d).all (isW s y)) := by
  cases d <;> try (simp only [isW, topW, Bool.false_and])
  rename_i l
  simp only [isW, topW, itemsD]
  congr 1
theorem all_and {α : Type} (l : List α) (p q : α → Bool) : (l.all fun x => p x && q x) = (l.all p && l.all q) := by
  induction l with
  | nil => rfl
  | cons a r ih =>
    rw [List.all_cons, List.all_cons, List.all_cons, ih]
    cases p a <;> cases q a <;> simp
theorem rowW_b {s : Nat → Nat} {i : Nat} (ds : List PyData) : rowW s (.b i) ds = ds.all (topW s (.b i)) := by
  unfold rowW
  congr 1
  funext d
  exact isW_b d
theorem rowW_u {s : Nat → Nat} (ds : List PyData) : rowW s .u ds = ds.all (topW s .u) := by
  unfold rowW
  congr 1
  funext d
  exact isW_u d
theorem rowW_p {s : Nat → Nat} {x y : Kd} (ds : List PyData) : rowW s (.p x y) ds = (ds.all (topW s (.p x y)) && (rowW s x (ds.map (nthD 0)) && rowW s y (ds.map (nthD 1)))) := by
  unfold rowW
  rw [show isW s (.p x y) = fun d => topW s (.p x y) d && (isW s x (nthD 0 d) && isW s y (nthD 1 d)) from funext fun d => isW_p d, all_and, all_and, List.all_map, List.all_map]
  rfl
theorem rowW_f {s : Nat → Nat} {x y : Kd} (ds : List PyData) : rowW s (.f x y) ds = (ds.all (topW s (.f x y)) && rowW s y (ds.flatMap itemsD)) := by
  unfold rowW
  rw [show isW s (.f x y) = fun d => topW s (.f x y) d && (itemsD d).all (isW s y) from funext fun d => isW_f d, all_and, List.all_flatMap]
/-- what is left to be looked at -/
def wtK (s : Nat → Nat) : Kd → Nat
  | .b _ => 1
  | .u => 1
  | .p x y => wtK s x + wtK s y + 3
  | .f x y => wtK s y * x.num s + 2
def wt1 (s : Nat → Nat) (k : Kd) (n : Nat) : Nat := wtK s k * n + if n > 1000 then 1 else 0
def wts (s : Nat → Nat) : List (Kd × List PyData) → Nat
  | [] => 0
  | e :: r => wt1 s e.1 e.2.length + wts s r
theorem wts_append {s : Nat → Nat} : ∀ a b : List (Kd × List PyData), wts s (a ++ b) = wts s a + wts s b
  | [], b => by simp [wts]
  | e :: r, b => by
    rw [List.cons_append, wts, wts, wts_append r b]
    omega
theorem wtK_pos {s : Nat → Nat} (k : Kd) : 1 ≤ wtK s k := by cases k <;> simp only [wtK] <;> omega
theorem wt1_pos {s : Nat → Nat} {k : Kd} {n : Nat} (h : 1 ≤ n) : 1 ≤ wt1 s k n := by
  have := wtK_pos (s := s) k
  have h2 : 1 * 1 ≤ wtK s k * n := Nat.mul_le_mul this h
  unfold wt1
  omega
theorem wt1_le {s : Nat → Nat} {k : Kd} {n : Nat} : wt1 s k n ≤ wtK s k * n + 1 := by
  unfold wt1
  split <;> omega
theorem wt1_p {s : Nat → Nat} {x y : Kd} {n : Nat} (h : 1 ≤ n) : wt1 s x n + wt1 s y n < wt1 s (.p x y) n := by
  have a := wt1_le (s := s) (k := x) (n := n)
  have b := wt1_le (s := s) (k := y) (n := n)
  have c : wtK s (.p x y) * n = wtK s x * n + wtK s y * n + 3 * n := by
    show (wtK s x + wtK s y + 3) * n = _
    rw [Nat.add_mul, Nat.add_mul]
  have d : wt1 s (.p x y) n ≥ wtK s (.p x y) * n := by unfold wt1; omega
  omega
theorem wt1_f {s : Nat → Nat} {x y : Kd} {n : Nat} (h : 1 ≤ n) : wt1 s y (n * x.num s) < wt1 s (.f x y) n := by
  have b := wt1_le (s := s) (k := y) (n := n * x.num s)
  have c : wtK s (.f x y) * n = wtK s y * (n * x.num s) + 2 * n := by
    show (wtK s y * x.num s + 2) * n = _
    rw [Nat.add_mul, Nat.mul_assoc, Nat.mul_comm (x.num s) n]
  have d : wt1 s (.f x y) n ≥ wtK s (.f x y) * n := by unfold wt1; omega
  omega
/-- all that stand in the rows -/
def all2 (s : Nat → Nat) (st : List (Kd × List PyData)) : Bool := st.all fun e => rowW s e.1 e.2
def szs2 : List (Kd × List PyData) → Nat
  | [] => 0
  | e :: r => szs e.2 + szs2 r
theorem szs2_append : ∀ a b : List (Kd × List PyData), szs2 (a ++ b) = szs2 a + szs2 b
  | [], b => by simp [szs2]
  | e :: r, b => by
    rw [List.cons_append, szs2, szs2, szs2_append r b]
    omega
theorem szs2_len {st : List (Kd × List PyData)} (h : ∀ e ∈ st, e.2 ≠ []) : st.length ≤ szs2 st := by
  induction st with
  | nil => exact Nat.le_refl _
  | cons e r ih =>
    have h1 := h e List.mem_cons_self
    have h2 := ih fun x hx => h x (List.mem_cons_of_mem _ hx)
    have h3 := len_szs e.2
    have h4 := List.length_pos_iff.mpr h1
    rw [List.length_cons, szs2]
    omega
/-- the parts of a row of so many -/
def parts1 (ds : List PyData) : Nat → List (List PyData)
  | 0 => []
  | n + 1 => parts1 ds n ++ [(ds.drop (1000 * n)).take 1000]
theorem take_add {α : Type} (l : List α) (a b : Nat) : l.take (a + b) = l.take a ++ (l.drop a).take b := List.take_add
theorem parts1_all {s : Nat → Nat} {k : Kd} {ds : List PyData} : ∀ n, all2 s ((parts1 ds n).map fun r => (k, r)) = rowW s k (ds.take (1000 * n))
  | 0 => by simp [parts1, all2, rowW]
  | n + 1 => by
    unfold all2
    rw [parts1, List.map_append, List.all_append]
    have ih := parts1_all (s := s) (k := k) (ds := ds) n
    unfold all2 at ih
    rw [ih, Nat.mul_succ, take_add]
    unfold rowW
    rw [List.all_append]
    simp [rowW]
theorem parts1_szs {ds : List PyData} {k : Kd} : ∀ n, szs2 ((parts1 ds n).map fun r => (k, r)) = szs (ds.take (1000 * n))
  | 0 => by simp [parts1, szs2, szs]
  | n + 1 => by
    rw [parts1, List.map_append, szs2_append, parts1_szs n, Nat.mul_succ, take_add, szs_append]
    simp [szs2]
theorem parts1_wts {s : Nat → Nat} {ds : List PyData} {k : Kd} : ∀ n, wts s ((parts1 ds n).map fun r => (k, r)) = wtK s k * (ds.take (1000 * n)).length
  | 0 => by simp [parts1, wts]
  | n + 1 => by
    rw [parts1, List.map_append, wts_append, parts1_wts n, Nat.mul_succ, take_add, List.length_append, Nat.mul_add]
    have h : ((ds.drop (1000 * n)).take 1000).length ≤ 1000 := by rw [List.length_take]; omega
    simp only [List.map_cons, List.map_nil, wts, wt1]
    rw [if_neg (by omega)]
    omega
theorem rgc_parts {L : Nat} (h1 : 1000 < L) (h2 : L ≤ 1000000) : RgC 0 (L : Int) 1000 ((L + 999) / 1000) := by
  have e : Builtin.Range.rangeSize 0 (L : Int) 1000 = (((L + 999) / 1000 : Nat) : Int) := by
    unfold Builtin.Range.rangeSize
    rw [if_pos (by decide), if_pos (by omega)]
    omega
  refine ⟨by decide, by decide, ?_, e⟩
  have hn : (L + 999) / 1000 ≤ 1001 := by omega
  unfold Builtin.Range.small
  rw [e]
  generalize (L + 999) / 1000 = n at hn
  have f : ∀ i : Int, -2000000 ≤ i → i ≤ 2000000 → Builtin.Range.rangeFitsLong i = true := fun i h1 h2 => by
    unfold Builtin.Range.rangeFitsLong
    rw [decide_eq_true (by omega : -(2 ^ 63) ≤ i), decide_eq_true (by omega : i < 2 ^ 63)]
    rfl
  simp only [f 0 (by decide) (by decide), f (L : Int) (by omega) (by omega), f 1000 (by decide) (by decide), f (n : Int) (by omega) (by omega), Bool.true_and]
  rw [if_pos (by decide), f ((L : Int) + (1000 - 1)) (by omega) (by omega), Bool.or_true]
theorem cut_part {xs : List V} {j : Nat} (h : 1000 * j < xs.length) : cutV xs (some (0 + (j : Nat) * 1000)) (some (0 + (j : Nat) * 1000 + 1000)) = (xs.drop (1000 * j)).take 1000 := by
  unfold cutV
  have e1 : (0 + ((j : Nat) : Int) * 1000) = ((1000 * j : Nat) : Int) := by omega
  have e2 : (0 + ((j : Nat) : Int) * 1000 + 1000) = ((1000 * j + 1000 : Nat) : Int) := by omega
  rw [e2, e1, HT.sIx_nat, HT.sIx_nat]
  have m1 : min (1000 * j) xs.length = 1000 * j := Nat.min_eq_left (by omega)
  rw [m1]
  by_cases c : 1000 * j + 1000 ≤ xs.length
  · have m2 : min (1000 * j + 1000) xs.length = 1000 * j + 1000 := Nat.min_eq_left c
    rw [m2]
    congr 1
    omega
  · have m2 : min (1000 * j + 1000) xs.length = xs.length := Nat.min_eq_right (by omega)
    rw [m2]
    rw [List.take_of_length_le (by rw [List.length_drop]; omega), List.take_of_length_le (by rw [List.length_drop]; omega)]
theorem DqAll.drop {K : PySem.W.Frag} {H : Hp} : ∀ {ds : List PyData} {vs : List V} (n : Nat), DqAll K H vs ds → DqAll K H (vs.drop n) (ds.drop n)
  | _, _, 0, h => h
  | _, _, _ + 1, .nil => .nil
  | _, _, n + 1, .cons _ t => DqAll.drop n t
theorem DqAll.take {K : PySem.W.Frag} {H : Hp} : ∀ {ds : List PyData} {vs : List V} (n : Nat), DqAll K H vs ds → DqAll K H (vs.take n) (ds.take n)
  | _, _, 0, _ => .nil
  | _, _, _ + 1, .nil => .nil
  | _, _, n + 1, .cons h t => .cons h (DqAll.take n t)
theorem parts1_ne {ds : List PyData} : ∀ {n : Nat}, (∀ j, j < n → 1000 * j < ds.length) → ∀ r ∈ parts1 ds n, r ≠ []
  | 0, _, r, hr => by cases hr
  | n + 1, h, r, hr => by
    rw [parts1] at hr
    rcases List.mem_append.mp hr with hr | hr
    · exact parts1_ne (fun j hj => h j (by omega)) r hr
    · have e : r = (ds.drop (1000 * n)).take 1000 := by simpa using hr
      have hn := h n (Nat.lt_succ_self n)
      intro z
      rw [e] at z
      have l := congrArg List.length z
      rw [List.length_take, List.length_drop, List.length_nil] at l
      omega
theorem nth_szs {s : Nat → Nat} {x y : Kd} : ∀ {ds : List PyData}, ds.all (topW s (.p x y)) = true → szs (ds.map (nthD 0)) + szs (ds.map (nthD 1)) ≤ szs ds
  | [], _ => by simp [szs]
  | d :: r, h => by
    rw [List.all_cons, Bool.and_eq_true] at h
    have ih := nth_szs h.2
    have e : sz (nthD 0 d) + sz (nthD 1 d) ≤ sz d := by
      have h1 := h.1
      cases d with
      | tuple l =>
        match l, h1 with
        | [a, b], _ => simp only [nthD, List.getD_eq_getElem?_getD]; simp [sz, szs]
        | [], h => simp [topW] at h
        | [a], h => simp [topW] at h
        | a :: b :: c :: r, h => simp [topW] at h
      | _ => simp [topW] at h1
    simp only [List.map_cons, szs]
    omega
theorem items_szs : ∀ ds : List PyData, szs (ds.flatMap itemsD) ≤ szs ds
  | [] => by simp
  | d :: r => by
    have ih := items_szs r
    have e : szs (itemsD d) ≤ sz d := by cases d <;> simp [itemsD, sz, szs]
    rw [List.flatMap_cons, szs_append, szs]
    omega
theorem items_len {s : Nat → Nat} {x y : Kd} : ∀ {ds : List PyData}, ds.all (topW s (.f x y)) = true → (ds.flatMap itemsD).length = ds.length * x.num s
  | [], _ => by simp
  | d :: r, h => by
    rw [List.all_cons, Bool.and_eq_true] at h
    have ih := items_len h.2
    have e : (itemsD d).length = x.num s := by
      have h1 := h.1
      cases d with
      | tuple l => exact eq_of_beq h1
      | _ => simp [topW] at h1
    rw [List.flatMap_cons, List.length_append, ih, e, List.length_cons, Nat.succ_mul]
    omega
end KB

/-! B30: calls by names alone; worths as data; small kinds by small sizes. -/
namespace KB
open PySem PySem.Spec PyProof.Rows L2
section
variable (P : Program) (w : World) (K : PySem.W.Frag) (mg : Str → Option Value) (base : Heap)
/-- as Cal, and the def itself -/
def CalA (st : Stmt) (CX : CXT) (k : Nat) (x : Str) (ps : List Str) (sp : Sp) : Prop :=
  ∃ f fd, FnOk P w K mg base CX k f fd ps sp ∧ Binds K fd ps [] ∧ PySem.W.keepIn K (.ref f) = true ∧ mg x = some (.ref f) ∧ Fun K x x st f fd
end
theorem CalA.cal {P : Program} {w : World} {K : PySem.W.Frag} {mg : Str → Option Value} {base : Heap} {st : Stmt} {CX : CXT} {k : Nat} {x : Str} {ps : List Str} {sp : Sp} (C : CalA P w K mg base st CX k x ps sp) : Cal P w K mg base CX k x ps sp :=
  let ⟨f, fd, h1, h2, h3, h4, _⟩ := C; ⟨f, fd, h1, h2, h3, h4⟩
def tCallK0 (sp : Sp) (gV : List V → List V → List V) (E : XK) (tk : TA) : TE := fun σ H Q => tk σ H fun zs H2 => sp (gV [] zs) H2 Q E
section
variable {X : Cx} {CX : CXT} {k : Nat} {x : Str} {ps ks : List Str} {sp : Sp} {E : XK} {p pos : Pos} {st : Stmt} {kws : List Keyword} {tk : TA} {g : List Value → List Value → List Value} {gV : List V → List V → List V}
/-- f(k = v, ..), all by names -/
theorem pe_callK0 (C : CalA X.prog X.w X.K X.mg X.base st CX k x ps sp) (hr : Room k X.A) (hx : Passes CX X E) (hb : ∀ f fd, Fun X.K x x st f fd → KBinds X.K fd ps ks g gV) (hkw : PK X kws tk) (hg : Gl X x := by rfl) (hdb : (x == ("__debug__" : Str)) = false := by decide)
    (hall : (backToKw pos (keywordEach kws X.env)).all (·.1.isSome) = true := by rfl) (hks : (backToKw pos (keywordEach kws X.env)).filterMap (·.1) = ks := by rfl)
    (hpl : ((backTo pos (starEach [] X.env)).any (·.1) || (backToKw pos (keywordEach kws X.env)).any (·.1.isNone)) = false := by rfl) : PE X (.Call (.Name x p) [] kws pos) (tCallK0 sp gV E tk) := by
  obtain ⟨f, fd, F, _, hk, hm, hf⟩ := C
  refine ⟨fun pins s σ H Q I h => ?_⟩
  refine wpAny_Call_Name_kw (ld_glob I hg hm ?_ hdb)
  refine PySem.W.callWith_KW0 (h₀ := X.base) I.ok.mod.kin hk hall (thn (hkw.run pos pins s σ H _ I h) fun ws s2 ⟨zs, H2, I2, rz, q2⟩ => ⟨I2.kIn, ?_⟩) hpl
  rw [hks]
  exact run_fnk F hr (hb f fd hf) hx I2 .nil rz q2
end
/-- one by its name; two, three in another order -/
def kw1 {α : Type} (us ws : List α) : List α := match us, ws with
  | [], [w] => [w]
  | _, _ => []
def kw21 {α : Type} (us ws : List α) : List α := match us, ws with
  | [], [a, b] => [b, a]
  | _, _ => []
def kw321 {α : Type} (us ws : List α) : List α := match us, ws with
  | [], [a, b, c] => [c, b, a]
  | _, _ => []
theorem kw1_rel {vs : List V} {us : List Value} {zs : List V} {ws : List Value} (r : Vals vs us) (q : Vals zs ws) : Vals (kw1 vs zs) (kw1 us ws) := by
  cases r with
  | nil =>
    cases q with
    | nil => exact .nil
    | cons h t =>
      cases t with
      | nil => exact .cons h .nil
      | cons _ _ => exact .nil
  | cons _ _ => exact .nil
theorem kw21_rel {vs : List V} {us : List Value} {zs : List V} {ws : List Value} (r : Vals vs us) (q : Vals zs ws) : Vals (kw21 vs zs) (kw21 us ws) := by
  cases r with
  | nil =>
    cases q with
    | nil => exact .nil
    | cons h t =>
      cases t with
      | nil => exact .nil
      | cons h2 t2 =>
        cases t2 with
        | nil => exact .cons h2 (.cons h .nil)
        | cons _ _ => exact .nil
  | cons _ _ => exact .nil
theorem kw321_rel {vs : List V} {us : List Value} {zs : List V} {ws : List Value} (r : Vals vs us) (q : Vals zs ws) : Vals (kw321 vs zs) (kw321 us ws) := by
  cases r with
  | nil =>
    cases q with
    | nil => exact .nil
    | cons h t =>
      cases t with
      | nil => exact .nil
      | cons h2 t2 =>
        cases t2 with
        | nil => exact .nil
        | cons h3 t3 =>
          cases t3 with
          | nil => exact .cons h3 (.cons h2 (.cons h .nil))
          | cons _ _ => exact .nil
  | cons _ _ => exact .nil
/-! ## worths as data -/
theorem lays_of {l : List PyData} (h : ∀ d ∈ l, d.canLay0 = true) : PyData.canLayAll0 l = true := by
  induction l with
  | nil => rfl
  | cons a r ih =>
    rw [PyData.canLayAll0, h a List.mem_cons_self, ih fun d hd => h d (List.mem_cons_of_mem _ hd)]
    rfl
theorem deps_of {l : List PyData} {D : Nat} (h : ∀ d ∈ l, d.depth ≤ D) : PyData.depthAll l ≤ D := by
  induction l with
  | nil => simp [PyData.depthAll]
  | cons a r ih =>
    rw [PyData.depthAll]
    exact Nat.max_le.mpr ⟨h a List.mem_cons_self, ih fun d hd => h d (List.mem_cons_of_mem _ hd)⟩
theorem Kd.wl_lay {s : Nat → Nat} : ∀ (k : Kd), ∀ d ∈ k.wl s, d.canLay0 = true ∧ d.depth ≤ k.deep
  | .b i, d, h => by
    obtain ⟨n, hn, rfl⟩ := List.mem_map.mp h
    exact ⟨rfl, by simp [PyData.depth, Kd.deep]⟩
  | .u, d, h => by
    have e : d = .tuple [] := by simpa [Kd.wl] using h
    subst e
    exact ⟨rfl, by simp [PyData.depth, PyData.depthAll, Kd.deep]⟩
  | .p x y, d, h => by
    obtain ⟨c, hc, h⟩ := List.mem_flatMap.mp h
    obtain ⟨e, he, rfl⟩ := List.mem_map.mp h
    obtain ⟨l1, p1⟩ := wl_lay x c hc
    obtain ⟨l2, p2⟩ := wl_lay y e he
    have q : ∀ z ∈ [c, e], z.canLay0 = true ∧ z.depth ≤ max x.deep y.deep := fun z hz => by
      simp only [List.mem_cons, List.not_mem_nil, or_false] at hz
      rcases hz with rfl | rfl
      · exact ⟨l1, by omega⟩
      · exact ⟨l2, by omega⟩
    refine ⟨by rw [PyData.canLay0]; exact lays_of fun z hz => (q z hz).1, ?_⟩
    have := deps_of fun z hz => (q z hz).2
    simp only [PyData.depth, Kd.deep]
    omega
  | .f x y, d, h => by
    obtain ⟨r, hr, rfl⟩ := List.mem_map.mp h
    obtain ⟨_, he⟩ := rowsN_each hr
    refine ⟨by rw [PyData.canLay0]; exact lays_of fun z hz => (wl_lay y z (he z hz)).1, ?_⟩
    have := deps_of fun z hz => (wl_lay y z (he z hz)).2
    simp only [PyData.depth, Kd.deep]
    omega
/-- a list of worths is equal to itself, wherever it stands -/
theorem eq_worths {K : PySem.W.Frag} {H : Hp} {a b : Addr} {us vs : List V} {k : Kd} {s : Nat → Nat} {Q : VK} (e1 : H a = some (.lst us)) (d1 : DqAll K H us (k.wl s)) (e2 : H b = some (.lst vs)) (d2 : DqAll K H vs (k.wl s)) (hk : k.deep ≤ 180) (q : Q (.bl false) H) : rNeA K (.ref a) (.ref b) H Q := by
  have c1 : (PyData.list (k.wl s)).canLay0 = true := by rw [PyData.canLay0]; exact lays_of fun d hd => (Kd.wl_lay k d hd).1
  have c2 := deps_of fun d hd => (Kd.wl_lay (s := s) k d hd).2
  refine .inr ⟨_, _, (Dq.lst (.of e1) d1).dp c1, (Dq.lst (.of e2) d2).dp c1, c1, c1, by simp only [PyData.depth]; omega, ?_⟩
  rw [SeqAt.eqv_refl _ c1]
  exact q
/-! ## small kinds by small sizes -/
theorem small3 {s : Nat → Nat} (hs : ∀ i, 1 ≤ s i ∧ s i ≤ 2) : ∀ k : Kd, (k.leaves ≤ 1 → k.num s ≤ 2 ∧ k.took s = 0) ∧ (k.leaves ≤ 2 → k.num s ≤ 4 ∧ k.took s ≤ 2) ∧ (k.leaves ≤ 3 → k.num s ≤ 16 ∧ k.took s ≤ 4)
  | .b i => by
    have := hs i
    refine ⟨fun _ => ⟨(hs i).2, rfl⟩, fun _ => ⟨?_, Nat.zero_le _⟩, fun _ => ⟨?_, Nat.zero_le _⟩⟩ <;> (show s i ≤ _; omega)
  | .u => ⟨fun _ => ⟨(by show 1 ≤ 2; decide), rfl⟩, fun _ => ⟨(by show 1 ≤ 4; decide), Nat.zero_le _⟩, fun _ => ⟨(by show 1 ≤ 16; decide), Nat.zero_le _⟩⟩
  | .p x y => by
    have lx := x.leaves_pos
    have ly := y.leaves_pos
    have hx := small3 hs x
    have hy := small3 hs y
    have tg : 5000 < tooGreat := by decide +kernel
    have mul : ∀ a b A B : Nat, a ≤ A → b ≤ B → min (a * b) tooGreat ≤ A * B := fun a b A B h1 h2 => Nat.le_trans (Nat.min_le_left _ _) (Nat.mul_le_mul h1 h2)
    have key : ∀ n, (Kd.p x y).leaves ≤ n → x.leaves + y.leaves ≤ n := fun n h => h
    refine ⟨fun h => ?_, fun h => ?_, fun h => ?_⟩
    · have := key _ h; omega
    · have h := key _ h
      obtain ⟨a1, a2⟩ := hx.1 (by omega)
      obtain ⟨b1, b2⟩ := hy.1 (by omega)
      exact ⟨mul _ _ 2 2 a1 b1, by show max _ _ ≤ 2; omega⟩
    · have h := key _ h
      by_cases c : x.leaves ≤ 1
      · obtain ⟨a1, a2⟩ := hx.1 c
        obtain ⟨b1, b2⟩ := hy.2.1 (by omega)
        exact ⟨Nat.le_trans (mul _ _ 2 4 a1 b1) (by decide), by show max _ _ ≤ 4; omega⟩
      · obtain ⟨a1, a2⟩ := hx.2.1 (by omega)
        obtain ⟨b1, b2⟩ := hy.1 (by omega)
        exact ⟨Nat.le_trans (mul _ _ 4 2 a1 b1) (by decide), by show max _ _ ≤ 4; omega⟩
  | .f x y => by
    have lx := x.leaves_pos
    have ly := y.leaves_pos
    have hx := small3 hs x
    have hy := small3 hs y
    have py := Kd.num_pos (fun i => (hs i).1) y
    have pow : ∀ a b A B : Nat, 1 ≤ b → a ≤ A → b ≤ B → pw b a ≤ B ^ A := fun a b A B hb h1 h2 => Nat.le_trans (Nat.min_le_left _ _) (Nat.le_trans (Nat.pow_le_pow_left h2 a) (Nat.pow_le_pow_right (by omega) h1))
    have key : ∀ n, (Kd.f x y).leaves ≤ n → x.leaves + y.leaves ≤ n := fun n h => h
    refine ⟨fun h => ?_, fun h => ?_, fun h => ?_⟩
    · have := key _ h; omega
    · have h := key _ h
      obtain ⟨a1, a2⟩ := hx.1 (by omega)
      obtain ⟨b1, b2⟩ := hy.1 (by omega)
      exact ⟨Nat.le_trans (pow _ _ 2 2 py a1 b1) (by decide), by show max (max _ _) _ ≤ 2; omega⟩
    · have h := key _ h
      by_cases c : x.leaves ≤ 1
      · obtain ⟨a1, a2⟩ := hx.1 c
        obtain ⟨b1, b2⟩ := hy.2.1 (by omega)
        exact ⟨Nat.le_trans (pow _ _ 2 4 py a1 b1) (by decide), by show max (max _ _) _ ≤ 4; omega⟩
      · obtain ⟨a1, a2⟩ := hx.2.1 (by omega)
        obtain ⟨b1, b2⟩ := hy.1 (by omega)
        exact ⟨Nat.le_trans (pow _ _ 4 2 py a1 b1) (by decide), by show max (max _ _) _ ≤ 4; omega⟩
end KB

/-! B31: worths hang on no list; how large they are; sizes in a list of numbers. -/
namespace KB
open PySem PySem.Spec PyProof.Rows L2
theorem pures_of {l : List PyData} (h : ∀ d ∈ l, pureT d = true) : pureTs l = true := by
  induction l with
  | nil => simp [pureTs]
  | cons a r ih => simp [pureTs, h a List.mem_cons_self, ih fun d hd => h d (List.mem_cons_of_mem _ hd)]
theorem Kd.wl_pure {s : Nat → Nat} : ∀ (k : Kd), ∀ d ∈ k.wl s, pureT d = true
  | .b i, d, h => by
    obtain ⟨n, hn, rfl⟩ := List.mem_map.mp h
    simp [pureT]
  | .u, d, h => by
    have e : d = .tuple [] := by simpa [Kd.wl] using h
    subst e
    simp [pureT, pureTs]
  | .p x y, d, h => by
    obtain ⟨c, hc, h⟩ := List.mem_flatMap.mp h
    obtain ⟨e, he, rfl⟩ := List.mem_map.mp h
    simp [pureT, pureTs, wl_pure x c hc, wl_pure y e he]
  | .f x y, d, h => by
    obtain ⟨r, hr, rfl⟩ := List.mem_map.mp h
    obtain ⟨_, he⟩ := rowsN_each hr
    rw [pureT]
    exact pures_of fun z hz => wl_pure y z (he z hz)
/-- how large a worth is -/
def Kd.wsz (s : Nat → Nat) : Kd → Nat
  | .b _ => 1
  | .u => 1
  | .p x y => 1 + x.wsz s + y.wsz s
  | .f x y => 1 + x.num s * y.wsz s
theorem szs_le {l : List PyData} {B : Nat} (h : ∀ d ∈ l, sz d ≤ B) : szs l ≤ l.length * B := by
  induction l with
  | nil => simp [szs]
  | cons a r ih =>
    have h1 := h a List.mem_cons_self
    have h2 := ih fun d hd => h d (List.mem_cons_of_mem _ hd)
    rw [szs, List.length_cons, Nat.succ_mul]
    omega
theorem Kd.wl_sz {s : Nat → Nat} : ∀ (k : Kd), ∀ d ∈ k.wl s, sz d ≤ k.wsz s
  | .b i, d, h => by
    obtain ⟨n, hn, rfl⟩ := List.mem_map.mp h
    simp [sz, Kd.wsz]
  | .u, d, h => by
    have e : d = .tuple [] := by simpa [Kd.wl] using h
    subst e
    simp [sz, szs, Kd.wsz]
  | .p x y, d, h => by
    obtain ⟨c, hc, h⟩ := List.mem_flatMap.mp h
    obtain ⟨e, he, rfl⟩ := List.mem_map.mp h
    have h1 := wl_sz x c hc
    have h2 := wl_sz y e he
    simp only [sz, szs, Kd.wsz]
    omega
  | .f x y, d, h => by
    obtain ⟨r, hr, rfl⟩ := List.mem_map.mp h
    obtain ⟨hl, he⟩ := rowsN_each hr
    have h1 := szs_le fun z hz => wl_sz y z (he z hz)
    rw [hl] at h1
    simp only [sz, Kd.wsz]
    omega
theorem small3_sz {s : Nat → Nat} (hs : ∀ i, 1 ≤ s i ∧ s i ≤ 2) : ∀ k : Kd, (k.leaves ≤ 1 → k.wsz s ≤ 1) ∧ (k.leaves ≤ 2 → k.wsz s ≤ 3) ∧ (k.leaves ≤ 3 → k.wsz s ≤ 7)
  | .b i => ⟨fun _ => Nat.le_refl 1, fun _ => (by show 1 ≤ 3; decide), fun _ => (by show 1 ≤ 7; decide)⟩
  | .u => ⟨fun _ => Nat.le_refl 1, fun _ => (by show 1 ≤ 3; decide), fun _ => (by show 1 ≤ 7; decide)⟩
  | .p x y => by
    have lx := x.leaves_pos
    have ly := y.leaves_pos
    have hx := small3_sz hs x
    have hy := small3_sz hs y
    have key : ∀ n, (Kd.p x y).leaves ≤ n → x.leaves + y.leaves ≤ n := fun n h => h
    refine ⟨fun h => ?_, fun h => ?_, fun h => ?_⟩
    · have := key _ h; omega
    · have h := key _ h
      have a := hx.1 (by omega)
      have b := hy.1 (by omega)
      show 1 + x.wsz s + y.wsz s ≤ 3
      omega
    · have h := key _ h
      show 1 + x.wsz s + y.wsz s ≤ 7
      by_cases c : x.leaves ≤ 1
      · have a := hx.1 c
        have b := hy.2.1 (by omega)
        omega
      · have a := hx.2.1 (by omega)
        have b := hy.1 (by omega)
        omega
  | .f x y => by
    have lx := x.leaves_pos
    have ly := y.leaves_pos
    have hy := small3_sz hs y
    have nx := small3 hs x
    have key : ∀ n, (Kd.f x y).leaves ≤ n → x.leaves + y.leaves ≤ n := fun n h => h
    have mul : ∀ a b A B : Nat, a ≤ A → b ≤ B → a * b ≤ A * B := fun a b A B h1 h2 => Nat.mul_le_mul h1 h2
    refine ⟨fun h => ?_, fun h => ?_, fun h => ?_⟩
    · have := key _ h; omega
    · have h := key _ h
      have b := mul _ _ _ _ (nx.1 (by omega)).1 (hy.1 (by omega))
      show 1 + x.num s * y.wsz s ≤ 3
      omega
    · have h := key _ h
      show 1 + x.num s * y.wsz s ≤ 7
      by_cases c : x.leaves ≤ 1
      · have b := mul _ _ _ _ (nx.1 c).1 (hy.2.1 (by omega))
        omega
      · have b := mul _ _ _ _ (nx.2.1 (by omega)).1 (hy.1 (by omega))
        omega
/-! ## sizes in a list of numbers -/
theorem dq_ints {K : PySem.W.Frag} {H : Hp} : ∀ ns : List Int, DqAll K H (ns.map V.int) (ns.map PyData.int)
  | [] => .nil
  | n :: r => .cons (.int n) (dq_ints r)
theorem isSz_ints {ns : List Int} (h8 : ns.length = 8) (h : ∀ n ∈ ns, 1 ≤ n ∧ n ≤ 999) : isSz (.list (ns.map .int)) = true := by
  simp only [isSz, List.length_map, h8]
  rw [List.all_eq_true.mpr]
  · rfl
  · intro x hx
    obtain ⟨n, hn, rfl⟩ := List.mem_map.mp hx
    have := h n hn
    simp only [szD]
    rw [decide_eq_true this.1, decide_eq_true this.2]
    rfl
theorem sOf_ints {ns : List Int} {B : Nat} (hB : 1 ≤ B) (h8 : ns.length = 8) (h : ∀ n ∈ ns, 1 ≤ n ∧ n ≤ B) (i : Nat) : 1 ≤ sOf (ns.map .int) i ∧ sOf (ns.map .int) i ≤ B := by
  unfold sOf
  by_cases c : i < 8
  · rw [if_pos c, List.getD_eq_getElem?_getD, List.getElem?_map, List.getElem?_eq_getElem (by omega)]
    have := h (ns[i]'(by omega)) (List.getElem_mem _)
    show 1 ≤ (ns[i]'(by omega)).toNat ∧ (ns[i]'(by omega)).toNat ≤ B
    omega
  · rw [if_neg c]
    omega
/-- what a draw, or what tables make, leaves: all but the well and tables -/
structure AftT (w P : Addr) (H H' : Hp) : Prop where
  ext : LamX.ExtN (out w H) (out w H')
  tab : GxR.TabG H' P
theorem AftT.trans {w P : Addr} {H H1 H2 : Hp} (a : AftT w P H H1) (b : AftT w P H1 H2) : AftT w P H H2 := ⟨a.ext.trans b.ext, b.tab⟩
theorem AftT.of_stay {w P : Addr} {H H' : Hp} (a : Stay P H H') : AftT w P H H' := ⟨out_extN a.ext, a.tab⟩
theorem AftT.of_but {w P : Addr} {H H' : Hp} (n : P ≠ w) (t : GxR.TabG H P) (a : Same (out w H) (out w H')) : AftT w P H H' := by
  refine ⟨LamX.ExtN.of a, ?_⟩
  obtain ⟨ps, e, r⟩ := t
  exact ⟨ps, (out_some (a _ _ (out_at n e))).2, r⟩
theorem AftT.refl {w P : Addr} {H : Hp} (t : GxR.TabG H P) : AftT w P H H := ⟨LamX.ExtN.refl _, t⟩
theorem AftT.dq {w P : Addr} {K : PySem.W.Frag} {H H' : Hp} {d : PyData} {v : V} (a : AftT w P H H') (h : Dq K (out w H) v d) : Dq K (out w H') v d := Dq.extN a.ext h
theorem AftT.seq {w P b : Addr} {K : PySem.W.Frag} {H H' : Hp} {xs : List V} (a : AftT w P H H') (h : SqL K (out w H) b xs) : SqL K (out w H') b xs := seq_extN a.ext h
theorem AftT.at_ {w P b : Addr} {H H' : Hp} {xs : List V} (a : AftT w P H H') (n : b ≠ w) (h : H b = some (.lst xs)) : H' b = some (.lst xs) := (out_some (a.ext b _ (out_at n h) fun _ z => by cases z)).2
end KB

/-! B32: what the end knows of a def that holds a generator expression, and of a plain class. -/
namespace KB
open PySem PySem.Spec PyProof.Rows L2
/-- the def, its code and the table of that -/
def OwnF (K : PySem.W.Frag) (mg : Str → Option Value) (h : Heap) (x : Str) (st : Stmt) : Prop := ∃ (f : Addr) (fd : FuncData) (cc PT : Addr), Fun K x x st f fd ∧ mg x = some (.ref f) ∧ fd.code = .ref cc ∧ K.lookup PT = none ∧ PySem.W.CodeHd h cc PT ∧ (LamX.OwnTab K f h → h.get? PT = some { cls := .none, data := .fields #[] })
theorem own_mk {K : PySem.W.Frag} {h : Heap} {mg : Str → Option Value} {x : Str} {st : Stmt} {f cc PT : Addr} {od an dd : Option Addr} {sl sl2 : Array (Option Value)} {vs : Array Value} {oc kV dc pm ct e : Value} (X : K.In h) (G : h.Ns mainGlobals mg) (a : PySem.W.nsIn K mainGlobals x = some (some (.ref f)))
    (l : K.lookup f = some ⟨oc, od, .func (PySem.W.fnOf x x (defArgs st) (defBody st) (defScope st) .none kV dc pm an (.ref cc) ct), sl⟩) (c : PySem.W.codeIn K (.ref cc) x = true) (k : PySem.W.keepIn K (.ref f) = true) (lc : K.lookup cc = some ⟨e, dd, .fields vs, sl2⟩) (h11 : vs[11]? = some (.ref PT))
    (hd : PySem.W.codeHdIn K cc PT = true) (np : K.lookup PT = none) : OwnF K mg h x st :=
  ⟨f, _, cc, PT, fun_mk l c k, PySem.W.mg_of X G a, rfl, np, PySem.W.codeHd_of_K X hd, fun own => own cc PT _ _ e dd vs sl2 l rfl rfl lc h11⟩
theorem cls_of {K : PySem.W.Frag} {h : Heap} {mg : Str → Option Value} {x : Str} {C : Addr} (_ : K.In h) (_ : mg x = some (.ref C)) (pg : PySem.W.plainGet K C Str.empty = true) (hd : PySem.W.hasDictIn K C = true) (po : PySem.W.plainOver K C = true) (sa : PySem.W.findIn K (.ref C) "__setattr__" = some (some (.builtin "object.__setattr__"))) : Cls K C := ⟨pg, hd, po, sa⟩
theorem noattr_of {K : PySem.W.Frag} {h : Heap} {mg : Str → Option Value} {x f : Str} {C : Addr} (_ : K.In h) (_ : mg x = some (.ref C)) (n : PySem.W.findIn K (.ref C) f = some none) : NoAttr K C f := n
/-- how such a class is made: its __init__ -/
theorem makes_of {K : PySem.W.Frag} {h : Heap} {mg : Str → Option Value} {x q : Str} {st : Stmt} {C f1 : Addr} {od1 an1 : Option Addr} {sl1 : Array (Option Value)} {oc1 kV1 dc1 pm1 cd1 ct1 : Value} (_ : K.In h) (_ : mg x = some (.ref C))
    (a1 : PySem.W.findIn K (.ref C) "__init__" = some (some (.ref f1))) (i1 : PySem.W.isFn K (.ref f1) = true) (l1 : K.lookup f1 = some ⟨oc1, od1, .func (PySem.W.fnOf "__init__" q (defArgs st) (defBody st) (defScope st) .none kV1 dc1 pm1 an1 cd1 ct1), sl1⟩) (c1 : PySem.W.codeIn K cd1 q = true) (k1 : PySem.W.keepIn K (.ref f1) = true)
    (mk : PySem.W.makesIn K C = true) (kc : PySem.W.keepIn K (.ref C) = true) : ∃ fI fd, Fun K "__init__" q st fI fd ∧ Mk K C fI := ⟨f1, _, fun_mk (st := st) l1 c1 k1, ⟨mk, a1, i1, kc⟩⟩
end KB

/-! B33: a clause that catches errors of several classes; numbers that may be too great. -/
namespace KB
open PySem PySem.Spec PyProof.Rows L2
/-! ## what is raised, of any of these classes, is caught by the first clause -/
def wHits (K : PySem.W.Frag) (S : Addr → Prop) (c : Value) (i : Nat) (ts : Addr → Addr → TS) (D : Ends) : WX := fun cls d σ H =>
  ∃ C, S C ∧ cls = .ref C ∧ d = none ∧ PySem.W.exmOne K (.ref C) c = some true ∧ ∀ a, H a = none → ts C a { nx := fun z H' => D.nx (z.set i none) H', rt := D.rt, bk := fun z H' => D.bk (z.set i none) H', ct := fun z H' => D.ct (z.set i none) H' } (σ.set i (some (.ref a))) H
theorem ps_try_hits {X : Cx} {x n : Str} {c : Value} {i : Nat} {body suite : List Stmt} {b₀ : Stmt} {np pos pos' : Pos} {hds : List ExceptHandler} {tb : WX → TS} {ts : Addr → Addr → TS} {S : Addr → Prop}
    (hs : X.stack = X.env :: X.outer) (hf : X.env.frame = some X.env.locals) (hN : X.N.Nodup) (hi : X.N[i]? = some n) (hln : X.env.kindOf n = some .local) (hc : Names X x c)
    (hb : ∀ (W : WX) (pn : List (Addr × Obj)) (xe : Value → Shared → Prop), Takes (X.tr pn xe) W → PassesOwn (model X.prog X.w) X.A X.env xe → PSs (X.tr pn xe) body (tb W))
    (hsu : ∀ (C : Addr), S C → ∀ (a : Addr) (oe : Obj) (pn : List (Addr × Obj)), Zc (.ref C) none oe → (∃ vs, oe.data = .fields vs) → PSs (X.suite a ((a, oe) :: pn)) (b₀ :: suite) (ts C a)) :
    PS X (.Try body (.ExceptHandler (some (.Name x np)) (some n) (b₀ :: suite) pos' :: hds) [] [] pos) (fun D σ H => tb (wHits X.K S c i ts D) D σ H) := by
  refine ⟨fun pins s σ H D I h => ?_⟩
  have ok := I.ok
  have hfr : X.A.frames = some (X.env :: X.outer) := by rw [ok.frames, hs]
  refine wpAny_Try_except (wpAny_mono ((hb (wHits X.K S c i ts D) (X.pn ++ pins) _ (fun u s' xx => ?take) PassesOwn.looking).run [] s σ H D (Inv.toTry I _) h) (fun f s1 hsp => ?_) fun e s1 he => he)
  case take =>
    obtain ⟨a, B, sI, pins', σ', H', cls, d, rfl, J', nb, up, sky, na, os, ag, C, hC, rfl, rfl, hit, yes⟩ := xx
    have J := Inv.ofTry J' ok
    have sky2 : Sky B (X.env :: X.outer) a (Zc (.ref C) none) X.env.locals s'.heap := hs ▸ sky
    refine Sky.land Zc.steady hfr hf sky2 fun h3 fl3 up3 => ?_
    have J3 := Inv.landed (s' := { heap := h3, gens := s'.gens, drawn := s'.drawn, toks := s'.toks, os := s'.os }) J nb fl3.left (up.trans up3) os ag
    obtain ⟨oe3, vs3, he3, hz3, hd3⟩ := HandSPX.FlyingZ.there fl3
    have far : a ∉ List.filterMap (fun y : Env => y.frame) (X.env :: X.outer) := fun hm => by
      obtain ⟨_, o', e', hnf⟩ := Heap.FunFrames.mem fl3.2.2.1 hm
      rw [he3] at e'
      cases e'
      exact hnf vs3 hd3
    have nL : a ≠ X.env.locals := fun z => far (List.mem_filterMap.mpr ⟨X.env, List.mem_cons_self, by rw [hf, z]⟩)
    have nF : a ∉ X.fs := fun hm => by
      obtain ⟨y, hy, q⟩ := List.mem_filterMap.mp hm
      exact far (List.mem_filterMap.mpr ⟨y, List.mem_cons_of_mem _ hy, q⟩)
    have S3 := Inv.suite J3 he3 hd3 na nL nF
    refine wpAny_handleBy_cons (codeAny_handlers_test ?_) (fun z => nomatch z)
    have LT : PySem.W.Looks (model X.prog X.w) h3 (typeOf (.ref a)) (.ref C) := fun A Q E s k q => wpAny_typeOf_ref (k a oe3 he3) (by rw [hz3.1]; exact q)
    have LM := PySem.W.exm_one J3.kIn LT hit
    have test : ∀ {Q : Value → Shared → Prop} {E : Value → Shared → Prop}, Q c { heap := h3, gens := s'.gens, drawn := s'.drawn, toks := s'.toks, os := s'.os } →
        wpAny (model X.prog X.w) (X.A.mark (some (.ref a))) (eval (.Name x np) X.env) Q E { heap := h3, gens := s'.gens, drawn := s'.drawn, toks := s'.toks, os := s'.os } := fun q => by
      obtain ⟨hg, hdbg, hm | ⟨hm, hv, hnn⟩⟩ := hc
      · exact ld_glob S3 hg hm q hdbg
      · exact ld_blt S3 hg hm hv q hnn hdbg
    refine test (PySem.W.Looks.here LM ?_)
    refine codeAny_handlers_suite_as (HandSPX.lands_againZ fl3 fun h4 fl4 up4 => ?_)
    have J4 := Inv.landed (s' := { heap := h4, gens := s'.gens, drawn := s'.drawn, toks := s'.toks, os := s'.os }) J nb fl4.left ((up.trans up3).trans up4) os ag
    obtain ⟨oe4, vs4, he4, hz4, hd4⟩ := HandSPX.FlyingZ.there fl4
    have S4 := Inv.suite J4 he4 hd4 na nL nF
    refine store_ok (X := X.suite a ((a, oe4) :: (X.pn ++ pins))) S4 hN hi (.inl hln) (v := .ref a) rfl (fun s5 S5 => ?_) (.inr hln)
    refine wpAny_mono ((hsu C hC a oe4 (X.pn ++ pins) hz4 ⟨vs4, hd4⟩).run [] s5 _ H' _ S5 (yes a na)) (fun f s6 hsp => ?_) fun _ _ z => False.elim z
    cases f with
    | next => obtain ⟨σ6, H6, S6, q6⟩ := hsp; exact gone_ok (Inv.unsuite S6 ok) hN hi hln fun s7 J7 => ⟨_, H6, J7, q6⟩
    | brk => obtain ⟨σ6, H6, S6, q6⟩ := hsp; exact gone_ok (Inv.unsuite S6 ok) hN hi hln fun s7 J7 => ⟨_, H6, J7, q6⟩
    | cont => obtain ⟨σ6, H6, S6, q6⟩ := hsp; exact gone_ok (Inv.unsuite S6 ok) hN hi hln fun s7 J7 => ⟨_, H6, J7, q6⟩
    | ret u => obtain ⟨v6, σ6, H6, S6, r6, q6⟩ := hsp; exact gone_ok (Inv.unsuite S6 ok) hN hi hln fun s7 J7 => ⟨v6, _, H6, J7, r6, q6⟩
  · cases f with
    | next => obtain ⟨σ', H', J', q⟩ := hsp; exact wpAny_execs_nil ⟨σ', H', Inv.ofTry J' ok, q⟩
    | brk => obtain ⟨σ', H', J', q⟩ := hsp; exact ⟨σ', H', Inv.ofTry J' ok, q⟩
    | cont => obtain ⟨σ', H', J', q⟩ := hsp; exact ⟨σ', H', Inv.ofTry J' ok, q⟩
    | ret u => obtain ⟨v, σ', H', J', r, q⟩ := hsp; exact ⟨v, σ', H', Inv.ofTry J' ok, r, q⟩
/-- a method's call within a clause: the context's own K is told -/
theorem pe_bmK {X : Cx} {K : PySem.W.Frag} {o e : Expr} {es : List Expr} {to : TE} {t : TA} {name : Str} {apos cpos : Pos} {T id : String} {r : V → List V → Hp → VK → Prop} (hK : X.K = K) (pa : PlainAttrs T) (slot : Slot T name id) (hty : typeOf (.builtin id) = pure (.type "method_descriptor")) (hm : MtR X id r) (ho : PE X o to) (ha : PA X (e :: es) t)
    (hbase : attributeBase o name X.env (eval o X.env) = eval o X.env := by rfl)
    (hfew : ((backTo cpos (starEach (e :: es) X.env)).all (fun x => !x.1) && (backToKw cpos (keywordEach [] X.env)).all (fun x => x.1.isSome)
      && decide ((e :: es).length + ([] : List Keyword).length + (if ([] : List Keyword).isEmpty then 0 else 1) < 30)) = true := by rfl)
    (hline : (apos.endLine == cpos.line) = true := by rfl) (hs : starEach (e :: es) X.env = (false, eval e X.env) :: starEach es X.env := by rfl) (hplain : (backTo cpos (starEach es X.env)).any (·.1) = false := by rfl) :
    PE X (.Call (.Attribute o name apos) (e :: es) [] cpos) (tBM K T r to t) := by
  subst hK
  exact pe_bm pa slot hty hm ho ha hbase hfew hline hs hplain
/-! ## several classes of errors -/
def nth (cs : List Addr) (n : Nat) : Addr := cs.getD n 0
/-- the first n of them: each is of its own class alone, of those up to m -/
def kitsB (K : PySem.W.Frag) (cs : List Addr) (n m : Nat) : Bool := (List.range n).all fun i => (List.range m).all fun j => PySem.W.kitOne K (.ref (nth cs i)) (.ref (nth cs j)) == some (decide (i = j))
def kitB (K : PySem.W.Frag) (cs : List Addr) (n : Nat) (c : Value) : Bool := (List.range n).all fun i => PySem.W.kitOne K (.ref (nth cs i)) c == some true
def exmB (K : PySem.W.Frag) (cs : List Addr) (n : Nat) (c : Value) : Bool := (List.range n).all fun i => PySem.W.exmOne K (.ref (nth cs i)) c == some true
theorem kits_ok {K : PySem.W.Frag} {cs : List Addr} {n m : Nat} (h : kitsB K cs n m = true) (i j : Nat) (hi : i < n) (hj : j < m) : PySem.W.kitOne K (.ref (nth cs i)) (.ref (nth cs j)) = some (decide (i = j)) :=
  eq_of_beq (List.all_eq_true.mp (List.all_eq_true.mp h i (List.mem_range.mpr hi)) j (List.mem_range.mpr hj))
theorem kit_ok {K : PySem.W.Frag} {cs : List Addr} {n : Nat} {c : Value} (h : kitB K cs n c = true) (i : Nat) (hi : i < n) : PySem.W.kitOne K (.ref (nth cs i)) c = some true :=
  eq_of_beq (List.all_eq_true.mp h i (List.mem_range.mpr hi))
theorem exm_ok {K : PySem.W.Frag} {cs : List Addr} {n : Nat} {c : Value} (h : exmB K cs n c = true) (i : Nat) (hi : i < n) : PySem.W.exmOne K (.ref (nth cs i)) c = some true :=
  eq_of_beq (List.all_eq_true.mp h i (List.mem_range.mpr hi))
/-! ## numbers that may be too great: None then -/
def optV (n : Nat) : V := if n < tooGreat then .int (n : Nat) else .non
theorem optV_int {n : Nat} (h : n < tooGreat) : optV n = .int (n : Nat) := if_pos h
theorem optV_non {n : Nat} (h : ¬ n < tooGreat) : optV n = .non := if_neg h
theorem great_lt : 2 ≤ tooGreat := by decide +kernel
theorem great_pow : tooGreat ≤ 2 ^ 140 := Nat.le_of_lt tooGreat_bits
/-- the power of what is too great, or to what is too great -/
theorem pw_great {a b : Nat} (a1 : 1 ≤ a) (a2 : a ≠ 1) (b1 : 1 ≤ b) (h : ¬ a < tooGreat ∨ ¬ b < tooGreat) : ¬ pw a b < tooGreat := by
  unfold pw
  have e : tooGreat ≤ a ^ b := by
    rcases h with h | h
    · have h1 : a ^ 1 ≤ a ^ b := Nat.pow_le_pow_right (by omega) b1
      rw [Nat.pow_one] at h1
      omega
    · have h1 : 2 ^ b ≤ a ^ b := Nat.pow_le_pow_left (by omega) b
      have h2 : b < 2 ^ b := Nat.lt_two_pow_self
      omega
  omega
/-- as many turns as are made show whether the power is too great -/
theorem pw_turns {a b : Nat} (a1 : 1 ≤ a) (a2 : a ≠ 1) : optV (a ^ min b 140) = optV (pw a b) := by
  by_cases h : b ≤ 140
  · rw [Nat.min_eq_left h]
    by_cases c : a ^ b < tooGreat
    · have e : pw a b = a ^ b := by unfold pw; omega
      rw [e]
    · have e : pw a b = tooGreat := by unfold pw; omega
      rw [optV_non c, optV_non (by rw [e]; omega)]
  · rw [Nat.min_eq_right (by omega)]
    have h1 : 2 ^ 140 ≤ a ^ 140 := Nat.pow_le_pow_left (by omega) 140
    have h2 : a ^ 140 ≤ a ^ b := Nat.pow_le_pow_right (by omega) (by omega)
    have g := great_pow
    have e : pw a b = tooGreat := by unfold pw; omega
    rw [optV_non (by omega), optV_non (by rw [e]; omega)]
theorem pow_turn_ok {a j : Nat} (h : a < tooGreat) (hj : j ≤ 140) : CMulW ((a ^ j : Nat) : Int) (a : Int) := by
  have b := tooGreat_bits
  have h1 : a ^ j ≤ (2 ^ 140) ^ j := Nat.pow_le_pow_left (by omega) j
  have h2 : (2 ^ 140) ^ j ≤ (2 ^ 140) ^ 140 := Nat.pow_le_pow_right (by omega) hj
  have h3 : (2 ^ 140) ^ 140 < 2 ^ 19601 := by
    rw [← Nat.pow_mul]
    exact Nat.pow_lt_pow_right (by decide) (by decide)
  refine wide_mul (a := 19601) (b := 140) ?_ ?_ (by decide) (by decide) (by decide)
  · rw [Int.natAbs_natCast]
    exact Nat.lt_of_le_of_lt (Nat.le_trans h1 h2) h3
  · rw [Int.natAbs_natCast]; omega
theorem num_p {s : Nat → Nat} (hs : ∀ i, 1 ≤ s i ∧ s i ≤ 999) (x y : Kd) : optV ((Kd.p x y).num s) = if x.num s < tooGreat ∧ y.num s < tooGreat ∧ x.num s * y.num s < tooGreat then .int ((x.num s * y.num s : Nat) : Int) else .non := by
  have hx := Kd.num_pos (fun i => (hs i).1) x
  have hy := Kd.num_pos (fun i => (hs i).1) y
  have h1 : x.num s * 1 ≤ x.num s * y.num s := Nat.mul_le_mul (Nat.le_refl _) hy
  have h2 : 1 * y.num s ≤ x.num s * y.num s := Nat.mul_le_mul hx (Nat.le_refl _)
  by_cases c : x.num s * y.num s < tooGreat
  · rw [if_pos ⟨by omega, by omega, c⟩]
    have e : (Kd.p x y).num s = x.num s * y.num s := by show min _ _ = _; omega
    rw [e, optV_int c]
  · rw [if_neg fun h => c h.2.2]
    have e : (Kd.p x y).num s = tooGreat := by show min _ _ = _; omega
    rw [e, optV_non (by omega)]
end KB

/-! B34: what are no sizes. -/
namespace KB
open PySem PySem.Spec PyProof.Rows L2
theorem cut_map (ns : List Int) (lo hi : Option Int) : cutV (ns.map V.int) lo hi = ((ns.drop (HT.sIx ns.length 0 lo)).take (HT.sIx ns.length ns.length hi - HT.sIx ns.length 0 lo)).map V.int := by
  unfold cutV
  rw [List.length_map, ← List.map_drop, ← List.map_take]
theorem no_sz_in {a b : List PyData} {d : PyData} (h : szD d = false) : isSz (.list (a ++ [d] ++ b)) = false := by
  simp only [isSz, List.all_append, List.all_cons, List.all_nil, h, Bool.false_and, Bool.and_false]
theorem no_sz_len {a : List PyData} (h : a.length ≠ 8) : isSz (.list a) = false := by
  simp only [isSz]
  rw [beq_eq_false_iff_ne.mpr h, Bool.false_and]
theorem isSz_of {ds : List PyData} : isSz (.list ds) = (ds.length == 8 && ds.all szD) := rfl
/-- the thing with one more is no kind -/
theorem kd_more {k : Kd} {l : List PyData} (h : k.dat = .tuple l) : isKd (.tuple (l ++ [.int 0])) = false := by
  cases k with
  | b i =>
    cases h
    show ((decide (("base" : Str) = "both") || decide (("base" : Str) = "from")) && _) = false
    rw [show (decide (("base" : Str) = "both") || decide (("base" : Str) = "from")) = false from by decide]
    rfl
  | u => cases h; decide
  | p x y => cases h; rfl
  | f x y => cases h; rfl
end KB

/-! B35: a tuple turned about: t[::-1]; the end of a law with tables in which a repr is asked. -/
namespace KB
open PySem PySem.Spec PyProof.Rows L2 HT
/-- t[::-1], a tuple -/
def tRevU (K : PySem.W.Frag) (te : TE) : TE := fun σ H Q => te σ H fun x H1 => ∃ (a : Addr) (xs : List V), x = .ref a ∧ SqT K H1 a xs ∧ ∀ p, H1 p = none → Q (.ref p) (upd H1 p (.tup xs.reverse))
theorem pick_all (l : List Value) : ∀ m, m ≤ l.length → (List.range m).filterMap (fun k => l[k]?) = l.take m
  | 0, _ => by simp
  | m + 1, h => by
    have e : l[m]? = some (l[m]'(by omega)) := List.getElem?_eq_getElem (by omega)
    rw [List.range_succ, List.filterMap_append, pick_all l m (by omega), List.filterMap_cons, e]
    simp only [List.filterMap_nil]
    rw [List.take_add_one, e]
    rfl
theorem pick_back (l : List Value) : ∀ m, m ≤ l.length → (List.range m).filterMap (fun (k : Nat) => l[(((l.length : Nat) : Int) - 1 + (k : Int) * -1).toNat]?) = (List.range m).filterMap fun k => l.reverse[k]?
  | 0, _ => by simp
  | m + 1, h => by
    have e : (((l.length : Nat) : Int) - 1 + (m : Int) * -1).toNat = l.length - 1 - m := by omega
    rw [List.range_succ, List.filterMap_append, List.filterMap_append, pick_back l m (by omega), List.filterMap_cons, List.filterMap_cons]
    rw [e, List.getElem?_reverse (by omega)]
    cases l[l.length - 1 - m]? <;> rfl
theorem vals_app {xs ys : List V} {us ws : List Value} (a : Vals xs us) (b : Vals ys ws) : Vals (xs ++ ys) (us ++ ws) := Vals.append a b
theorem vals_rev : ∀ {xs : List V} {us : List Value}, Vals xs us → Vals xs.reverse us.reverse
  | _, _, .nil => .nil
  | _, _, .cons r v => by
    rw [List.reverse_cons, List.reverse_cons]
    exact vals_app (vals_rev v) (.cons r .nil)
theorem sliceApplied_back {M : Program} {w : World} {A : Around} {E : Value → Shared → Prop} {s : Shared} {sl : Addr} {tk : Tok} {n : Nat} {Q : Int × Int × Nat → Shared → Prop} (hs : s.heap.IsSliceOf sl .none .none (.int (-1) tk))
    (h : Q ((n : Int) - 1, -1, Builtin.Slice.slicePlaces ((n : Int) - 1) (-1) (-1)) s) : wpAny (model M w) A (Builtin.Slice.sliceApplied (.ref sl) (pure (n : Int))) Q E s := by
  obtain ⟨os, hos, hcs, hds⟩ := _root_.id hs
  unfold Builtin.Slice.sliceApplied Builtin.Slice.sliceFields
  refine wpAny_bind (wpAny_bind (wpAny_field hos hds (x := .none) rfl (wpAny_bind (wpAny_field hos hds (x := .none) rfl (wpAny_bind (wpAny_field hos hds (x := .int (-1) tk) rfl (wpAny_pure ?_)))))))
  refine wpAny_bind (slicePart_int ?_)
  show wpAny _ _ (if ((-1 : Int) == 0) = true then _ else _) _ _ s
  rw [if_neg (by decide)]
  refine wpAny_bind (slicePart_none (wpAny_bind (slicePart_none (wpAny_bind (wpAny_pure ?_)))))
  exact wpAny_pure h
theorem places_back (n : Nat) : Builtin.Slice.slicePlaces ((n : Int) - 1) (-1) (-1) = n := by
  unfold Builtin.Slice.slicePlaces
  rw [if_neg (by decide)]
  split
  · have e : (((n : Int) - 1 - -1 - 1) / - -1 + 1) = n := by
      have e2 : - (-1 : Int) = 1 := by decide
      rw [e2, Int.ediv_one]
      omega
    rw [e]
    omega
  · omega
theorem getItem_tuple_back {X : Cx} {t sl : Addr} {its : List Value} {tk : Tok} {s : Shared} {Q : Value → Shared → Prop} (ht : IsTup s.heap t its.toArray) (hs : s.heap.IsSliceOf sl .none .none (.int (-1) tk)) (hsz : its.length ≤ sizeLine)
    (h : Q (.ref s.heap.objs.size) { s with heap := s.heap.push { cls := .type "tuple", data := .seq its.reverse.toArray } }) :
    wpAny (model X.prog X.w) X.A (getItem (.ref t) (.ref sl)) Q X.xe s := by
  obtain ⟨os, hos, hcs, hds⟩ := _root_.id hs
  have hTs : s.TypeIs (.ref sl) "slice" := ⟨os, hos, hcs⟩
  unfold getItem
  try with_reducible refine wpAny_holding ?_
  first | refine wpAny_bind (wpAny_pure ?_) | skip
  refine wpAny_bind (wpAny_sequenceKey ht.typeIs (by decide) ?_)
  refine wpAny_bind (wpAny_callSpecial?_slot (name := Str.ofString "__getitem__") ht.typeIs PyProof.Rows.slot_tuple_getitem
    (wpAny_call_entry PyProof.Rows.slot_tuple_getitem ht.typeIs entry_tuple_getitem ?_ (args_tuple_getitem _ _)))
  show wpAny _ _ (Builtin.Tuple.tupleItemsOf (.ref t) >>= _) _ _ s
  refine wpAny_bind (tupleItemsOf_ ht ?_)
  refine wpAny_bind (wpAny_typeOf hTs ?_)
  rw [if_pos (by decide)]
  refine wpAny_bind (sliceApplied_back (n := its.toArray.size) hs ?_)
  rw [places_back]
  show wpAny _ _ (if (((its.toArray.size : Nat) : Int) - 1 == 0 && (-1 : Int) == 1 && its.toArray.size == its.toArray.size) = true then _ else _) _ _ s
  rw [if_neg (by rw [show ((-1 : Int) == 1) = false from rfl, Bool.and_false, Bool.false_and]; exact Bool.false_ne_true)]
  have hpk : ((List.range its.toArray.size).filterMap fun (k : Nat) => its.toArray[(((its.toArray.size : Nat) : Int) - 1 + (k : Int) * -1).toNat]?) = its.reverse := by
    have e : (fun (k : Nat) => its.toArray[(((its.toArray.size : Nat) : Int) - 1 + (k : Int) * -1).toNat]?) = fun (k : Nat) => its[(((its.length : Nat) : Int) - 1 + (k : Int) * -1).toNat]? := by
      funext k
      rw [List.getElem?_toArray, List.size_toArray]
    rw [e, List.size_toArray, pick_back its its.length (Nat.le_refl _)]
    have e2 := pick_all its.reverse its.length (by rw [List.length_reverse]; exact Nat.le_refl _)
    rw [e2, List.take_of_length_le (by rw [List.length_reverse]; exact Nat.le_refl _)]
  rw [hpk]
  have hq := h
  have hz : sizeOk (.seq its.reverse.toArray) := by
    show _ ≤ sizeLine
    rw [List.size_toArray, List.length_reverse]
    exact hsz
  first
    | exact wpAny_bind (m := Builtin.Tuple.tupleExact _) (wpAny_newObj_type (wpAny_pure ⟨_, rfl, wpAny_pure hq⟩) hz)
    | exact wpAny_bind (m := Builtin.Tuple.tupleExact _) (wpAny_newObj_type (wpAny_bind (wpAny_pure (wpAny_pure ⟨_, rfl, wpAny_pure hq⟩))) hz)
    | exact wpAny_bind (wpAny_bind (m := Builtin.Tuple.tupleExact _) (wpAny_newObj_type (wpAny_pure (wpAny_pure ⟨_, rfl, wpAny_pure hq⟩)) hz))
    | exact wpAny_bind (wpAny_bind (m := Builtin.Tuple.tupleExact _) (wpAny_newObj_type (wpAny_pure ⟨_, rfl, wpAny_pure hq⟩) hz))
theorem pe_revU {X : Cx} {e : Expr} {te : TE} {k : Nat} {p1 p2 p3 pos : Pos} (he : PE X e te) : PE X (.Subscript e (.Slice none none (some (.UnaryOp .USub (.Constant (.int 1) k p1) p2)) p3) pos) (tRevU X.K te) := by
  refine ⟨fun pins s σ H Q I h => Subscript_ (thn (he.run pins s σ H _ I h) ?_)⟩
  rintro v s1 ⟨x, H1, I1, r1, a, xs, rfl, hT, q⟩
  cases r1
  refine wpAny_Slice (thn (po_none.run pins s1 σ H1 (fun o H2 => o = none ∧ H2 = H1) I1 ⟨rfl, rfl⟩) ?_)
  rintro vl s2 ⟨o2, H2, I2, pl, rfl, rfl⟩
  refine thn (po_none.run pins s2 σ H2 (fun o H3 => o = none ∧ H3 = H2) I2 ⟨rfl, rfl⟩) ?_
  rintro vu s3 ⟨o3, H3, I3, pu, rfl, rfl⟩
  have hst : PO X (some (.UnaryOp .USub (.Constant (.int 1) k p1) p2)) _ := po_some (pe_un un_neg pe_int)
  refine thn (hst.run pins s3 σ H3 (fun o H4 => o = some (-1) ∧ H4 = H3) I3 ⟨1, rfl, -1, rfl, rfl, rfl⟩) ?_
  rintro vs s4 ⟨o4, H4, I4, ps, rfl, rfl⟩
  cases pl
  cases pu
  cases ps with
  | int i tk =>
  have I5 := Inv.kept (h' := s4.heap.push { cls := .type "slice", data := .fields #[.none, .none, .int (-1) tk] }) (t' := s4.toks) I4 fun b ob q => Heap.get?_push_of_some _ q
  obtain ⟨its, r, ht, hz⟩ := I5.tuple hT
  have hlen := r.length
  refine tail_any ht.typeIs PyProof.Rows.slot_tuple_getitem.lookup (getItem_tuple_back (tk := tk) ht (Heap.IsSliceOf.new ..) (by omega) ?_) (by with_unfolding_all rfl)
  refine ⟨.ref _, _, I5.laid (o := .tup xs.reverse) (fun b ob q => Heap.get?_push_of_some _ q) (Nat.le_refl _) ?_, rfl, q _ (I5.hok.fresh (Nat.le_refl _))⟩
  exact ⟨by rw [List.length_reverse]; exact hz, _, vals_rev r, IsTup.new _ _⟩
/-! ## t + u, two tuples, each perhaps empty -/
def rCatA (K : PySem.W.Frag) : R2 := fun x y H Q => ∃ a b xs ys, x = .ref a ∧ y = .ref b ∧ SqT K H a xs ∧ SqT K H b ys ∧ xs.length + ys.length ≤ 2000000 ∧ (xs = [] → Q (.ref b) H) ∧ (xs ≠ [] → ys = [] → Q (.ref a) H) ∧ (xs ≠ [] → ys ≠ [] → ∀ p, H p = none → Q (.ref p) (upd H p (.tup (xs ++ ys))))
theorem op_catD {X : Cx} : OpR X (binaryOp .Add) (rCatA X.K) := by
  intro pins s σ H x y v u Q I rx ry h
  obtain ⟨a, b, xs, ys, rfl, rfl, ha, hb, hz, q1, q2, q3⟩ := h
  by_cases c : xs = []
  · subst c
    exact op_catT0 pins s σ H _ _ v u Q I rx ry ⟨a, b, ys, rfl, rfl, ha, hb, q1 rfl⟩
  · exact op_addA pins s σ H _ _ v u Q I rx ry (.inr (.inr (.inr ⟨a, b, xs, ys, rfl, rfl, ha, hb, c, fits (by omega), q2 c, fun d => q3 c d⟩)))
end KB

/-! B36: t == () for any tuple t. -/
namespace KB
open PySem PySem.Spec PyProof.Rows L2
def rEqU (K : PySem.W.Frag) : R2 := fun x y H Q => ∃ a b xs, x = .ref a ∧ y = .ref b ∧ SqT K H a xs ∧ SqT K H b [] ∧ Q (.bl (decide (xs = []))) H
theorem op_eqU {X : Cx} (hu : X.A.units + 200 < cLine) : OpR X (compareOp .Eq) (rEqU X.K) := by
  intro pins s σ H x y v u Q I rx ry ⟨a, b, xs, ex, ey, ha, hb, q⟩
  subst ex ey
  cases rx
  cases ry
  obtain ⟨its, r1, p1, _⟩ := I.tuple ha
  obtain ⟨its2, r2, p2, _⟩ := I.tuple hb
  cases r2
  have hl := r1.length
  refine SeqAt.RcAt.tuples (e := fun _ => true) p1 p2 (by omega) (fun j _ j2 => absurd j2 (by simp)) X.prog X.w X.xe _ ?_
  have e : ((List.range (min its.toArray.size (#[] : Array Value).size)).all (fun _ => true) && its.toArray.size == (#[] : Array Value).size) = decide (xs = []) := by
    rw [List.size_toArray, ← hl]
    cases xs <;> simp
  rw [e]
  exact ⟨.bl _, H, I, rfl, q⟩
end KB

/-! B37: the end of a law that has tables of code and asks for a repr. -/
namespace KB
open PySem PySem.Spec PyProof.Rows L2
section
variable {P : Program} {w : World} {K : PySem.W.Frag} {mg mb : Str → Option Value} {k : Nat} {fa a : Addr} {cs : List (Addr × Addr)} {fd : FuncData} {x : Str} {sp : Sp} {s₁ : Shared} {vs : List Value} {ns : List Int}
/-- the heap before the law's call: of it only the script and the tables may be told -/
structure Pre (K : PySem.W.Frag) (h : Heap) (a : Addr) (cs : List (Addr × Addr)) (vs : List Value) (H : Hp) : Prop where
  tabs : ∀ p ∈ cs, H p.2 = some (.tbl #[])
  shape : ∀ b, H b = none ∨ (∃ p ∈ cs, b = p.2) ∨ ∃ o xs, H b = some (.frz o (.lst xs))
  only : ∀ b, H b ≠ none → b = a ∨ ∃ p ∈ cs, b = p.2
  own : H a ≠ none → K.lookup a = none
theorem Pre.hid {H : Hp} (p : Pre K s₁.heap a cs vs H) (ha : s₁.heap.get? a = some { cls := .type "list", data := .seq vs.toArray }) (hT : ∀ p ∈ cs, s₁.heap.get? p.2 = some { cls := .none, data := .fields #[] }) {b : Addr} {o : Obj} (e : s₁.heap.get? b = some o)
    (n1 : b ≠ a ∨ H a = none) (n2 : ∀ q ∈ cs, b ≠ q.2) : (hidT s₁.heap H).get? b = some o := by
  refine hidT_get e ?_
  cases q : H b with
  | none => rfl
  | some u =>
    rcases p.only b (by rw [q]; simp) with z | ⟨t, ht, z⟩
    · rcases n1 with n | n
      · exact absurd z n
      · rw [z, n] at q; cases q
    · exact absurd z (n2 t ht)
theorem law_callTG
    (KX : K.In s₁.heap) (hns : s₁.heap.Ns mainGlobals mg) (hb : s₁.heap.Ns builtinsNs mb) (hbb : ∀ x : Str, x ≠ "__name__" → mb x = bootBuiltins x) (hlim : s₁.heap.NoLimit) (hg : s₁.gens = #[])
    (hT : ∀ p ∈ cs, s₁.heap.get? p.2 = some { cls := .none, data := .fields #[] }) (nT : ∀ p ∈ cs, K.lookup p.2 = none) (C : ∀ p ∈ cs, PySem.W.CodeHd s₁.heap p.1 p.2)
    (hbm : ∃ (bm : Addr) (ob : Obj), mg "__builtins__" = some (.ref bm) ∧ bm ≠ builtinsNs ∧ s₁.heap.get? bm = some ob ∧ ob.cls = .type "module" ∧ ob.dict = some builtinsNs ∧ ob.data = .plain)
    (ha : s₁.heap.get? a = some { cls := .type "list", data := .seq vs.toArray }) (hi : IntsAre vs ns) (hl : ns.length ≤ sizeLine) (hr : Room k callerA)
    (F : ∀ base : Heap, K.In base → base.Ns mainGlobals mg → (∀ p ∈ cs, LamX.TabB base mg p.1 p.2) → (∀ (b : Addr) (m : Str → Option Value), s₁.heap.Ns b m → base.Ns b m) → FnG P w K mg base CX0 k fa fd [x] sp) (hbind : ∀ (s : Shared) (u : Value), BindsTo s fd ⟨[u], []⟩ [(x, u)])
    (hsp : ∀ H : Hp, (∀ p ∈ cs, H p.2 = some (.tbl #[])) → SqL K H a (ns.map V.int) → sp [.ref a] H (fun v _ => v = .bl true) fun _ _ _ => False) :
    codeAny (model P w) callerA (.call (.ref fa) ⟨[.ref a], []⟩) (fun r s' => r = .ok (.ret (.bool true)) ∧ OldK s₁.heap s'.heap ∧ s'.os = s₁.os ∧ AllBare s'.gens) s₁ := by
  have rv := vals_ints hi
  have lenV : vs.length = ns.length := by have := rv.length; rw [List.length_map] at this; exact this.symm
  have nota : ∀ p ∈ cs, p.2 ≠ a := fun p hp z => by
    have q := hT p hp
    rw [z, ha] at q
    cases q
  have core : ∀ H : Hp, Pre K s₁.heap a cs vs H → SqL K H a (ns.map V.int) → HOk P w H s₁.heap →
      codeAny (model P w) callerA (.call (.ref fa) ⟨[.ref a], []⟩) (fun r s' => r = .ok (.ret (.bool true)) ∧ OldK s₁.heap s'.heap ∧ s'.os = s₁.os ∧ AllBare s'.gens) s₁ := by
    intro H pre hS hok
    -- what is neither a list nor of bare fields
    have keep : ∀ {b : Addr} {o : Obj}, s₁.heap.get? b = some o → (∀ us n, o.data ≠ .seq us n) → o.data ≠ .fields #[] → (hidT s₁.heap H).get? b = some o := fun {b o} e h1 h2 =>
      pre.hid ha hT e (.inl fun z => by rw [z, ha] at e; cases e; exact h1 _ _ rfl) fun t ht z => by rw [z, hT t ht] at e; cases e; exact h2 rfl
    have keepD : ∀ {b : Addr} {o : Obj} {es : Array DictEntry} {ep : Nat}, s₁.heap.get? b = some o → o.data = .dict es ep → (hidT s₁.heap H).get? b = some o := fun e d => keep e (fun us n z => by rw [d] at z; cases z) fun z => by rw [d] at z; cases z
    have nsK : ∀ {b : Addr} {m : Str → Option Value}, s₁.heap.Ns b m → (hidT s₁.heap H).Ns b m := by
      rintro b m ⟨o, es, ep, e, d, r⟩
      exact ⟨o, es, ep, keepD e d, d, r⟩
    have hKb : K.In (hidT s₁.heap H) := by
      intro b o e
      refine pre.hid ha hT (KX b o e) ?_ fun t ht z => by rw [z, nT t ht] at e; cases e
      by_cases z : b = a
      · right
        cases q : H a with
        | none => rfl
        | some u => rw [z, pre.own (by rw [q]; simp)] at e; cases e
      · exact .inl z
    have hM : L2.Mod K mg (hidT s₁.heap H) := ⟨hKb, nsK hns, ⟨mb, nsK hb, hbb⟩, by obtain ⟨mc, h1, h2⟩ := hlim; exact ⟨mc, nsK h1, h2⟩⟩
    have dictNot : ∀ {b : Addr} {m : Str → Option Value}, s₁.heap.Ns b m → ∀ p ∈ cs, b ≠ p.2 := by
      rintro b m ⟨o, es, ep, e, d, _⟩ p hp z
      rw [z, hT p hp] at e
      cases e
      cases d
    have TB : ∀ p ∈ cs, LamX.TabB (hidT s₁.heap H) mg p.1 p.2 := fun p hp => by
      refine ⟨?_, ?_, dictNot hns p hp⟩
      · obtain ⟨o, us, file, tf, flags, tg, inF, text, tt, e1, r1, r2, r3, rest⟩ := C p hp
        refine ⟨o, us, file, tf, flags, tg, inF, text, tt, keep e1 (fun ws n z => by rw [r2] at z; cases z) fun z => ?_, r1, r2, r3, rest⟩
        rw [r2] at z
        cases z
        simp at r3
      · obtain ⟨bm, ob, b1, b2, b3, b4, b5, b6⟩ := hbm
        have nG : bm ≠ mainGlobals := fun z => by
          obtain ⟨o, es, ep, e, d, _⟩ := hns
          rw [z, e] at b3
          cases b3
          rw [d] at b6
          cases b6
        have nP : bm ≠ p.2 := fun z => by
          rw [z, hT p hp] at b3
          cases b3
          cases b6
        exact ⟨bm, ob, b1, b2, nG, nP, keep b3 (fun ws n z => by rw [b6] at z; cases z) (fun z => by rw [b6] at z; cases z), b4, b5, b6⟩
    have e0 : Env0 P w K mg (hidT s₁.heap H) callerA [] s₁ H := ⟨rfl, hM, fun b o e => of_hidT e, Nat.le_of_eq (hidT_size s₁.heap H), trivial, fun b h => absurd h List.not_mem_nil, hok, AllBare.of_eq hg⟩
    refine codeAny_mono ((F _ hKb (nsK hns) TB fun b m h => nsK h).run callerA [] s₁ H ⟨[.ref a], []⟩ [.ref a] [.ref a] (fun v _ => v = .bl true) (fun _ _ _ => False) hr rfl e0 (hbind s₁ (.ref a)) (.cons rfl .nil) (hsp H pre.tabs hS)) fun r s' h => ?_
    cases r with
    | error e => exact absurd h (by intro z; exact z.elim)
    | ok fl =>
      cases fl with
      | next => exact h.elim
      | brk => exact h.elim
      | cont => exact h.elim
      | ret u =>
        obtain ⟨v, H', os, bare, un, hok', r', q⟩ := h
        have q' : v = .bl true := q
        subst q'
        cases r'
        have stays : ∀ b o, (∀ p ∈ cs, b ≠ p.2) → s₁.heap.get? b = some o → s'.heap.get? b = some o := fun b o nb e => by
          cases q2 : H b with
          | none => exact un.keep b o e q2 (fun z => absurd z List.not_mem_nil) List.not_mem_nil
          | some u2 =>
            rcases pre.shape b with z | ⟨p, hp, z⟩ | ⟨ob, xs, z⟩
            · rw [q2] at z; cases z
            · exact absurd z (nb p hp)
            · have z2 := un.frzs b ob (.lst xs) z
              obtain ⟨e1, _⟩ := hok b _ z
              obtain ⟨e2, _⟩ := hok' b _ z2
              rw [e] at e1
              cases e1
              exact e2
        have grown : ∀ p ∈ cs, ∃ more : Array Value, s'.heap.get? p.2 = some { cls := .none, data := .fields more } := fun p hp => by
          obtain ⟨more, z⟩ := un.tbls p.2 #[] (pre.tabs p hp)
          exact ⟨_, hok' p.2 _ z⟩
        refine ⟨rfl, ⟨fun b o e => ?_, fun b o e => ?_⟩, os, bare⟩
        · by_cases hbc : ∃ p ∈ cs, b = p.2
          · obtain ⟨p, hp, rfl⟩ := hbc
            obtain ⟨more, hm⟩ := grown p hp
            rw [hT p hp] at e
            cases e
            exact .inr (.inl ⟨((C p hp).tab (hT p hp)).isCodeTable, rfl, #[], more, rfl, by rw [Array.empty_append]; exact hm⟩)
          · exact .inl (stays b o (fun p hp z => hbc ⟨p, hp, z⟩) e)
        · by_cases hbc : ∃ p ∈ cs, b = p.2
          · obtain ⟨p, hp, rfl⟩ := hbc
            obtain ⟨more, hm⟩ := grown p hp
            exact ⟨_, hm⟩
          · exact ⟨o, stays b o (fun p hp z => hbc ⟨p, hp, z⟩) e⟩
  have dec : ∀ b : Addr, (∃ p ∈ cs, b = p.2) ∨ ∀ p ∈ cs, b ≠ p.2 := fun b => by
    by_cases h : ∃ p ∈ cs, b = p.2
    · exact .inl h
    · exact .inr fun p hp z => h ⟨p, hp, z⟩
  cases hk : K.lookup a with
  | none =>
    have dis : ∀ b, Decidable (∃ p ∈ cs, b = p.2) := fun b => Classical.propDecidable _
    refine core (fun b => if b = a then some (.frz { cls := .type "list", data := .seq vs.toArray } (.lst (ns.map V.int))) else if ∃ p ∈ cs, b = p.2 then some (.tbl #[]) else none)
      ⟨fun p hp => (if_neg (nota p hp)).trans (if_pos ⟨p, hp, rfl⟩), fun b => ?_, fun b z => ?_, fun _ => hk⟩ (.inl (.inr ⟨_, if_pos rfl⟩)) (fun b u z => ?_)
    · by_cases h : b = a
      · exact .inr (.inr ⟨_, _, if_pos h⟩)
      · rcases dec b with h2 | h2
        · exact .inr (.inl h2)
        · exact .inl ((if_neg h).trans (if_neg fun ⟨p, hp, z⟩ => h2 p hp z))
    · by_cases h : b = a
      · exact .inl h
      · rcases dec b with h2 | h2
        · exact .inr h2
        · exact absurd ((if_neg h).trans (if_neg fun ⟨p, hp, z⟩ => h2 p hp z)) z
    · by_cases h : b = a
      · subst h
        have z' := (if_pos rfl).symm.trans z
        cases z'
        exact ⟨ha, by rw [List.length_map]; exact hl, vs, 0, rv, ha⟩
      · rcases dec b with h2 | h2
        · have z' := ((if_neg h).trans (if_pos h2)).symm.trans z
          cases z'
          obtain ⟨p, hp, rfl⟩ := h2
          exact hT p hp
        · have z' := ((if_neg h).trans (if_neg fun ⟨p, hp, z⟩ => h2 p hp z)).symm.trans z
          cases z'
  | some o =>
    have e := KX a o hk
    rw [ha] at e
    cases e
    have dis : ∀ b, Decidable (∃ p ∈ cs, b = p.2) := fun b => Classical.propDecidable _
    have na : ¬ ∃ p ∈ cs, a = p.2 := fun ⟨p, hp, z⟩ => nota p hp z.symm
    refine core (fun b => if ∃ p ∈ cs, b = p.2 then some (.tbl #[]) else none) ⟨fun p hp => if_pos ⟨p, hp, rfl⟩, fun b => ?_, fun b z => ?_, fun z => absurd (if_neg na) z⟩ (.inr ⟨_, vs.toArray, 0, hk, rfl, rfl, rfl, by rw [List.size_toArray, lenV]; exact hl, rv⟩) (fun b u z => ?_)
    · rcases dec b with h2 | h2
      · exact .inr (.inl h2)
      · exact .inl (if_neg fun ⟨p, hp, z⟩ => h2 p hp z)
    · rcases dec b with h2 | h2
      · exact .inr h2
      · exact absurd (if_neg fun ⟨p, hp, z⟩ => h2 p hp z) z
    · rcases dec b with h2 | h2
      · have z' := (if_pos h2).symm.trans z
        cases z'
        obtain ⟨p, hp, rfl⟩ := h2
        exact hT p hp
      · have z' := (if_neg fun ⟨p, hp, z⟩ => h2 p hp z).symm.trans z
        cases z'
end
/-- what is known of the law's promise at the head's heap, where no repr is under way -/
def LawAtG (l : PySem.W.OpenLaw) (w : World) (K : PySem.W.Frag) (k n : Nat) (x : Str) (mg : Str → Option Value) (fa : Addr) (h : Heap) : Prop :=
  ∃ (fd : FuncData) (cs : List (Addr × Addr)) (sp : Sp), (∀ p ∈ cs, h.get? p.2 = some { cls := .none, data := .fields #[] }) ∧ (∀ p ∈ cs, K.lookup p.2 = none) ∧ (∀ p ∈ cs, PySem.W.CodeHd h p.1 p.2) ∧ (∀ (s : Shared) (u : Value), BindsTo s fd ⟨[u], []⟩ [(x, u)]) ∧
    (∀ (H : Hp) (a : Addr) (ns : List Int), ns.length ≤ n → (∀ p ∈ cs, H p.2 = some (.tbl #[])) → SqL K H a (ns.map V.int) → sp [.ref a] H (fun v _ => v = .bl true) fun _ _ _ => False) ∧
    ∀ base : Heap, K.In base → base.Ns mainGlobals mg → (∀ p ∈ cs, LamX.TabB base mg p.1 p.2) → FnG l.prog w K mg base CX0 k fa fd [x] sp
theorem walk_ofTabsG {l : PySem.W.OpenLaw} {n k : Nat} {q : Program} {loose : List Str} {XP : (Str → Option Value) → Heap → Prop} {YP : World → Heap → Prop} {d : DefRec} {K : Params → PySem.W.Frag} {x : Str} (names : List Str)
    (hn : l.most = some n) (hn2 : n ≤ sizeLine) (hdf : d.params.defaults = []) (hr : Room k callerA) (hrec : (names.all fun z => (recsOf q).any fun e => e.name == z) = true) (hY : ∀ (w : World) (h : Heap), YP w h → (K w.params).In h)
    (F : ∀ (w : World) (mg : Str → Option Value) (fa : Addr) (h : Heap), YP w h → (K w.params).In h → h.Ns mainGlobals mg → mg d.name = some (.ref fa) → (∀ z ∈ names, ∀ f, mg z = some (.ref f) → LamX.OwnTab (K w.params) f h) → LawAtG l w (K w.params) k n x mg fa h) :
    PySem.W.WalkO q loose XP YP l.row.toRowW d [] (fun f vs => PySem.call f vs) := by
  refine Att.attach_callB hn hdf fun w s₀ s₁ mg mb fa o pm cd doc a vs ns G Y ho hd hcd hmg hobj hints hlen hbits hg => ?_
  have KX := hY w _ Y
  have own : ∀ z ∈ names, ∀ f, mg z = some (.ref f) → LamX.OwnTab (K w.params) f s₁.heap := fun z hz f hf c P o1 fd1 e dd vs1 sl k1 k2 k3 k4 k5 => by
    obtain ⟨dL, hm, hn1⟩ := List.any_eq_true.mp (List.all_eq_true.mp hrec z hz)
    have hn2 : dL.name = z := beq_iff_eq.mp hn1
    obtain ⟨a', o', fd', c', P', h1, h2, h3, h4, h5, h6⟩ := G.T.tab dL hm
    rw [hn2, hf] at h1
    cases h1
    have g1 := KX _ _ k1
    rw [g1] at h2
    cases h2
    rw [k2] at h3
    cases h3
    rw [k3] at h4
    cases h4
    obtain ⟨⟨oc, vc, e1, _, e3, e4⟩, hP⟩ := h6
    have g2 := KX _ _ k4
    rw [g2] at e1
    cases e1
    cases e3
    rw [k5] at e4
    cases e4
    exact hP
  obtain ⟨fd, cs, sp, hT, nT, C, hb, hsp, hF⟩ := F w mg fa _ Y KX G.T.g hmg own
  exact law_callTG KX G.T.g G.T.b G.T.builtins G.T.nolimit hg hT nT C G.T.bmain hobj hints (Nat.le_trans hlen hn2) hr (fun base a b c _ => hF base a b c) hb (fun H hH hS => hsp H a ns hlen hH hS)
/-- the same, and the dict of modules stands, too -/
def LawAtH (l : PySem.W.OpenLaw) (w : World) (K : PySem.W.Frag) (k n : Nat) (x : Str) (mg : Str → Option Value) (fa : Addr) (h : Heap) : Prop :=
  ∃ (fd : FuncData) (cs : List (Addr × Addr)) (sp : Sp), (∀ p ∈ cs, h.get? p.2 = some { cls := .none, data := .fields #[] }) ∧ (∀ p ∈ cs, K.lookup p.2 = none) ∧ (∀ p ∈ cs, PySem.W.CodeHd h p.1 p.2) ∧ (∀ (s : Shared) (u : Value), BindsTo s fd ⟨[u], []⟩ [(x, u)]) ∧
    (∀ (H : Hp) (a : Addr) (ns : List Int), ns.length ≤ n → (∀ p ∈ cs, H p.2 = some (.tbl #[])) → SqL K H a (ns.map V.int) → sp [.ref a] H (fun v _ => v = .bl true) fun _ _ _ => False) ∧
    ∀ base : Heap, K.In base → base.Ns mainGlobals mg → (∀ p ∈ cs, LamX.TabB base mg p.1 p.2) → (∃ m, base.Ns sysModules m) → FnG l.prog w K mg base CX0 k fa fd [x] sp
theorem walk_ofTabsH {l : PySem.W.OpenLaw} {n k : Nat} {q : Program} {loose : List Str} {XP : (Str → Option Value) → Heap → Prop} {YP : World → Heap → Prop} {d : DefRec} {K : Params → PySem.W.Frag} {x : Str} (names : List Str)
    (hn : l.most = some n) (hn2 : n ≤ sizeLine) (hdf : d.params.defaults = []) (hr : Room k callerA) (hrec : (names.all fun z => (recsOf q).any fun e => e.name == z) = true) (him : importsNone q = true) (hY : ∀ (w : World) (h : Heap), YP w h → (K w.params).In h)
    (F : ∀ (w : World) (mg : Str → Option Value) (fa : Addr) (h : Heap), YP w h → (K w.params).In h → h.Ns mainGlobals mg → mg d.name = some (.ref fa) → (∀ z ∈ names, ∀ f, mg z = some (.ref f) → LamX.OwnTab (K w.params) f h) → LawAtH l w (K w.params) k n x mg fa h) :
    PySem.W.WalkO q loose XP YP l.row.toRowW d [] (fun f vs => PySem.call f vs) := by
  refine Att.attach_callB hn hdf fun w s₀ s₁ mg mb fa o pm cd doc a vs ns G Y ho hd hcd hmg hobj hints hlen hbits hg => ?_
  have KX := hY w _ Y
  have own : ∀ z ∈ names, ∀ f, mg z = some (.ref f) → LamX.OwnTab (K w.params) f s₁.heap := fun z hz f hf c P o1 fd1 e dd vs1 sl k1 k2 k3 k4 k5 => by
    obtain ⟨dL, hm, hn1⟩ := List.any_eq_true.mp (List.all_eq_true.mp hrec z hz)
    have hn2 : dL.name = z := beq_iff_eq.mp hn1
    obtain ⟨a', o', fd', c', P', h1, h2, h3, h4, h5, h6⟩ := G.T.tab dL hm
    rw [hn2, hf] at h1
    cases h1
    have g1 := KX _ _ k1
    rw [g1] at h2
    cases h2
    rw [k2] at h3
    cases h3
    rw [k3] at h4
    cases h4
    obtain ⟨⟨oc, vc, e1, _, e3, e4⟩, hP⟩ := h6
    have g2 := KX _ _ k4
    rw [g2] at e1
    cases e1
    cases e3
    rw [k5] at e4
    cases e4
    exact hP
  obtain ⟨fd, cs, sp, hT, nT, C, hb, hsp, hF⟩ := F w mg fa _ Y KX G.T.g hmg own
  exact law_callTG KX G.T.g G.T.b G.T.builtins G.T.nolimit hg hT nT C G.T.bmain hobj hints (Nat.le_trans hlen hn2) hr (fun base a b c e => hF base a b c (by obtain ⟨m, hm, _⟩ := (G.T.seer him).mods; exact ⟨m, e _ _ hm⟩)) hb (fun H hH hS => hsp H a ns hlen hH hS)
end KB

/-! B38: a lambda handed to a def: all but the one table stays as it is. -/
namespace KB
open PySem PySem.Spec PyProof.Rows L2
/-- all but what stands at P -/
def ButP (P : Addr) (H H' : Hp) : Prop := ∀ b o, b ≠ P → H b = some o → H' b = some o
theorem ButP.refl {P : Addr} (H : Hp) : ButP P H H := fun _ _ _ e => e
section
variable {X : Cx} {pins : List (Addr × Obj)} {σ : L2.St} {H : Hp} {s : Shared}
/-- a lambda is made, its code laid down in the table at P or found there -/
theorem lam_makeP {c P : Addr} {q : Str} {pa : Arguments} {bd : Expr} {sco : Scope} {po : Pos} {F : Value → Shared → Prop} {R : Value → Shared → Prop} (J : Inv X pins σ H s) (B : LamX.TabB X.base X.mg c P) (cde : X.env.code = .ref c) (eq : X.env.qual ++ "<lambda>" = q)
    (tab : LamX.TabS H P q) (nodef : defaultsOf pa X.env = ([], [])) (clo : ∀ y ∈ sco.names, y.2 = .free → ∃ c, X.env.cells.lookup y.1 = some c)
    (go : ∀ (f d : Addr) (pm ct : Value) (G : Hp) (s' : Shared), Inv X pins σ G s' → ButP P H G → LamX.TabS G P q →
      s'.heap.get? f = some (PySem.W.kla_obj "<lambda>" (X.env.qual ++ "<lambda>") pa bd sco (cloFrom X.env.cells sco.names []) pm d ct) → G f = none → f ∉ frs X.stack → G d = some (LamX.CodeO d q) → R (.ref f) s') :
    wpAny (model X.prog X.w) X.A (eval (.Lambda pa bd sco po) X.env) R F s := by
  subst eq
  obtain ⟨ps, hP, tri, among⟩ := tab
  have keepsB : s.heap.BuiltinsAt X.mg P := B.bm.keeps J.bk
  have keepsC := B.code.keeps J.bk
  have keepsG := J.mod.glob.keeps J.bk
  have stands : s.heap.get? P = some { cls := .none, data := .fields ps } := J.hok P _ hP
  have below : P < s.heap.objs.size := Heap.lt_size stands
  have noframe : ∀ f, s.heap.objs.size ≤ f → f ∉ frs X.stack := fun f hf z => by
    rcases List.mem_cons.mp (J.stkSub _ z) with e | e
    · have h1 := J.lt
      rw [← e] at h1
      exact absurd (Nat.lt_of_lt_of_le h1 hf) (Nat.lt_irrefl _)
    · exact J.nofs hf e
  refine PySem.W.kla_eval nodef ?_
  cases at_ : codeAmong po ps.toList with
  | some cv =>
    obtain ⟨d, rfl, hd⟩ := among po cv at_
    refine PySem.W.kla_makeFunctionHit (mg := X.mg) (c := c) (P := P) (ps := ps) (closure_ok clo) J.ok.glob keepsG cde keepsC stands tri at_ keepsB fun ct h2 tk ext more => ?_
    have J2 := J.kept (h' := h2.push (PySem.W.kla_obj "<lambda>" (X.env.qual ++ "<lambda>") pa bd sco (cloFrom X.env.cells sco.names []) ((X.mg "__name__").getD .none) d ct)) (t' := tk) fun b o e => Heap.get?_push_of_some _ (ext b o e)
    exact go _ d _ ct H _ J2 (ButP.refl H) ⟨ps, hP, tri, among⟩ (Heap.get?_push_size _ rfl) (J.hok.fresh more) (noframe _ more) hd
  | none =>
    refine PySem.W.kla_makeFunction (mg := X.mg) (c := c) (P := P) (ps := ps) (closure_ok clo) J.ok.glob keepsG cde keepsC stands tri at_ B.gP keepsB fun d ct h2 tk ext above lower record table => ?_
    obtain ⟨d2, oc, us, t, e2, got, isF, nm⟩ := record
    cases e2
    have sizes : s.heap.objs.size ≤ h2.objs.size := Nat.le_trans above (Nat.le_of_lt lower)
    have fresh : H d = none := J.hok.fresh above
    have J2 := LamX.inv_table (t' := tk) (more := #[rawInt po.line, rawInt po.col, .ref d]) (h' := h2.push (PySem.W.kla_obj "<lambda>" (X.env.qual ++ "<lambda>") pa bd sco (cloFrom X.env.cells sco.names []) ((X.mg "__name__").getD .none) d ct)) J hP
      (fun b o hb e => Heap.get?_push_of_some _ (ext b o hb e)) (Heap.get?_push_of_some _ table) above ⟨oc, us, t, Heap.get?_push_of_some _ got, isF, nm⟩
    have all : ButP P H (upd (upd H P (.tbl (ps ++ #[rawInt po.line, rawInt po.col, .ref d]))) d (LamX.CodeO d (X.env.qual ++ "<lambda>"))) := fun b o n e => (upd_ne (ne_of_none e fresh)).trans ((upd_ne n).trans e)
    have lst : (ps ++ #[rawInt po.line, rawInt po.col, .ref d]).toList = ps.toList ++ [rawInt po.line, rawInt po.col, .ref d] := by simp
    refine go _ d _ ct _ _ J2 all ⟨_, (upd_ne (ne_of_none hP fresh)).trans upd_same, by rw [lst]; exact PySem.TriplesOk_snoc _ _ _ _ tri, fun p' cv hcv => ?_⟩ (Heap.get?_push_size _ rfl) ?_ (noframe _ sizes) upd_same
    · rw [lst] at hcv
      rcases LamX.among_app _ tri hcv with z | z
      · obtain ⟨c0, e1, hc0⟩ := among p' cv z
        have nP : c0 ≠ P := fun z => by rw [z, hP] at hc0; exact LamX.codeO_ne ps (Option.some.inj hc0).symm
        exact ⟨c0, e1, all c0 _ nP hc0⟩
      · exact ⟨d, z, upd_same⟩
    · exact (upd_ne (Nat.ne_of_gt lower)).trans ((upd_ne (Nat.ne_of_gt (Nat.lt_of_lt_of_le below sizes))).trans (J.hok.fresh sizes))
/-- x(lambda: body), where all but the lambda's own table stays -/
def tLamP (P : Addr) (q : Str) (TT : (XK → Hp → VK → Prop) → Hp → VK → Prop) (t : XK → TE) : TE := fun σ H Q => LamX.TabS H P q ∧ ∀ H1, ButP P H H1 → LamX.TabS H1 P q → TT (fun E H' Q' => t E σ H' Q') H1 Q
theorem pe_lamP {TT : (XK → Hp → VK → Prop) → Hp → VK → Prop} {x a : Str} {g c P : Addr} {k : Nat} {pg : Arguments} {bg : List Stmt} {sg : Scope} {dV kV doc pm cdv ct oc : Value} {an od : Option Addr} {osl : Array (Option Value)} {Ng : List Str}
    {pa : Arguments} {bd : Expr} {sco : Scope} {t : XK → TE} {p lpos po : Pos} {q : Str} (known : Gl X x) (there : X.mg x = some (.ref g)) (kept : PySem.W.keepIn X.K (.ref g) = true)
    (look : X.K.lookup g = some ⟨oc, od, .func (PySem.W.fnOf x x pg bg sg dV kV doc pm an cdv ct), osl⟩) (cdg : PySem.W.codeIn X.K cdv x = true) (bnd : L2.Binds X.K (PySem.W.fnOf x x pg bg sg dV kV doc pm an cdv ct) [a] []) (Sg : FnScope Ng [a] sg) (first : Ng[0]? = some a) (vis : Vis sg a)
    (gives : LamX.GivesTo X Ng x sg g cdv bg a (X.env.qual ++ "<lambda>") TT) (eq : X.env.qual ++ "<lambda>" = q)
    (B : LamX.TabB X.base X.mg c P) (cde : X.env.code = .ref c) (room : Room (k + 2) X.A) (L : LamX.LamS X.env.scope sco) (nodef : defaultsOf pa X.env = ([], []))
    (none : ∀ (q : Str) (cl : List (Str × Addr)) (pm cv ctv : Value), bindArgs (PySem.W.kla_fn "<lambda>" q pa bd sco cl pm cv ctv) ⟨[], []⟩ = pure [])
    (inner : ∀ (A : Around) (outer : List Env) (s : Shared) (H : Hp) (E : XK) (f c' : Addr), Room k (A.deeper (LamX.lamEnv X sco s.heap.objs.size f c')) → PE (LamX.lamCx X A outer s H E sco f c') bd (t E))
    (n1 : (x == ("__debug__" : Str)) = false := by decide) (n2 : (a == ("__debug__" : Str)) = false := by decide) (n3 : (a == ("__classdict__" : Str)) = false := by decide) :
    PE X (.Call (.Name x p) [.Lambda pa bd sco lpos] [] po) (tLamP P q TT t) := by
  subst eq
  refine ⟨fun pins s σ H Q J ⟨tab, h⟩ => ?_⟩
  refine wpAny_Call_Name_kw (ld_glob J known there (PySem.W.callWith_K (h₀ := X.base) J.ok.mod.kin kept ?_ (by rfl) (by rfl)) n1)
  show wpAny _ _ (spliced ((false, eval (.Lambda pa bd sco lpos) X.env) :: backTo po (starEach [] X.env))) _ _ s
  refine Calls.spliced_cons (lam_makeP J B cde rfl tab nodef (L.has J.ok) fun f d pm' ctv H1 s' J1 but T1 at_ none_ far code => Calls.spliced_nil ⟨J1.kIn, ?_⟩)
  refine wpAny_call (codeAny_mono (LamX.run_ofS (N := Ng) (ps := [a]) (us := [.ref f]) (vs := [.ref f]) (CX := C8.CX0) (E := C8.E0) (Q := Q) (H := H1) look cdg Sg room J1.env0 (bnd s' [.ref f] J1.kIn rfl) (.cons rfl .nil) rfl fun room' => ?_) fun r s2 hq => ?_)
  · obtain ⟨u, hu, hq⟩ := gives f d s' H1 Q (fun E H' Q' => t E σ H' Q') (fun W pn xe E p1 p2 tk hW => LamX.pe_act (i := 0) J1 L at_ none_ far (none _ _ _ _ _) tk hW room' (fun A outer s H hr2 => inner A outer s H E f d hr2) first vis n2 n3) code (h H1 but T1)
    exact ⟨u, hu.nox, hq⟩
  · cases r with
    | error e => exact (show False from hq).elim
    | ok fl =>
      cases fl with
      | ret u => exact J1.after hq
      | next => exact hq.elim
      | brk => exact hq.elim
      | cont => exact hq.elim
end
end KB

/-! B39: repr of things in which lists stand beside an empty dict: a list that is made here is not the dict of modules. -/
namespace KB
open PySem PySem.Spec PyProof.Rows L2
/-- a list display whose list is not the dict of modules -/
def tLstN (t : TA) : TE := fun σ H Q => t σ H fun xs H1 => xs.length ≤ sizeLine ∧ ∀ p, H1 p = none → p ≠ sysModules → Q (.ref p) (upd H1 p (.lst xs))
theorem pe_lstN {X : Cx} {es : List Expr} {t : TA} {pos : Pos} (h : PA X es t) : PE X (.List es pos) (tLstN t) := by
  refine ⟨fun pins s σ H Q J hq => ?_⟩
  refine wpAny_List_spliced (thn (h.run pos pins s σ H _ J hq) fun us s1 ⟨xs, H1, J1, rv, z, q⟩ => ⟨by rw [← rv.length]; exact z, ?_⟩)
  have far : s1.heap.objs.size ≠ sysModules := Nat.ne_of_gt J1.big
  refine ⟨.ref s1.heap.objs.size, _, J1.laid (o := .lst xs) (t' := s1.toks) (fun b u e => Heap.get?_push_of_some _ e) (Nat.le_refl _) ?_, rfl, q _ (J1.hok.fresh (Nat.le_refl _)) far⟩
  exact ⟨z, us, 0, rv, Heap.get?_push_size _ rfl⟩
mutual
inductive Far (K : PySem.W.Frag) (H : Hp) : PyData → V → Prop
  | plain {d v} : noL d = true → Dq K H v d → Far K H d v
  | lst {a xs ds} : a ≠ sysModules → SqL K H a xs → FarAll K H ds xs → Far K H (.list ds) (.ref a)
  | tup {a xs ds} : SqT K H a xs → FarAll K H ds xs → Far K H (.tuple ds) (.ref a)
inductive FarAll (K : PySem.W.Frag) (H : Hp) : List PyData → List V → Prop
  | nil : FarAll K H [] []
  | cons {d ds v vs} : Far K H d v → FarAll K H ds vs → FarAll K H (d :: ds) (v :: vs)
end
mutual
theorem Far.reads {X : Cx} {pins : List (Addr × Obj)} {σ : L2.St} {H : Hp} {s : Shared} (I : L2.Inv X pins σ H s) : ∀ {d : PyData} {v : V} {u : Value}, Far X.K H d v → L2.RelV v u → ∃ as, Reads s.heap u d as ∧ sysModules ∉ as
  | _, _, _, .plain n h, r => by
    obtain ⟨as, ra, z⟩ := Dq.reads I h r
    exact ⟨as, ra, z n⟩
  | _, _, _, .lst na h hs, r => by
    cases r
    obtain ⟨its, rv, pl, _⟩ := I.list h
    obtain ⟨o, e1, e2, n, e3⟩ := PlainL.isList pl
    obtain ⟨as, ra, z⟩ := FarAll.reads I hs rv
    exact ⟨_, .list e1 e2 e3 (by simpa using ra), by
      intro m
      rcases List.mem_cons.mp m with m | m
      · exact na m.symm
      · exact z m⟩
  | _, _, _, .tup h hs, r => by
    cases r
    obtain ⟨its, rv, it, _⟩ := I.tuple h
    obtain ⟨o, e1, e2, n, e3⟩ := it
    obtain ⟨as, ra, z⟩ := FarAll.reads I hs rv
    exact ⟨_, .tuple e1 e2 e3 (by simpa using ra), z⟩
theorem FarAll.reads {X : Cx} {pins : List (Addr × Obj)} {σ : L2.St} {H : Hp} {s : Shared} (I : L2.Inv X pins σ H s) : ∀ {ds : List PyData} {vs : List V} {us : List Value}, FarAll X.K H ds vs → Vals vs us → ∃ as, ReadsAll s.heap us ds as ∧ sysModules ∉ as
  | _, _, _, .nil, r => by cases r; exact ⟨[], .nil, List.not_mem_nil⟩
  | _, _, _, .cons h hs, r => by
    cases r with
    | cons r1 r2 =>
      obtain ⟨as, ra, za⟩ := Far.reads I h r1
      obtain ⟨bs, rb, zb⟩ := FarAll.reads I hs r2
      refine ⟨_, .cons ra rb, fun m => ?_⟩
      rcases List.mem_append.mp m with m | m
      · exact za m
      · exact zb m
end
/-- repr of a tuple in which no list is the dict of modules -/
def rReprN (K : PySem.W.Frag) : List V → Hp → VK → Prop := fun xs H Q => ∃ a d, xs = [.ref a] ∧ Far K H d (.ref a) ∧ d.showable = true ∧ d.depth ≤ 190 ∧ d.shown.length ≤ sizeLine ∧ Q (.str d.shown) H
theorem call_reprN {X : Cx} (hg : X.A.guards = some []) (hu : X.A.units + 200 < cLine) : CallR X (.builtin "repr") (rReprN X.K) := by
  rintro pins s σ H xs us Q I r ⟨a, d, rfl, hd, hsh, hdp, hlen, q⟩
  cases r with
  | cons rx rr =>
    cases rr
    obtain ⟨as, ra, hs⟩ := Far.reads I hd rx
    cases rx
    exact repr_of_reads' ra hsh (fun _ => hs) hg (by omega) (fun _ _ e => e) (fun h' u tk k => ⟨.str _, H, I.kept k, ⟨_, rfl⟩, q⟩) hlen
end KB

/-! B40: rests of powers: what numbers share no part with a divisor, reckoned as the program does; powers that come again; math.isqrt. -/
namespace KB
open PySem PySem.Spec PyProof.Rows L2
section
variable {X : Cx}
theorem ip_of {op : Operator} {t : TIp} (h : OpR X (inplaceOp op) t) : PIp X op t := fun pins s σ H x y v u Q I rx ry hh => h pins s σ H x y v u Q I rx ry hh
def tNo : TE := fun _ _ _ => False
theorem pe_never {e : Expr} : PE X e tNo := ⟨fun _ _ _ _ _ _ h => h.elim⟩
def rIsq : List V → Hp → VK → Prop := fun vs H Q => ∃ n : Nat, vs = [.int n] ∧ n < 2 ^ 64 ∧ Q (.int ((Float64.isqrt n : Nat) : Int)) H
theorem cr_isqrt : CallR X (.builtin "math.isqrt") rIsq := by
  rintro pins s σ H vs us Q I r ⟨n, rfl, hn, q⟩
  cases r with
  | cons r1 r2 =>
    cases r2
    obtain ⟨t, rfl⟩ := r1
    exact PySem.W.mg_isqrt (by omega) (by omega) ⟨.int _, H, I.tok _, ⟨_, rfl⟩, q⟩
end
/-! ## a divisor without its parts, as the program does it -/
def wo : Nat → Nat → Nat → Nat
  | 0, n, _ => n
  | k + 1, n, p => if n % p = 0 then wo k (n / p) p else n
def tr : Nat → Nat → Nat → Nat → Nat × Nat
  | 0, _, f, l => (f, l)
  | k + 1, p, f, l => if l % p = 0 then (if p * p > wo 64 l p then (f - f / p, wo 64 l p) else tr k (p + 2) (f - f / p) (wo 64 l p)) else tr k (p + 2) f l
def phi0 (n : Nat) : Nat × Nat := if n % 2 = 0 then (n - n / 2, wo 64 n 2) else (n, n)
def phi1 (n : Nat) : Nat × Nat := tr ((min (Float64.isqrt (phi0 n).2) 1000 - 1) / 2) 3 (phi0 n).1 (phi0 n).2
def phiE (x : Nat × Nat) : Nat := if x.2 = 1 then x.1 else x.1 - x.1 / x.2
/-- how many numbers share no part with a divisor, as the program reckons it -/
def phi (n : Nat) : Nat := phiE (phi1 n)
theorem wo_le : ∀ (k n p : Nat), wo k n p ≤ n
  | 0, n, _ => Nat.le_refl _
  | k + 1, n, p => by
    unfold wo
    split
    · exact Nat.le_trans (wo_le k _ p) (Nat.div_le_self _ _)
    · exact Nat.le_refl _
theorem wo_pos : ∀ (k n p : Nat), 1 ≤ n → 1 ≤ wo k n p
  | 0, n, _, h => h
  | k + 1, n, p, h => by
    unfold wo
    split
    · rename_i c
      refine wo_pos k _ p ?_
      have h1 := Nat.div_add_mod n p
      rw [c, Nat.add_zero] at h1
      rcases Nat.eq_zero_or_pos (n / p) with z | z
      · rw [z, Nat.mul_zero] at h1; omega
      · exact z
    · exact h
/-- all powers by a divisor come again with this step, at the latest from it on -/
def Eul (m f : Nat) : Prop := 1 ≤ f ∧ ∀ b : Nat, b ^ f * b ^ f % m = b ^ f % m
theorem mul_mod_l (a b m : Nat) : a % m * b % m = a * b % m := by rw [Nat.mul_mod, Nat.mod_mod, ← Nat.mul_mod]
theorem mul_mod_r (a b m : Nat) : a * (b % m) % m = a * b % m := by rw [Nat.mul_mod, Nat.mod_mod, ← Nat.mul_mod]
theorem Eul.many {m f : Nat} (h : Eul m f) (b : Nat) : ∀ q, 1 ≤ q → b ^ (f * q) % m = b ^ f % m
  | 0, z => by omega
  | 1, _ => by rw [Nat.mul_one]
  | q + 2, _ => by
    have ih := Eul.many h b (q + 1) (by omega)
    have e : f * (q + 2) = f * (q + 1) + f := by rw [Nat.mul_succ]
    rw [e, Nat.pow_add, ← mul_mod_l, ih, mul_mod_l, h.2 b]
theorem Eul.red {m f : Nat} (h : Eul m f) (b e : Nat) (he : f ≤ e) : b ^ e % m = b ^ (e % f + f) % m := by
  have d := Nat.div_add_mod e f
  have q1 : 1 ≤ e / f := Nat.div_pos he h.1
  have k := h.many b (e / f) q1
  calc b ^ e % m = b ^ (f * (e / f) + e % f) % m := by rw [d]
    _ = b ^ (f * (e / f)) * b ^ (e % f) % m := by rw [Nat.pow_add]
    _ = b ^ (f * (e / f)) % m * b ^ (e % f) % m := (mul_mod_l _ _ _).symm
    _ = b ^ f % m * b ^ (e % f) % m := by rw [k]
    _ = b ^ f * b ^ (e % f) % m := mul_mod_l _ _ _
    _ = b ^ (e % f + f) % m := by rw [Nat.pow_add, Nat.mul_comm]
/-- what is known of all divisors up to a bound -/
def DivOk (B : Nat) : Prop := ∀ m, 2 ≤ m → m ≤ B → phi m < m ∧ Eul m (phi m)
def small1 (m : Nat) : Bool := decide (m < 2) || (decide (phi m < m) && decide (1 ≤ phi m) && (List.range m).all fun b => decide (b ^ phi m * b ^ phi m % m = b ^ phi m % m))
theorem small_all : (List.range 61).all small1 = true := by decide +kernel
theorem divOk60 : DivOk 60 := fun m h2 h60 => by
  have h := List.all_eq_true.mp small_all m (List.mem_range.mpr (by omega))
  unfold small1 at h
  rw [decide_eq_false (by omega), Bool.false_or, Bool.and_eq_true, Bool.and_eq_true] at h
  refine ⟨of_decide_eq_true h.1.1, of_decide_eq_true h.1.2, fun b => ?_⟩
  have k := of_decide_eq_true (List.all_eq_true.mp h.2 (b % m) (List.mem_range.mpr (Nat.mod_lt _ (by omega))))
  have e : ∀ f, (b % m) ^ f % m = b ^ f % m := fun f => (Nat.pow_mod b f m).symm
  rw [Nat.mul_mod, e, ← Nat.mul_mod] at k
  exact k
/-! ## the number of worths, however great -/
namespace Kd
def tn (s : Nat → Nat) : Kd → Nat
  | b i => s i
  | u => 1
  | p x y => x.tn s * y.tn s
  | f x y => y.tn s ^ x.tn s
theorem tn_pos {s : Nat → Nat} (hs : ∀ i, 1 ≤ s i) : ∀ k : Kd, 1 ≤ k.tn s
  | b i => hs i
  | u => Nat.le_refl _
  | p x y => Nat.mul_pos (tn_pos hs x) (tn_pos hs y)
  | f x y => Nat.pow_pos (tn_pos hs y)
theorem min_mul {a b T : Nat} (ha : 1 ≤ a) (hb : 1 ≤ b) : min (min a T * min b T) T = min (a * b) T := by
  by_cases c : a ≤ T
  · by_cases d : b ≤ T
    · rw [Nat.min_eq_left c, Nat.min_eq_left d]
    · have h1 : 1 * b ≤ a * b := Nat.mul_le_mul ha (Nat.le_refl _)
      have h2 : 1 * T ≤ min a T * T := by rw [Nat.min_eq_left c]; exact Nat.mul_le_mul ha (Nat.le_refl _)
      rw [Nat.min_eq_right (by omega : T ≤ b), Nat.min_eq_right (by omega), Nat.min_eq_right (by omega)]
  · have h1 : a * 1 ≤ a * b := Nat.mul_le_mul (Nat.le_refl _) hb
    rw [Nat.min_eq_right (by omega : T ≤ a)]
    by_cases z : T = 0
    · rw [z, Nat.min_zero, Nat.min_zero]
    · have h2 : T * 1 ≤ T * min b T := Nat.mul_le_mul (Nat.le_refl _) (by omega)
      rw [Nat.min_eq_right (by omega), Nat.min_eq_right (by omega)]
theorem min_pow {a b T : Nat} (ha : 1 ≤ a) (hb : 1 ≤ b) (hT : 1 ≤ T) : min (min b T ^ min a T) T = min (b ^ a) T := by
  by_cases b1 : b = 1
  · have e : min 1 T = 1 := Nat.min_eq_left hT
    rw [b1, e, Nat.one_pow, Nat.one_pow]
  · have b2 : 2 ≤ b := by omega
    by_cases c : a ≤ T
    · rw [Nat.min_eq_left c]
      by_cases d : b ≤ T
      · rw [Nat.min_eq_left d]
      · have h1 : T ^ 1 ≤ T ^ a := Nat.pow_le_pow_right hT ha
        have h2 : b ^ 1 ≤ b ^ a := Nat.pow_le_pow_right (by omega) ha
        rw [Nat.pow_one] at h1 h2
        rw [Nat.min_eq_right (by omega : T ≤ b), Nat.min_eq_right h1, Nat.min_eq_right (by omega)]
    · have h0 : T < 2 ^ T := Nat.lt_two_pow_self
      have h2 : 2 ^ a ≤ b ^ a := Nat.pow_le_pow_left b2 a
      have h3 : 2 ^ T ≤ 2 ^ a := Nat.pow_le_pow_right (by decide) (by omega)
      rw [Nat.min_eq_right (by omega : T ≤ a), Nat.min_eq_right (by omega : T ≤ b ^ a)]
      by_cases t1 : T = 1
      · rw [t1, Nat.min_eq_right (by omega : 1 ≤ b)]; rfl
      · have h1 : 2 ^ T ≤ min b T ^ T := Nat.pow_le_pow_left (by omega) T
        rw [Nat.min_eq_right (by omega)]
theorem num_tn {s : Nat → Nat} (hs : ∀ i, 1 ≤ s i ∧ s i ≤ 999) : ∀ k : Kd, k.num s = min (k.tn s) tooGreat
  | b i => by
    have h : 999 ≤ tooGreat := by decide +kernel
    show s i = min (s i) tooGreat
    rw [Nat.min_eq_left (Nat.le_trans (hs i).2 h)]
  | u => (Nat.min_eq_left tooGreat_pos).symm
  | p x y => by
    show min (x.num s * y.num s) tooGreat = min (x.tn s * y.tn s) tooGreat
    rw [num_tn hs x, num_tn hs y]
    exact min_mul (tn_pos (fun i => (hs i).1) x) (tn_pos (fun i => (hs i).1) y)
  | f x y => by
    show pw (y.num s) (x.num s) = min (y.tn s ^ x.tn s) tooGreat
    unfold pw
    rw [num_tn hs x, num_tn hs y]
    exact min_pow (tn_pos (fun i => (hs i).1) x) (tn_pos (fun i => (hs i).1) y) tooGreat_pos
end Kd
theorem ixLi {K : PySem.W.Frag} {W : World} {a : Addr} {xs : List V} {j : Nat} {x : V} {H : Hp} {Q : VK} (hT : SqL K H a xs) (hj : xs[j]? = some x) (q : Q x H) : rIxB K W (.ref a) (.int (j : Nat)) H Q := .inl (.inl ⟨a, xs, (j : Int), x, rfl, rfl, hT, atI_nat hj, q⟩)
end KB

/-! B41: repr of any data, where the dict of modules is known to stand: a list is not that dict. -/
namespace KB
open PySem PySem.Spec PyProof.Rows L2
theorem not_mods {X : Cx} {pins : List (Addr × Obj)} {σ : L2.St} {H : Hp} {s : Shared} (I : L2.Inv X pins σ H s) (hM : ∃ m, X.base.Ns sysModules m) {a : Addr} {o : Obj} (e : s.heap.get? a = some o) (d : ∀ es ep, o.data ≠ .dict es ep) : a ≠ sysModules := fun z => by
  obtain ⟨m, o', es, ep, e1, r⟩ := hM
  have e2 := I.bk _ _ e1
  rw [z, e2] at e
  cases e
  exact d _ _ r.1
mutual
theorem Dq.readsM {X : Cx} {pins : List (Addr × Obj)} {σ : L2.St} {H : Hp} {s : Shared} (I : L2.Inv X pins σ H s) (hM : ∃ m, X.base.Ns sysModules m) : ∀ {d : PyData} {v : V} {u : Value}, Dq X.K H v d → L2.RelV v u → ∃ as, Reads s.heap u d as ∧ sysModules ∉ as
  | _, _, _, .non, r => by cases r; exact ⟨[], .none, List.not_mem_nil⟩
  | _, _, _, .bl b, r => by cases r; exact ⟨[], .bool b, List.not_mem_nil⟩
  | _, _, _, .int i, r => by obtain ⟨t, rfl⟩ := r; exact ⟨[], .int i t, List.not_mem_nil⟩
  | _, _, _, .str x, r => by obtain ⟨t, rfl⟩ := r; exact ⟨[], .str x t, List.not_mem_nil⟩
  | _, _, _, .lst h hs, r => by
    cases r
    obtain ⟨its, rv, pl, _⟩ := I.list h
    obtain ⟨o, e1, e2, n, e3⟩ := PlainL.isList pl
    obtain ⟨as, ra, z⟩ := DqAll.readsM I hM hs rv
    have far := not_mods I hM e1 fun es ep q => by rw [e3] at q; cases q
    refine ⟨_, .list e1 e2 e3 (by simpa using ra), fun m => ?_⟩
    rcases List.mem_cons.mp m with m | m
    · exact far m.symm
    · exact z m
  | _, _, _, .tup h hs, r => by
    cases r
    obtain ⟨its, rv, it, _⟩ := I.tuple h
    obtain ⟨o, e1, e2, n, e3⟩ := it
    obtain ⟨as, ra, z⟩ := DqAll.readsM I hM hs rv
    exact ⟨_, .tuple e1 e2 e3 (by simpa using ra), z⟩
  | _, _, _, .dct h, r => by
    cases r
    obtain ⟨ne, o, n, e1, e2, e3⟩ := emptyDict I h
    refine ⟨_, .dict e1 e2 e3 .nil .nil, ?_⟩
    simp only [List.append_nil, List.mem_singleton]
    intro z
    rw [← z] at ne
    simp at ne
theorem DqAll.readsM {X : Cx} {pins : List (Addr × Obj)} {σ : L2.St} {H : Hp} {s : Shared} (I : L2.Inv X pins σ H s) (hM : ∃ m, X.base.Ns sysModules m) : ∀ {ds : List PyData} {vs : List V} {us : List Value}, DqAll X.K H vs ds → Vals vs us → ∃ as, ReadsAll s.heap us ds as ∧ sysModules ∉ as
  | _, _, _, .nil, r => by cases r; exact ⟨[], .nil, List.not_mem_nil⟩
  | _, _, _, .cons h hs, r => by
    cases r with
    | cons r1 r2 =>
      obtain ⟨as, ra, za⟩ := Dq.readsM I hM h r1
      obtain ⟨bs, rb, zb⟩ := DqAll.readsM I hM hs r2
      refine ⟨_, .cons ra rb, fun m => ?_⟩
      rcases List.mem_append.mp m with m | m
      · exact za m
      · exact zb m
end
/-- repr of any data -/
def rReprM (K : PySem.W.Frag) : List V → Hp → VK → Prop := fun xs H Q => ∃ x d, xs = [x] ∧ Dq K H x d ∧ d.showable = true ∧ d.depth ≤ 190 ∧ d.shown.length ≤ sizeLine ∧ Q (.str d.shown) H
theorem call_reprM {X : Cx} (hg : X.A.guards = some []) (hu : X.A.units + 200 < cLine) (hM : ∃ m, X.base.Ns sysModules m) : CallR X (.builtin "repr") (rReprM X.K) := by
  rintro pins s σ H xs us Q I r ⟨x, d, rfl, hd, hsh, hdp, hlen, q⟩
  cases r with
  | cons rx rr =>
    cases rr
    rename_i u
    obtain ⟨as, ra, hs⟩ := Dq.readsM I hM hd rx
    by_cases c : d.hasDict = true
    · have isRef : ∃ a, u = Value.ref a := by
        cases hd <;> first | (cases rx; exact ⟨_, rfl⟩) | (simp [PyData.hasDict] at c)
      obtain ⟨a, rfl⟩ := isRef
      exact repr_of_reads' ra hsh (fun _ => hs) hg (by omega) (fun _ _ e => e) (fun h' u tk k => ⟨.str _, H, I.kept k, ⟨_, rfl⟩, q⟩) hlen
    · exact call_reprD hg hu pins s σ H _ _ Q I (.cons rx .nil) ⟨_, _, rfl, hd, hsh, fun z => absurd z c, hdp, hlen, q⟩
end KB

/-! B42: how many worths, by the form. -/
namespace KB
open PySem PySem.Spec PyProof.Rows L2
namespace Fc
mutual
def tn (s : Nat → Nat) : Fc → Nat
  | mk ws n => s n ^ tns s ws
def tns (s : Nat → Nat) : List Fc → Nat
  | [] => 1
  | f :: r => tn s f * tns s r
end
theorem tns_app (s : Nat → Nat) : ∀ a b : List Fc, tns s (a ++ b) = tns s a * tns s b
  | [], b => by rw [List.nil_append, tns, Nat.one_mul]
  | f :: r, b => by rw [List.cons_append, tns, tns, tns_app s r b, Nat.mul_assoc]
theorem tns_perm (s : Nat → Nat) {a b : List Fc} (p : a.Perm b) : tns s a = tns s b := by
  induction p with
  | nil => rfl
  | cons x _ ih => rw [tns, tns, ih]
  | swap x y l => rw [tns, tns, tns, tns, Nat.mul_left_comm]
  | trans _ _ h1 h2 => exact h1.trans h2
theorem tns_srt (s : Nat → Nat) (l : List Fc) : tns s (srt l) = tns s l := tns_perm s (srt_perm l)
theorem tn_add (s : Nat → Nat) (V : List Fc) : ∀ f : Fc, tn s (add V f) = tn s f ^ tns s V
  | mk ws n => by
    rw [add, tn, tn, tns_srt, tns_app, ← Nat.pow_mul, Nat.mul_comm]
theorem tns_addL (s : Nat → Nat) (V : List Fc) : ∀ l : List Fc, tns s (l.map (add V)) = tns s l ^ tns s V
  | [] => by rw [List.map_nil, tns, Nat.one_pow]
  | f :: r => by rw [List.map_cons, tns, tns, tn_add, tns_addL s V r, Nat.mul_pow]
end Fc
theorem Kd.tn_form_eq (s : Nat → Nat) : ∀ k : Kd, k.tn s = Fc.tns s k.form
  | .b i => by rw [Kd.form_b, Fc.tns, Fc.tns, Fc.tn, Fc.tns, Nat.pow_one, Nat.mul_one]; rfl
  | .u => by rw [Kd.form_u, Fc.tns]; rfl
  | .p x y => by
    rw [Kd.form_p, Fc.tns_srt, Fc.tns_app, ← Kd.tn_form_eq s x, ← Kd.tn_form_eq s y]; rfl
  | .f x y => by
    rw [Kd.form_f, Fc.tns_srt, Fc.tns_addL, ← Kd.tn_form_eq s x, ← Kd.tn_form_eq s y]; rfl
/-- alike kinds have as many worths -/
theorem Kd.tn_form {a b : Kd} (h : a.form = b.form) (s : Nat → Nat) : a.tn s = b.tn s := by rw [Kd.tn_form_eq, Kd.tn_form_eq, h]
end KB

/-! B43: powers come again by the number of what shares no part: for all divisors up to a million, as the program reckons it. -/
namespace KB
open PySem
namespace Nt
/-! ## products -/
def lp : List Nat → Nat
  | [] => 1
  | a :: r => a * lp r
theorem lp_app : ∀ a b : List Nat, lp (a ++ b) = lp a * lp b
  | [], b => by rw [List.nil_append, lp, Nat.one_mul]
  | x :: r, b => by rw [List.cons_append, lp, lp, lp_app r b, Nat.mul_assoc]
theorem lp_perm {a b : List Nat} (p : a.Perm b) : lp a = lp b := by
  induction p with
  | nil => rfl
  | cons x _ ih => rw [lp, lp, ih]
  | swap x y l => rw [lp, lp, lp, lp, Nat.mul_left_comm]
  | trans _ _ h1 h2 => exact h1.trans h2
def pr (f : Nat → Nat) : Nat → Nat
  | 0 => 1
  | n + 1 => pr f n * f n
theorem lp_range (f : Nat → Nat) : ∀ n, lp ((List.range n).map f) = pr f n
  | 0 => rfl
  | n + 1 => by
    rw [List.range_succ, List.map_append, lp_app, lp_range f n]
    show pr f n * (f n * 1) = pr f n * f n
    rw [Nat.mul_one]
/-! ## pigeons -/
theorem len_le : ∀ (l D : List Nat), l.Nodup → (∀ x ∈ l, x ∈ D) → l.length ≤ D.length
  | [], _, _, _ => Nat.zero_le _
  | x :: l, D, hn, hs => by
    have h := List.nodup_cons.mp hn
    have ih := len_le l (D.erase x) h.2 fun y hy => (List.mem_erase_of_ne (fun (e : y = x) => h.1 (e ▸ hy))).mpr (hs y (List.mem_cons_of_mem _ hy))
    have hx : x ∈ D := hs x List.mem_cons_self
    have e := List.length_erase_of_mem hx
    have := List.length_pos_of_mem hx
    rw [List.length_cons]; omega
theorem nodup_map {f : Nat → Nat} : ∀ {l : List Nat}, l.Nodup → (∀ i ∈ l, ∀ j ∈ l, f i = f j → i = j) → (l.map f).Nodup
  | [], _, _ => List.nodup_nil
  | x :: r, hn, hi => by
    have h := List.nodup_cons.mp hn
    refine List.nodup_cons.mpr ⟨fun hm => ?_, nodup_map h.2 fun i a j b e => hi i (List.mem_cons_of_mem _ a) j (List.mem_cons_of_mem _ b) e⟩
    obtain ⟨y, hy, e⟩ := List.mem_map.mp hm
    have := hi y (List.mem_cons_of_mem _ hy) x List.mem_cons_self e
    exact h.1 (this ▸ hy)
theorem perm_of : ∀ {l D : List Nat}, l.Nodup → D.Nodup → (∀ x ∈ l, x ∈ D) → D.length ≤ l.length → l.Perm D
  | [], D, _, _, _, h => by
    have e : D = [] := List.length_eq_zero_iff.mp (Nat.le_zero.mp h)
    rw [e]
  | x :: l, D, hn, hD, hs, hl => by
    have h := List.nodup_cons.mp hn
    have hx : x ∈ D := hs x List.mem_cons_self
    have e := List.length_erase_of_mem hx
    have ih := perm_of (l := l) (D := D.erase x) h.2 (hD.erase x) (fun y hy => (List.mem_erase_of_ne (fun (e : y = x) => h.1 (e ▸ hy))).mpr (hs y (List.mem_cons_of_mem _ hy))) (by rw [List.length_cons] at hl; omega)
    exact (ih.cons x).trans (List.perm_cons_erase hx).symm
/-! ## primes -/
def Pm (p : Nat) : Prop := 2 ≤ p ∧ ∀ d, d ∣ p → d = 1 ∨ d = p
theorem Pm.cop {p b : Nat} (hp : Pm p) (h : ¬ p ∣ b) : Nat.Coprime p b := by
  rcases hp.2 (Nat.gcd p b) (Nat.gcd_dvd_left p b) with e | e
  · exact e
  · exact absurd (e ▸ Nat.gcd_dvd_right p b) h
theorem Pm.dvd_mul {p a b : Nat} (hp : Pm p) (h : p ∣ a * b) : p ∣ a ∨ p ∣ b := by
  by_cases c : p ∣ a
  · exact .inl c
  · exact .inr ((hp.cop c).dvd_of_dvd_mul_left h)
/-- rests are the same -/
theorem dvd_of_mod {a b m : Nat} (h : a % m = b % m) (hl : b ≤ a) : m ∣ a - b := Nat.dvd_of_mod_eq_zero (Nat.sub_mod_eq_zero_of_mod_eq h)
theorem mod_of_dvd {a b m : Nat} (h : m ∣ a - b) (hl : b ≤ a) : a % m = b % m := by
  obtain ⟨t, e⟩ := h
  have e2 : a = b + m * t := by omega
  rw [e2, Nat.add_mul_mod_self_left]
theorem dvd_rel {a b m : Nat} (h : a % m = b % m) (hm : m ∣ b) : m ∣ a := Nat.dvd_of_mod_eq_zero (by rw [h]; exact Nat.mod_eq_zero_of_dvd hm)
theorem pr_mod {f g : Nat → Nat} {m : Nat} (h : ∀ i, f i % m = g i % m) : ∀ n, pr f n % m = pr g n % m
  | 0 => rfl
  | n + 1 => by
    show pr f n * f n % m = pr g n * g n % m
    rw [Nat.mul_mod, pr_mod h n, h n, ← Nat.mul_mod]
theorem pr_const (b : Nat) (f : Nat → Nat) : ∀ n, pr (fun i => b * f i) n = b ^ n * pr f n
  | 0 => by rw [pr, pr, Nat.pow_zero]
  | n + 1 => by
    rw [pr, pr, pr_const b f n, Nat.pow_succ]
    rw [Nat.mul_assoc, Nat.mul_assoc, Nat.mul_left_comm (pr f n)]
theorem Pm.fact {p : Nat} (hp : Pm p) : ∀ n, n < p → ¬ p ∣ pr (fun i => i + 1) n
  | 0, _, h => by
    have h1 : p ∣ 1 := h
    have := Nat.le_of_dvd (by decide) h1
    have := hp.1
    omega
  | n + 1, hn, h => by
    rcases hp.dvd_mul h with h | h
    · exact fact hp n (by omega) h
    · have h1 : p ∣ n + 1 := h
      have := Nat.le_of_dvd (by omega) h1
      omega
/-- Fermat -/
theorem Pm.fermat {p b : Nat} (hp : Pm p) (hb : ¬ p ∣ b) : b ^ (p - 1) % p = 1 % p := by
  have p2 := hp.1
  have nz : ∀ i, i < p - 1 → b * (i + 1) % p ≠ 0 := fun i hi z => by
    rcases hp.dvd_mul (Nat.dvd_of_mod_eq_zero z) with h | h
    · exact hb h
    · have := Nat.le_of_dvd (by omega) h
      omega
  have pm : ((List.range (p - 1)).map fun i => b * (i + 1) % p - 1).Perm (List.range (p - 1)) := by
    refine perm_of (nodup_map List.nodup_range fun i hi j hj e => ?_) List.nodup_range (fun x hx => ?_) (by rw [List.length_map]; exact Nat.le_refl _)
    · have hi := List.mem_range.mp hi
      have hj := List.mem_range.mp hj
      have ni := nz i hi
      have nj := nz j hj
      have e2 : b * (i + 1) % p = b * (j + 1) % p := by omega
      have key : ∀ i j, i ≤ j → j < p - 1 → b * (i + 1) % p = b * (j + 1) % p → i = j := fun i j hij hj e => by
        have hle : b * (i + 1) ≤ b * (j + 1) := Nat.mul_le_mul (Nat.le_refl _) (by omega)
        have d := dvd_of_mod e.symm hle
        rw [← Nat.mul_sub] at d
        rcases hp.dvd_mul d with h | h
        · exact absurd h hb
        · by_cases z : j + 1 - (i + 1) = 0
          · omega
          · have := Nat.le_of_dvd (by omega) h
            omega
      rcases Nat.le_total i j with h | h
      · exact key i j h hj e2
      · exact (key j i h hi e2.symm).symm
    · obtain ⟨i, hi, rfl⟩ := List.mem_map.mp hx
      have := Nat.mod_lt (b * (i + 1)) (by omega : 0 < p)
      have := nz i (List.mem_range.mp hi)
      exact List.mem_range.mpr (by omega)
  have pm2 := pm.map (fun x => x + 1)
  have e1 := lp_perm pm2
  rw [List.map_map, lp_range, lp_range] at e1
  have e2 : pr ((fun x => x + 1) ∘ fun i => b * (i + 1) % p - 1) (p - 1) % p = pr (fun i => b * (i + 1)) (p - 1) % p := by
    have : ∀ n, n ≤ p - 1 → pr ((fun x => x + 1) ∘ fun i => b * (i + 1) % p - 1) n % p = pr (fun i => b * (i + 1)) n % p := fun n => by
      induction n with
      | zero => intro _; rfl
      | succ n ih =>
        intro hn
        have ih := ih (by omega)
        have z := nz n (by omega)
        have e : (b * (n + 1) % p - 1) + 1 = b * (n + 1) % p := by omega
        show pr _ n * ((b * (n + 1) % p - 1) + 1) % p = pr _ n * (b * (n + 1)) % p
        rw [e, Nat.mul_mod, ih, Nat.mod_mod, ← Nat.mul_mod]
    exact this _ (Nat.le_refl _)
  rw [e1, pr_const] at e2
  have hF := hp.fact (p - 1) (by omega)
  generalize pr (fun i => i + 1) (p - 1) = F at e2 hF
  have b1 : 1 ≤ b := by
    rcases Nat.eq_zero_or_pos b with z | z
    · exact absurd (z ▸ Nat.dvd_zero p) hb
    · exact z
  have x1 : 1 ≤ b ^ (p - 1) := Nat.pow_pos b1
  have hle : F ≤ b ^ (p - 1) * F := by
    have := Nat.mul_le_mul x1 (Nat.le_refl F)
    omega
  have d := dvd_of_mod e2.symm hle
  have e3 : b ^ (p - 1) * F - F = (b ^ (p - 1) - 1) * F := by rw [Nat.sub_mul, Nat.one_mul]
  rw [e3] at d
  rcases hp.dvd_mul d with h | h
  · exact mod_of_dvd h x1
  · exact absurd h hF
/-! ## powers of a prime -/
def gs (x : Nat) : Nat → Nat
  | 0 => 0
  | n + 1 => gs x n + x ^ n
theorem gs_eq {x : Nat} (h : 1 ≤ x) : ∀ n, (x - 1) * gs x n + 1 = x ^ n
  | 0 => by rw [gs, Nat.mul_zero, Nat.pow_zero]
  | n + 1 => by
    have ih := gs_eq h n
    obtain ⟨y, rfl⟩ : ∃ y, x = y + 1 := ⟨x - 1, by omega⟩
    have e : y + 1 - 1 = y := by omega
    rw [e] at ih ⊢
    rw [gs, Nat.mul_add, Nat.pow_succ, Nat.mul_add, Nat.mul_one, Nat.mul_comm ((y + 1) ^ n) y]
    omega
theorem gs_mod {x p : Nat} (h : x % p = 1 % p) : ∀ n, gs x n % p = n % p
  | 0 => rfl
  | n + 1 => by
    rw [gs, Nat.add_mod, gs_mod h n, Nat.pow_mod, h, ← Nat.pow_mod, Nat.one_pow, ← Nat.add_mod]
theorem lift {p x j : Nat} (hx : 1 ≤ x) (hj : 1 ≤ j) (h : p ^ j ∣ x - 1) : p ^ (j + 1) ∣ x ^ p - 1 := by
  have hp : p ∣ x - 1 := Nat.dvd_trans (by obtain ⟨i, rfl⟩ : ∃ i, j = i + 1 := ⟨j - 1, by omega⟩; exact ⟨p ^ i, by rw [Nat.pow_succ, Nat.mul_comm]⟩) h
  have e := gs_eq hx p
  have g : p ∣ gs x p := dvd_rel (gs_mod (mod_of_dvd hp hx) p) (Nat.dvd_refl p)
  have e2 : x ^ p - 1 = (x - 1) * gs x p := by omega
  rw [e2, Nat.pow_succ]
  exact Nat.mul_dvd_mul h g
theorem Pm.unit {p b : Nat} (hp : Pm p) (hb : ¬ p ∣ b) : ∀ k, p ^ (k + 1) ∣ b ^ (p ^ k * (p - 1)) - 1 := by
  have b1 : 1 ≤ b := by
    rcases Nat.eq_zero_or_pos b with z | z
    · exact absurd (z ▸ Nat.dvd_zero p) hb
    · exact z
  intro k
  induction k with
  | zero =>
    rw [Nat.pow_zero, Nat.one_mul, Nat.zero_add, Nat.pow_one]
    exact dvd_of_mod (hp.fermat hb) (Nat.pow_pos b1)
  | succ k ih =>
    have e : p ^ (k + 1) * (p - 1) = p ^ k * (p - 1) * p := by rw [Nat.pow_succ, Nat.mul_assoc, Nat.mul_assoc, Nat.mul_comm p]
    rw [e, Nat.pow_mul]
    exact lift (Nat.pow_pos b1) (by omega) ih
theorem le_pow (p : Nat) (hp : 2 ≤ p) : ∀ k, k + 1 ≤ p ^ k
  | 0 => Nat.le_refl _
  | k + 1 => by
    have ih := le_pow p hp k
    have h : p ^ k * 2 ≤ p ^ k * p := Nat.mul_le_mul (Nat.le_refl _) hp
    rw [Nat.pow_succ]; omega
theorem Pm.eul {p : Nat} (hp : Pm p) (k : Nat) : Eul (p ^ (k + 1)) (p ^ k * (p - 1)) := by
  have p2 := hp.1
  have pk : 1 ≤ p ^ k := Nat.pow_pos (by omega)
  have f1 : p ^ k * 1 ≤ p ^ k * (p - 1) := Nat.mul_le_mul (Nat.le_refl _) (by omega)
  refine ⟨by omega, fun b => ?_⟩
  by_cases hb : p ∣ b
  · have hk := le_pow p p2 k
    have d : p ^ (k + 1) ∣ b ^ (p ^ k * (p - 1)) := by
      obtain ⟨c, rfl⟩ := hb
      rw [Nat.mul_pow]
      exact Nat.dvd_trans (Nat.pow_dvd_pow p (by omega)) (Nat.dvd_mul_right _ _)
    rw [Nat.mod_eq_zero_of_dvd d, Nat.mod_eq_zero_of_dvd (Nat.dvd_trans d (Nat.dvd_mul_right _ _))]
  · have h := hp.unit hb k
    have x1 : 1 ≤ b ^ (p ^ k * (p - 1)) := by
      refine Nat.pow_pos ?_
      rcases Nat.eq_zero_or_pos b with z | z
      · exact absurd (z ▸ Nat.dvd_zero p) hb
      · exact z
    have e := mod_of_dvd h x1
    rw [Nat.mul_mod, e, ← Nat.mul_mod, Nat.one_mul]
/-! ## products of divisors -/
theorem eul_times {m f t : Nat} (h : Eul m f) (ht : 1 ≤ t) : Eul m (f * t) := by
  refine ⟨Nat.mul_pos h.1 ht, fun b => ?_⟩
  rw [← Nat.pow_add, ← Nat.mul_add, h.many b (t + t) (by omega), h.many b t ht]
theorem eul_one : Eul 1 1 := ⟨Nat.le_refl _, fun b => by rw [Nat.mod_one, Nat.mod_one]⟩
theorem le_sq (x : Nat) : x ≤ x * x := by
  rcases Nat.eq_zero_or_pos x with z | z
  · rw [z]; exact Nat.zero_le _
  · have := Nat.mul_le_mul z (Nat.le_refl x)
    omega
theorem eul_mul {m n f g : Nat} (c : Nat.Coprime m n) (h1 : Eul m f) (h2 : Eul n g) : Eul (m * n) (f * g) := by
  have a := eul_times h1 h2.1
  have b := eul_times h2 h1.1
  rw [Nat.mul_comm g f] at b
  refine ⟨a.1, fun x => ?_⟩
  have d1 := dvd_of_mod (a.2 x) (le_sq _)
  have d2 := dvd_of_mod (b.2 x) (le_sq _)
  exact mod_of_dvd (Nat.Coprime.mul_dvd_of_dvd_of_dvd c d1 d2) (le_sq _)
/-! ## a prime taken out -/
theorem wo_is {p : Nat} (hp : 2 ≤ p) : ∀ (k n : Nat), 1 ≤ n → n < 2 ^ k → ∃ j, n = p ^ j * wo k n p ∧ ¬ p ∣ wo k n p
  | 0, n, h1, h2 => by rw [Nat.pow_zero] at h2; omega
  | k + 1, n, h1, h2 => by
    by_cases c : n % p = 0
    · have e : wo (k + 1) n p = wo k (n / p) p := if_pos c
      have dm := Nat.div_add_mod n p
      rw [c, Nat.add_zero] at dm
      have n1 : 1 ≤ n / p := by
        rcases Nat.eq_zero_or_pos (n / p) with z | z
        · rw [z, Nat.mul_zero] at dm; omega
        · exact z
      have h3 : 2 * (n / p) ≤ p * (n / p) := Nat.mul_le_mul hp (Nat.le_refl _)
      rw [Nat.pow_succ] at h2
      obtain ⟨j, ej, nj⟩ := wo_is hp k (n / p) n1 (by omega)
      rw [e]
      refine ⟨j + 1, ?_, nj⟩
      rw [Nat.pow_succ, Nat.mul_comm (p ^ j) p, Nat.mul_assoc, ← ej, dm]
    · have e : wo (k + 1) n p = n := if_neg c
      rw [e]
      exact ⟨0, by rw [Nat.pow_zero, Nat.one_mul], fun d => c (Nat.mod_eq_zero_of_dvd d)⟩
/-- what is done, and what is left -/
structure St (n f l : Nat) : Prop where
  ex : ∃ m g, n = m * l ∧ Nat.Coprime m l ∧ f = g * l ∧ Eul m g ∧ g ≤ m ∧ (m ≠ 1 → g < m)
  l1 : 1 ≤ l
theorem St.step {n f l p : Nat} (h : St n f l) (hp : Pm p) (d : p ∣ l) (hl : l < 2 ^ 64) : St n (f - f / p) (wo 64 l p) ∧ ¬ p ∣ wo 64 l p ∧ wo 64 l p ∣ l := by
  obtain ⟨m, g, en, cp, ef, eu, gm, gs⟩ := h.ex
  have l1 := h.l1
  have p2 := hp.1
  obtain ⟨j, ej, nj⟩ := wo_is p2 64 l l1 hl
  have w1 := wo_pos 64 l p l1
  generalize wo 64 l p = l' at ej nj w1 ⊢
  obtain ⟨i, rfl⟩ : ∃ i, j = i + 1 := by
    cases j with
    | zero => rw [Nat.pow_zero, Nat.one_mul] at ej; exact absurd (ej ▸ d) nj
    | succ i => exact ⟨i, rfl⟩
  have c2 : Nat.Coprime (p ^ (i + 1)) l' := Nat.Coprime.pow_left _ (hp.cop nj)
  have cm : Nat.Coprime m (p ^ (i + 1) * l') := ej ▸ cp
  have c3 : Nat.Coprime m (p ^ (i + 1)) := Nat.Coprime.coprime_mul_right_right cm
  have c4 : Nat.Coprime m l' := Nat.Coprime.coprime_mul_left_right cm
  refine ⟨⟨⟨m * p ^ (i + 1), g * (p ^ i * (p - 1)), ?_, Nat.Coprime.mul_left c4 c2, ?_, eul_mul c3 eu (hp.eul i), ?_, ?_⟩, w1⟩, nj, ⟨p ^ (i + 1), by rw [Nat.mul_comm]; exact ej⟩⟩
  · rw [en, ej, Nat.mul_assoc]
  · have e1 : f = p * (g * p ^ i * l') := by
      rw [ef, ej, Nat.pow_succ]
      rw [Nat.mul_comm (p ^ i) p, Nat.mul_assoc p, Nat.mul_left_comm g p, Nat.mul_assoc g]
    have e2 : f / p = g * p ^ i * l' := by rw [e1]; exact Nat.mul_div_cancel_left _ (by omega)
    rw [e2]
    have e3 : f - g * p ^ i * l' = (p - 1) * (g * p ^ i * l') := by rw [e1, Nat.sub_mul, Nat.one_mul]
    rw [e3, ← Nat.mul_assoc g, Nat.mul_comm (g * p ^ i) (p - 1), Nat.mul_assoc (p - 1)]
  · have h1 : p ^ i * (p - 1) ≤ p ^ (i + 1) := by rw [Nat.pow_succ]; exact Nat.mul_le_mul (Nat.le_refl _) (by omega)
    exact Nat.mul_le_mul gm h1
  · intro _
    have pi : 1 ≤ p ^ i := Nat.pow_pos (by omega)
    have h1 : p ^ i * (p - 1) < p ^ (i + 1) := by
      rw [Nat.pow_succ]
      exact Nat.mul_lt_mul_of_pos_left (by omega) pi
    have m1 : 1 ≤ m := Nat.le_trans eu.1 gm
    exact Nat.lt_of_le_of_lt (Nat.mul_le_mul gm (Nat.le_refl _)) (Nat.mul_lt_mul_of_pos_left h1 m1)
/-- nothing below divides -/
def NoDiv (b l : Nat) : Prop := ∀ d, 2 ≤ d → d < b → ¬ d ∣ l
theorem NoDiv.prime {b l : Nat} (h : NoDiv b l) (l1 : 1 ≤ l) (hb : l < b * b) : l = 1 ∨ Pm l := by
  by_cases c : l = 1
  · exact .inl c
  · refine .inr ⟨by omega, fun d hd => ?_⟩
    obtain ⟨e, he⟩ := hd
    by_cases d1 : d = 1
    · exact .inl d1
    · right
      have d0 : d ≠ 0 := fun z => by rw [z, Nat.zero_mul] at he; omega
      have e0 : e ≠ 0 := fun z => by rw [z, Nat.mul_zero] at he; omega
      by_cases e1 : e = 1
      · rw [he, e1, Nat.mul_one]
      · exfalso
        by_cases x : d < b
        · exact h d (by omega) x ⟨e, he⟩
        · by_cases y : e < b
          · exact h e (by omega) y ⟨d, by rw [he, Nat.mul_comm]⟩
          · have := Nat.mul_le_mul (Nat.le_of_not_lt x) (Nat.le_of_not_lt y)
            omega
theorem tr_ok {n : Nat} : ∀ (k p f l : Nat), St n f l → l < 2 ^ 64 → 3 ≤ p → p % 2 = 1 → NoDiv p l → l < (p + 2 * k) * (p + 2 * k) → St n (tr k p f l).1 (tr k p f l).2 ∧ ((tr k p f l).2 = 1 ∨ Pm (tr k p f l).2)
  | 0, p, f, l, h, _, _, _, nd, hb => ⟨h, nd.prime h.l1 hb⟩
  | k + 1, p, f, l, h, hl, p3, po, nd, hb => by
    have eb : p + 2 * (k + 1) = p + 2 + 2 * k := by omega
    rw [eb] at hb
    have odd : ¬ 2 ∣ l := nd 2 (Nat.le_refl _) (by omega)
    have up : ∀ l', l' ∣ l → ¬ p ∣ l' → NoDiv (p + 2) l' := fun l' hd np d d2 dp hdd => by
      by_cases a : d < p
      · exact nd d d2 a (Nat.dvd_trans hdd hd)
      · by_cases b : d = p
        · exact np (b ▸ hdd)
        · have ed : d = p + 1 := by omega
          exact odd (Nat.dvd_trans (Nat.dvd_of_mod_eq_zero (by omega : (p + 1) % 2 = 0)) (Nat.dvd_trans (ed ▸ hdd) hd))
    by_cases c : l % p = 0
    · have pd : p ∣ l := Nat.dvd_of_mod_eq_zero c
      have pp : Pm p := ⟨by omega, fun d hd => by
        by_cases d1 : d = 1
        · exact .inl d1
        · right
          have dle := Nat.le_of_dvd (by omega) hd
          have d0 : d ≠ 0 := fun z => by rw [z] at hd; have := Nat.eq_zero_of_zero_dvd hd; omega
          by_cases x : d < p
          · exact absurd (Nat.dvd_trans hd pd) (nd d (by omega) x)
          · omega⟩
      obtain ⟨s, np, dv⟩ := h.step pp pd hl
      have wl := wo_le 64 l p
      by_cases x : p * p > wo 64 l p
      · have e : tr (k + 1) p f l = (f - f / p, wo 64 l p) := (if_pos c).trans (if_pos x)
        rw [e]
        exact ⟨s, NoDiv.prime (b := p) (fun d d2 dp hdd => nd d d2 dp (Nat.dvd_trans hdd dv)) s.l1 x⟩
      · have e : tr (k + 1) p f l = tr k (p + 2) (f - f / p) (wo 64 l p) := (if_pos c).trans (if_neg x)
        rw [e]
        exact tr_ok k (p + 2) _ _ s (by omega) (by omega) (by omega) (up _ dv np) (by omega)
    · have e : tr (k + 1) p f l = tr k (p + 2) f l := if_neg c
      rw [e]
      exact tr_ok k (p + 2) _ _ h hl (by omega) (by omega) (up l (Nat.dvd_refl _) fun d => c (Nat.mod_eq_zero_of_dvd d)) hb
/-! ## roots -/
theorem mean {n x s : Nat} (hx : 0 < x) (hs : s * s ≤ n) : s ≤ (x + n / x) / 2 := by
  refine (Nat.le_div_iff_mul_le (by decide)).mpr ?_
  have z := Nat.zero_le (n / x)
  by_cases c : 2 * s ≤ x
  · omega
  · have h : 2 * s - x ≤ n / x := by
      refine (Nat.le_div_iff_mul_le hx).mpr (Nat.le_trans ?_ hs)
      rcases Nat.le_total s x with h | h
      · obtain ⟨d, rfl⟩ : ∃ d, x = s + d := ⟨x - s, by omega⟩
        have e : 2 * s - (s + d) = s - d := by omega
        rw [e]
        have hd : d ≤ s := by omega
        obtain ⟨t, rfl⟩ : ∃ t, s = t + d := ⟨s - d, by omega⟩
        have e2 : t + d - d = t := by omega
        rw [e2]
        have h1 : t * (t + d + d) = t * t + t * d + t * d := by rw [Nat.mul_add, Nat.mul_add]
        have h2 : (t + d) * (t + d) = t * t + t * d + (t * d + d * d) := by rw [Nat.mul_add, Nat.add_mul, Nat.add_mul, Nat.mul_comm d t]
        rw [h1, h2]; omega
      · obtain ⟨d, rfl⟩ : ∃ d, s = x + d := ⟨s - x, by omega⟩
        have e : 2 * (x + d) - x = x + d + d := by omega
        rw [e]
        have h1 : (x + d + d) * x = x * x + x * d + x * d := by rw [Nat.add_mul, Nat.add_mul, Nat.mul_comm d x]
        have h2 : (x + d) * (x + d) = x * x + x * d + (x * d + d * d) := by rw [Nat.mul_add, Nat.add_mul, Nat.add_mul, Nat.mul_comm d x]
        rw [h1, h2]; omega
    omega
theorem below8 {n s : Nat} (h : n < 8) (hs : s * s ≤ n) : s ≤ Float64.rootBelow8 n := by
  have s3 : s < 3 := by
    by_cases c : s < 3
    · exact c
    · have := Nat.mul_le_mul (Nat.le_of_not_lt c) (Nat.le_of_not_lt c); omega
  unfold Float64.rootBelow8
  have hs0 : s = 0 ∨ s = 1 ∨ s = 2 := by omega
  rcases hs0 with rfl | rfl | rfl
  · exact Nat.zero_le _
  · by_cases a : n = 0
    · omega
    · rw [if_neg (by simpa using a)]
      split <;> omega
  · rw [if_neg (by simp; omega), if_neg (by omega)]
    exact Nat.le_refl _
theorem step_ge {n s y : Nat} (m : s ≤ y) (hs : s * s ≤ n) : s ≤ if y * y > n then y - 1 else y := by
  split
  · rename_i c
    by_cases e : s = y
    · rw [← e] at c; omega
    · omega
  · exact m
theorem root_ge {s : Nat} : ∀ (k n : Nat), n < 2 ^ (k + 1) → s * s ≤ n → s ≤ Float64.rootByHalves k n
  | 0, n, h, hs => below8 (by rw [Nat.zero_add, Nat.pow_one] at h; omega) hs
  | k + 1, n, _, hs => by
    unfold Float64.rootByHalves
    split
    · rename_i c; exact below8 c hs
    · have hx : 0 < (Float64.rootByHalves k (n / 4 ^ ((n.log2 + 1) / 4)) + 1) * 2 ^ ((n.log2 + 1) / 4) := Nat.mul_pos (by omega) (Nat.pow_pos (by decide))
      have m := mean hx hs
      exact step_ge m hs
theorem isqrt_ge {n s : Nat} (hs : s * s ≤ n) : s ≤ Float64.isqrt n := root_ge _ n Nat.lt_log2_self hs
/-- all divisors up to a million -/
theorem divOkM : DivOk 1000000 := fun n h2 hM => by
  have s0 : St n (phi0 n).1 (phi0 n).2 ∧ ¬ 2 ∣ (phi0 n).2 ∧ (phi0 n).2 ≤ n := by
    have base : St n n n := ⟨⟨1, 1, by rw [Nat.one_mul], Nat.coprime_one_left n, by rw [Nat.one_mul], eul_one, Nat.le_refl _, fun z => absurd rfl z⟩, by omega⟩
    unfold phi0
    split
    · rename_i c
      have two : Pm 2 := by
        refine ⟨Nat.le_refl _, fun d hd => ?_⟩
        have := Nat.le_of_dvd (by decide) hd
        have d0 : d ≠ 0 := fun z => by
          rw [z] at hd
          have := Nat.eq_zero_of_zero_dvd hd
          omega
        omega
      obtain ⟨a, b, _⟩ := base.step two (Nat.dvd_of_mod_eq_zero c) (by omega)
      exact ⟨a, b, wo_le _ _ _⟩
    · rename_i c
      exact ⟨base, fun d => c (Nat.mod_eq_zero_of_dvd d), Nat.le_refl _⟩
  obtain ⟨s0, odd, le⟩ := s0
  have lim : (phi0 n).2 < (3 + 2 * ((min (Float64.isqrt (phi0 n).2) 1000 - 1) / 2)) * (3 + 2 * ((min (Float64.isqrt (phi0 n).2) 1000 - 1) / 2)) := by
    generalize hq : 3 + 2 * ((min (Float64.isqrt (phi0 n).2) 1000 - 1) / 2) = q
    have q1 : min (Float64.isqrt (phi0 n).2) 1000 + 1 ≤ q := by omega
    refine Nat.lt_of_not_le fun h => ?_
    have h1 := isqrt_ge h
    by_cases c : Float64.isqrt (phi0 n).2 ≤ 1000
    · omega
    · have h3 := Nat.mul_le_mul (by omega : 1001 ≤ q) (by omega : 1001 ≤ q)
      omega
  have nd3 : NoDiv 3 (phi0 n).2 := fun d d2 d3 => by
    have e : d = 2 := by omega
    rw [e]; exact odd
  have t := tr_ok (n := n) ((min (Float64.isqrt (phi0 n).2) 1000 - 1) / 2) 3 (phi0 n).1 (phi0 n).2 s0 (by omega) (Nat.le_refl _) rfl nd3 lim
  have ep : tr ((min (Float64.isqrt (phi0 n).2) 1000 - 1) / 2) 3 (phi0 n).1 (phi0 n).2 = phi1 n := rfl
  rw [ep] at t
  obtain ⟨s1, pm⟩ := t
  obtain ⟨m, g, en, cp, ef, eu, gm, gs⟩ := s1.ex
  unfold phi phiE
  by_cases c : (phi1 n).2 = 1
  · rw [if_pos c]
    rw [c, Nat.mul_one] at en ef
    rw [ef]
    have nm : m ≠ 1 := by omega
    exact ⟨by have := gs nm; omega, by rw [en]; exact eu⟩
  · rw [if_neg c]
    have pm := pm.resolve_left c
    have l2 := pm.1
    generalize (phi1 n).2 = l at *
    have e1 : (phi1 n).1 / l = g := by rw [ef]; exact Nat.mul_div_cancel _ (by omega)
    have e2 : (phi1 n).1 - (phi1 n).1 / l = g * (l - 1) := by rw [e1, ef, Nat.mul_sub, Nat.mul_one]
    rw [e2]
    have eu2 := eul_mul cp eu (by have := pm.eul 0; rw [Nat.zero_add, Nat.pow_one, Nat.pow_zero, Nat.one_mul] at this; exact this)
    refine ⟨?_, by rw [en]; exact eu2⟩
    have m1 : 1 ≤ m := Nat.le_trans eu.1 gm
    rw [en]
    exact Nat.lt_of_le_of_lt (Nat.mul_le_mul gm (Nat.le_refl _)) (Nat.mul_lt_mul_of_pos_left (by omega) m1)
end Nt
end KB

/-! B44: primes and parts of divisors up to 10 ** 9, as the program looks for them. -/
namespace KB
open PySem
namespace Nt
theorem isqrt_le (n : Nat) : Float64.isqrt n * Float64.isqrt n ≤ n := (Float64.isqrt_spec n).1
theorem isqrt_lt (n : Nat) : n < (Float64.isqrt n + 1) * (Float64.isqrt n + 1) := (Float64.isqrt_spec n).2
theorem lt_of_sq {a b : Nat} (h : a * a < b * b) : a < b := by
  by_cases c : a < b
  · exact c
  · have := Nat.mul_le_mul (Nat.le_of_not_lt c) (Nat.le_of_not_lt c)
    omega
theorem isqrt_sq (f : Nat) : Float64.isqrt (f * f) = f := by
  have h1 := isqrt_ge (n := f * f) (s := f) (Nat.le_refl _)
  have h2 : Float64.isqrt (f * f) ≤ f := by
    by_cases c : Float64.isqrt (f * f) ≤ f
    · exact c
    · have h := isqrt_le (f * f)
      have := Nat.mul_le_mul (show f + 1 ≤ Float64.isqrt (f * f) by omega) (show f + 1 ≤ Float64.isqrt (f * f) by omega)
      have e : (f + 1) * (f + 1) = f * f + 2 * f + 1 := by rw [Nat.add_mul, Nat.mul_add]; omega
      omega
  omega
/-- by a prime, only one and one less than it are roots of one -/
theorem Pm.root1 {p x : Nat} (hp : Pm p) (hx : x < p) (h : x * x % p = 1) : x = 1 ∨ x = p - 1 := by
  have p2 := hp.1
  have x0 : x ≠ 0 := fun z => by rw [z] at h; simp at h
  obtain ⟨y, rfl⟩ : ∃ y, x = y + 1 := ⟨x - 1, by omega⟩
  have h1 : p ∣ (y + 1) * (y + 1) - 1 := dvd_of_mod (by rw [h, Nat.mod_eq_of_lt (by omega)]) (Nat.mul_pos (by omega) (by omega))
  have e : (y + 1) * (y + 1) - 1 = y * (y + 2) := by
    have a1 : (y + 1) * (y + 1) = y * y + 2 * y + 1 := by rw [Nat.add_mul, Nat.mul_add]; omega
    have a2 : y * (y + 2) = y * y + y * 2 := Nat.mul_add _ _ _
    omega
  rw [e] at h1
  rcases hp.dvd_mul h1 with d | d
  · left
    by_cases c : y = 0
    · omega
    · have := Nat.le_of_dvd (by omega) d; omega
  · right
    have := Nat.le_of_dvd (by omega) d; omega
theorem comp_split {n : Nat} (h2 : 2 ≤ n) (h : ¬ Pm n) : ∃ p q, n = p * q ∧ 2 ≤ p ∧ p ≤ q := by
  have : ∃ d, d ∣ n ∧ d ≠ 1 ∧ d ≠ n := Classical.byContradiction fun c => h ⟨h2, fun d hd => by
    by_cases a : d = 1
    · exact .inl a
    · by_cases b : d = n
      · exact .inr b
      · exact absurd ⟨d, hd, a, b⟩ c⟩
  obtain ⟨d, ⟨e, rfl⟩, d1, dn⟩ := this
  have d0 : d ≠ 0 := fun z => by rw [z, Nat.zero_mul] at h2; omega
  have e0 : e ≠ 0 := fun z => by rw [z, Nat.mul_zero] at h2; omega
  have e1 : e ≠ 1 := fun z => dn (by rw [z, Nat.mul_one])
  rcases Nat.le_total d e with c | c
  · exact ⟨d, e, rfl, by omega, c⟩
  · exact ⟨e, d, Nat.mul_comm _ _, by omega, c⟩
/-- more pigeons than boxes -/
theorem box {f : Nat → Nat} {B : Nat} (h : ∀ i, i ≤ B → f i < B) : ∃ i j, i < j ∧ j ≤ B ∧ f i = f j := by
  refine Classical.byContradiction fun c => ?_
  have inj : ∀ i ∈ List.range (B + 1), ∀ j ∈ List.range (B + 1), f i = f j → i = j := fun i hi j hj e => by
    have hi := List.mem_range.mp hi
    have hj := List.mem_range.mp hj
    rcases Nat.lt_trichotomy i j with l | l | l
    · exact absurd ⟨i, j, l, by omega, e⟩ c
    · exact l
    · exact absurd ⟨j, i, l, by omega, e.symm⟩ c
  have := len_le ((List.range (B + 1)).map f) (List.range B) (nodup_map List.nodup_range inj) fun x hx => by
    obtain ⟨i, hi, rfl⟩ := List.mem_map.mp hx
    exact List.mem_range.mpr (h i (by have := List.mem_range.mp hi; omega))
  rw [List.length_map, List.length_range, List.length_range] at this
  omega
theorem near {p q w : Nat} (hp : 1 ≤ p) (pq : p ≤ q) (hw : 1 ≤ w) : ∃ v u, 1 ≤ v ∧ 1 ≤ u ∧ v ≤ (p - 1) / w + 1 ∧ v * q < u * p + w ∧ u * p < v * q + w := by
  obtain ⟨i, j, hij, hj, e⟩ := box (f := fun i => i * q % p / w) (B := (p - 1) / w + 1) fun i _ => by
    have h1 : i * q % p ≤ p - 1 := by have := Nat.mod_lt (i * q) (show 0 < p by omega); omega
    have := Nat.div_le_div_right (c := w) h1
    show i * q % p / w < _
    omega
  have e : i * q % p / w = j * q % p / w := e
  obtain ⟨v, rfl⟩ : ∃ v, j = i + v := ⟨j - i, by omega⟩
  have d1 := Nat.div_add_mod (i * q) p
  have d2 := Nat.div_add_mod ((i + v) * q) p
  have m2 := Nat.mod_lt ((i + v) * q) (show 0 < p by omega)
  have mono := Nat.div_le_div_right (c := p) (Nat.mul_le_mul_right q (show i ≤ i + v by omega))
  have b1 := Nat.div_add_mod (i * q % p) w
  have b2 := Nat.div_add_mod ((i + v) * q % p) w
  have c1 := Nat.mod_lt (i * q % p) (show 0 < w by omega)
  have c2 := Nat.mod_lt ((i + v) * q % p) (show 0 < w by omega)
  rw [e] at b1
  have ev : (i + v) * q = i * q + v * q := Nat.add_mul _ _ _
  have v1 : 1 * q ≤ v * q := Nat.mul_le_mul_right q (by omega)
  generalize i * q % p = r1 at *
  generalize (i + v) * q % p = r2 at *
  generalize hA1 : i * q / p = A1 at *
  generalize hA2 : (i + v) * q / p = A2 at *
  generalize w * (r2 / w) = z at *
  obtain ⟨u, rfl⟩ : ∃ u, A2 = A1 + u := ⟨A2 - A1, by omega⟩
  have eu : p * (A1 + u) = p * A1 + p * u := Nat.mul_add _ _ _
  have u1 : 1 ≤ u := by
    by_cases c : u = 0
    · have e0 : p * u = 0 := by rw [c, Nat.mul_zero]
      omega
    · omega
  refine ⟨v, u, by omega, u1, by omega, ?_, ?_⟩
  · rw [Nat.mul_comm u p]; omega
  · rw [Nat.mul_comm u p]; omega
theorem two_sq {x y d : Nat} (h : y = x + d ∨ x = y + d) (hd : (d + 1) * (d + 1) < 4 * y) : (x + y) * (x + y) = 4 * (x * y) + d * d ∧ (x + y - 1) * (x + y - 1) < 4 * (x * y) := by
  have ed : (d + 1) * (d + 1) = d * d + 2 * d + 1 := by rw [Nat.add_mul, Nat.mul_add]; omega
  have key : (x + y) * (x + y) = 4 * (x * y) + d * d := by
    rcases h with rfl | rfl
    · have a1 : x * (x + d) = x * x + x * d := Nat.mul_add _ _ _
      have a2 : (x + (x + d)) * (x + (x + d)) = (x * x + (x * x + x * d)) + (x * x + (x * x + x * d)) + (x * d + (x * d + d * d)) := by
        rw [Nat.add_mul, Nat.mul_add, a1, Nat.add_mul x d, Nat.mul_add, a1, Nat.mul_add d, Nat.mul_add d, Nat.mul_comm d x]; omega
      rw [a1]; omega
    · have a1 : (y + d) * y = y * y + y * d := by rw [Nat.add_mul, Nat.mul_comm d y]
      have a2 : (y + d + y) * (y + d + y) = 4 * (y * y) + 4 * (y * d) + d * d := by
        rw [Nat.add_mul, Nat.add_mul, Nat.mul_add, Nat.mul_add, Nat.mul_add d, Nat.mul_add d, Nat.mul_comm d y]; omega
      rw [a1]; omega
  refine ⟨key, ?_⟩
  obtain ⟨m, hm⟩ : ∃ m, x + y = m + 1 := ⟨x + y - 1, by omega⟩
  rw [hm] at key ⊢
  have em : (m + 1) * (m + 1) = m * m + 2 * m + 1 := by rw [Nat.add_mul, Nat.mul_add]; omega
  have es : m + 1 - 1 = m := by omega
  rw [es]
  omega
theorem k_le {p q u v w : Nat} (hp : 1001 ≤ p) (pq : p ≤ q) (hn : p * q ≤ 1000000000) (w1 : w * w < 4 * q) (w2 : 4 * q ≤ (w + 1) * (w + 1)) (hv : v ≤ (p - 1) / w + 1) (hu : u * p < v * q + w) : u * v ≤ 15000 := by
  have qM : q ≤ 1000000 := by
    by_cases c : q ≤ 1000000
    · exact c
    · have := Nat.mul_le_mul hp (show 1000001 ≤ q by omega); omega
  have wM : w < 2000 := lt_of_sq (by omega)
  have w63 : 63 ≤ w := by
    by_cases c : 63 ≤ w
    · exact c
    · have := Nat.mul_le_mul (show w + 1 ≤ 63 by omega) (show w + 1 ≤ 63 by omega); omega
  have pM : p < 31623 := lt_of_sq (by have := Nat.mul_le_mul_left p pq; omega)
  have q1000 : q ≤ 1000 * p := by
    by_cases c : q ≤ 1000 * p
    · exact c
    · have h1 := Nat.mul_le_mul_left p (show 1000 * p + 1 ≤ q by omega)
      have h2 := Nat.mul_le_mul hp hp
      have e : p * (1000 * p + 1) = 1000 * (p * p) + p := by rw [Nat.mul_add, Nat.mul_one, Nat.mul_left_comm]
      omega
  have ew : (w + 1) * (w + 1) = w * w + 2 * w + 1 := by rw [Nat.add_mul, Nat.mul_add]; omega
  have w63' := Nat.mul_le_mul_right w w63
  have q13 : 50 * q ≤ 13 * (w * w) := by omega
  by_cases v0 : v = 0
  · rw [v0, Nat.mul_zero]; omega
  obtain ⟨b, rfl⟩ : ∃ b, v = b + 1 := ⟨v - 1, by omega⟩
  have bw : b * w ≤ p := by
    have h1 := Nat.mul_le_mul_right w (show b ≤ (p - 1) / w by omega)
    have h2 := Nat.div_mul_le_self (p - 1) w
    omega
  -- the three parts
  have t1 : 50 * (b * b * q) ≤ 411099 * p := by
    have h1 := Nat.mul_le_mul_left (b * b) q13
    have e1 : b * b * (50 * q) = 50 * (b * b * q) := Nat.mul_left_comm _ _ _
    have e2 : b * b * (13 * (w * w)) = 13 * (b * w * (b * w)) := by
      rw [Nat.mul_left_comm]; congr 1; ac_rfl
    have h2 := Nat.mul_le_mul bw bw
    have h3 := Nat.mul_le_mul_right p (show p ≤ 31623 by omega)
    omega
  have t2 : 50 * (b * q) ≤ 26000 * p := by
    have h1 := Nat.mul_le_mul_left b q13
    have e1 : b * (50 * q) = 50 * (b * q) := Nat.mul_left_comm _ _ _
    have e2 : b * (13 * (w * w)) = 13 * (b * w * w) := by rw [Nat.mul_left_comm, Nat.mul_assoc]
    have h2 := Nat.mul_le_mul bw (show w ≤ 2000 by omega)
    omega
  have ev : (b + 1) * ((b + 1) * q) = b * b * q + 2 * (b * q) + q := by
    have : (b + 1) * q = b * q + q := by rw [Nat.add_mul, Nat.one_mul]
    rw [this, Nat.add_mul, Nat.one_mul, Nat.mul_add, ← Nat.mul_assoc]; omega
  have evw : (b + 1) * w = b * w + w := by rw [Nat.add_mul, Nat.one_mul]
  have h := Nat.mul_le_mul_left (b + 1) (Nat.le_of_lt hu)
  have e3 : (b + 1) * (u * p) = u * (b + 1) * p := by ac_rfl
  have e4 : (b + 1) * ((b + 1) * q + w) = (b + 1) * ((b + 1) * q) + (b + 1) * w := Nat.mul_add _ _ _
  rw [e3, e4, ev, evw] at h
  have hh : u * (b + 1) * p ≤ 15000 * p := by omega
  exact Nat.le_of_mul_le_mul_right hh (by omega)
theorem exists_hit {n : Nat} (h6 : 1000000 ≤ n) (h9 : n ≤ 1000000000) (np : ¬ Pm n) (nd : NoDiv 1001 n) : ∃ k m f, 1 ≤ k ∧ k ≤ 15000 ∧ m * m = 4 * k * n + f * f ∧ 1 ≤ m ∧ (m - 1) * (m - 1) < 4 * k * n := by
  obtain ⟨p, q, rfl, p2, pq⟩ := comp_split (by omega) np
  have hp : 1001 ≤ p := by
    by_cases c : 1001 ≤ p
    · exact c
    · exact absurd (Nat.dvd_mul_right p q) (nd p p2 (by omega))
  have w1 := isqrt_le (4 * q - 1)
  have w2 := isqrt_lt (4 * q - 1)
  generalize Float64.isqrt (4 * q - 1) = w at w1 w2
  have w0 : 1 ≤ w := by
    by_cases c : 1 ≤ w
    · exact c
    · have : w = 0 := by omega
      rw [this] at w2; omega
  obtain ⟨v, u, v1, u1, vb, h1, h2⟩ := near (p := p) (q := q) (w := w) (by omega) pq w0
  have kb := k_le hp pq h9 (by omega) (by omega) vb h2
  have vq := Nat.mul_le_mul_right q v1
  obtain ⟨d, hd, dw⟩ : ∃ d, (v * q = u * p + d ∨ u * p = v * q + d) ∧ d < w := by
    rcases Nat.le_total (u * p) (v * q) with c | c
    · exact ⟨v * q - u * p, .inl (by omega), by omega⟩
    · exact ⟨u * p - v * q, .inr (by omega), by omega⟩
  have ww := Nat.mul_le_mul (show d + 1 ≤ w by omega) (show d + 1 ≤ w by omega)
  have s := two_sq hd (by omega)
  have e : 4 * (u * v) * (p * q) = 4 * (u * p * (v * q)) := by
    rw [Nat.mul_assoc]; congr 1; ac_rfl
  refine ⟨u * v, u * p + v * q, d, Nat.mul_pos u1 v1, kb, by rw [e]; exact s.1, by omega, by rw [e]; exact s.2⟩
/-- what is told as a part is one -/
theorem hit_ok {n k m f : Nat} (h6 : 1000000 ≤ n) (k1 : 1 ≤ k) (hk : k ≤ 15000) (e : m * m = 4 * k * n + f * f) (hm : m ≤ Float64.isqrt (4 * k * n - 1) + 9) : 2 ≤ Nat.gcd (m + f) n ∧ Nat.gcd (m + f) n < n := by
  have kn : 1 * n ≤ k * n := Nat.mul_le_mul_right n k1
  have kn2 : k * n ≤ 15000 * n := Nat.mul_le_mul_right n hk
  have ek : 4 * k * n = 4 * (k * n) := Nat.mul_assoc _ _ _
  rw [ek] at e hm
  have s := isqrt_le (4 * (k * n) - 1)
  generalize Float64.isqrt (4 * (k * n) - 1) = r at s hm
  have fm : f < m := lt_of_sq (by omega)
  have m2 : 2 * m < n := by
    by_cases c : 2 * m < n
    · exact c
    · have a1 : n - 18 ≤ 2 * r := by omega
      have a2 := Nat.mul_le_mul a1 a1
      have a3 : 2 * r * (2 * r) = 4 * (r * r) := by rw [Nat.mul_assoc, Nat.mul_left_comm r 2 r]; omega
      obtain ⟨t, rfl⟩ : ∃ t, n = t + 18 := ⟨n - 18, by omega⟩
      have a4 : t + 18 - 18 = t := by omega
      rw [a4] at a2
      have a5 := Nat.mul_le_mul_right t (show 999982 ≤ t by omega)
      omega
  obtain ⟨x, rfl⟩ : ∃ x, m = x + f := ⟨m - f, by omega⟩
  have pr : (x + f + f) * x = 4 * (k * n) := by
    have a1 : (x + f) * (x + f) = x * x + 2 * (f * x) + f * f := by rw [Nat.add_mul, Nat.mul_add, Nat.mul_add, Nat.mul_comm x f]; omega
    have a2 : (x + f + f) * x = x * x + 2 * (f * x) := by rw [Nat.add_mul, Nat.add_mul]; omega
    omega
  have gd := Nat.gcd_dvd_left (x + f + f) n
  have gn := Nat.gcd_dvd_right (x + f + f) n
  have gl := Nat.le_of_dvd (by omega) gd
  have gp : 0 < Nat.gcd (x + f + f) n := Nat.gcd_pos_of_pos_right _ (by omega)
  refine ⟨?_, by omega⟩
  by_cases g1 : Nat.gcd (x + f + f) n = 1
  · have dv : n ∣ (x + f + f) * x := by rw [pr]; exact ⟨4 * k, by rw [Nat.mul_comm n, Nat.mul_assoc]⟩
    have := (Nat.Coprime.symm g1).dvd_of_dvd_mul_left dv
    have := Nat.le_of_dvd (by omega) this
    omega
  · omega
end Nt
end KB

/-! a set of whole numbers made by two walks, one within the other, without tests: {e for t in a for u in b} -/
namespace KB
open PySem PySem.Spec PyProof.Rows L2
abbrev sc2 (e t a u b : Expr) (sc : Scope) (ps : Pos) : Expr := .SetComp e [⟨t, a, [], 0⟩, ⟨u, b, [], 0⟩] sc ps
abbrev ErN (prog : Program) (w : World) (A : Around) (en : Env) (R : Result → Shared → Prop) : Value → Shared → Prop := notedBy (model prog w) A en fun x z => R (.error x) z
section
variable {prog : Program} {w : World} {A : Around} {R : Result → Shared → Prop} {s : Shared} {e t u a b : Expr} {sc : Scope} {ps : Pos} {itv acc : Value} {en : Env}
theorem sc2_turn0 (e t u a b : Expr) (sc : Scope) (ps : Pos) (itv acc : Value) (en : Env) : compTurn (sc2 e t a u b sc ps) 0 itv acc en = (do
      standAt a.pos
      match ← pyNext itv with
      | none => pure (.done .next)
      | some got =>
        letOwnedTupleGo t itv got
        assign t en got
        let mut ok := true
        for c in ([] : List Expr) do
          if ok then ok ← isTrue c en (eval c en)
        if ok then
          let inner ← eval b en
          standAt b.pos
          let inner ← foldedSetIterable b en inner
          let _ ← runOwn (.compStart (sc2 e t a u b sc ps) 1 (← holding [inner] (pyIter inner)) acc en) en
        again (.compLoop (sc2 e t a u b sc ps) 0 itv acc en)) := by rfl
theorem sc2_turn1 (e t u a b : Expr) (sc : Scope) (ps : Pos) (itv acc : Value) (en : Env) : compTurn (sc2 e t a u b sc ps) 1 itv acc en = (do
      standAt b.pos
      match ← pyNext itv with
      | none => pure (.done .next)
      | some got =>
        letOwnedTupleGo u itv got
        assign u en got
        let mut ok := true
        for c in ([] : List Expr) do
          if ok then ok ← isTrue c en (eval c en)
        if ok then
          (do let one ← eval e en; standAt e.pos; let _ ← call (.builtin "set.add") [acc, one])
        again (.compLoop (sc2 e t a u b sc ps) 1 itv acc en)) := by rfl
theorem sc2_loop0 (hb : ∀ x, foldedSetIterable b en x = pure x) (I : Nat → Shared → Prop)
    (turn : ∀ n z, I n z → wpAny (model prog w) A (pyNext itv) (fun r z1 => match r with
      | none => R (.ok .next) z1
      | some got => wpAny (model prog w) A (letOwnedTupleGo t itv got) (fun _ z2 => wpAny (model prog w) A (assign t en got) (fun _ z3 => wpAny (model prog w) A (eval b en) (fun x z4 =>
          wpAny (model prog w) A (pyIter x) (fun it1 z5 => codeAny (model prog w) A (.compStart (sc2 e t a u b sc ps) 1 it1 acc en) (fun r z6 => match r with
            | .ok _ => ∃ m, m < n ∧ I m z6
            | .error _ => False) z5) (ErN prog w A en R) z4) (ErN prog w A en R) z3) (ErN prog w A en R) z2) (ErN prog w A en R) z1) (ErN prog w A en R) z)
    (n : Nat) (h : I n s) : codeAny (model prog w) A (.compLoop (sc2 e t a u b sc ps) 0 itv acc en) R s := by
  refine codeAny_loop rfl I (fun n z hI => ?_) n h
  show wpAny _ A ((compTurn (sc2 e t a u b sc ps) 0 itv acc en).onRaise (fun x => do noteFrame x en; theTreesLotGoes x)) _ _ z
  refine wpAny_noted ?_
  rw [sc2_turn0]
  refine wpAny_bind (wpAny_standAt (wpAny_bind (wpAny_mono (turn n z hI) (fun r z1 h1 => ?_) fun _ _ y => y)))
  match r, h1 with
  | none, h1 => exact wpAny_pure h1
  | some got, h1 =>
    refine wpAny_bind (wpAny_mono h1 (fun _ z2 h2 => wpAny_bind (wpAny_mono h2 (fun _ z3 h3 => wpAny_bind (wpAny_pure ?_)) fun _ _ y => y)) fun _ _ y => y)
    refine wpAny_bind (wpAny_mono h3 (fun x z4 h4 => ?_) fun _ _ y => y)
    refine wpAny_bind (wpAny_standAt (wpAny_bind (wpAny_of_eq (hb x) (wpAny_bind (wpAny_holding (wpAny_mono h4 (fun it1 z5 h5 => ?_) fun _ _ y => y))))))
    refine wpAny_bind (wpAny_runOwn ?_)
    rw [Around.mark_none]
    refine codeAny_mono h5 fun r z6 hr => ?_
    match r, hr with
    | .ok f, hr => first | exact wpAny_pure ⟨rfl, hr⟩ | exact wpAny_bind (wpAny_pure (wpAny_pure ⟨rfl, hr⟩))
    | .error x, hr => exact hr.elim
theorem sc2_loop1 (I : Nat → Shared → Prop)
    (turn : ∀ n z, I n z → wpAny (model prog w) A (pyNext itv) (fun r z1 => match r with
      | none => R (.ok .next) z1
      | some got => wpAny (model prog w) A (letOwnedTupleGo u itv got) (fun _ z2 => wpAny (model prog w) A (assign u en got) (fun _ z3 => wpAny (model prog w) A (eval e en) (fun x z4 =>
          wpAny (model prog w) A (call (.builtin "set.add") [acc, x]) (fun _ z5 => ∃ m, m < n ∧ I m z5) (ErN prog w A en R) z4) (ErN prog w A en R) z3) (ErN prog w A en R) z2) (ErN prog w A en R) z1) (ErN prog w A en R) z)
    (n : Nat) (h : I n s) : codeAny (model prog w) A (.compLoop (sc2 e t a u b sc ps) 1 itv acc en) R s := by
  refine codeAny_loop rfl I (fun n z hI => ?_) n h
  show wpAny _ A ((compTurn (sc2 e t a u b sc ps) 1 itv acc en).onRaise (fun x => do noteFrame x en; theTreesLotGoes x)) _ _ z
  refine wpAny_noted ?_
  rw [sc2_turn1]
  refine wpAny_bind (wpAny_standAt (wpAny_bind (wpAny_mono (turn n z hI) (fun r z1 h1 => ?_) fun _ _ y => y)))
  match r, h1 with
  | none, h1 => exact wpAny_pure h1
  | some got, h1 =>
    refine wpAny_bind (wpAny_mono h1 (fun _ z2 h2 => wpAny_bind (wpAny_mono h2 (fun _ z3 h3 => wpAny_bind (wpAny_pure ?_)) fun _ _ y => y)) fun _ _ y => y)
    exact wpAny_bind (wpAny_bind (wpAny_mono h3 (fun x z4 h4 => wpAny_bind (wpAny_standAt (wpAny_bind (wpAny_mono h4 (fun _ z5 h5 => wpAny_pure (wpAny_pure ⟨rfl, h5⟩)) fun _ _ y => y)))) fun _ _ y => y))
/-- the inner walk's start -/
theorem sc2_start1 (h0 : codeAny (model prog w) A (.compLoop (sc2 e t a u b sc ps) 1 itv acc en) R s)
    (h : wpAny (model prog w) A (pyIter itv) (fun j z => codeAny (model prog w) A (.compLoop (sc2 e t a u b sc ps) 1 j acc en) R z) (ErN prog w A en R) s) :
    codeAny (model prog w) A (.compStart (sc2 e t a u b sc ps) 1 itv acc en) R s := by
  refine codeAny_of_tree ?_
  show wpAny _ _ ((compStart (sc2 e t a u b sc ps) 1 itv acc en).onRaise (fun x => do noteFrame x en; standAt theWindowsPlace)) _ _ s
  refine wpAny_notedAt ?_
  unfold compStart
  show wpAny _ _ (ask >>= _) _ _ s
  refine wpAny_bind (wpAny_askSetting (wpAny_ite ?_))
  split
  · first | exact wpAny_bind (wpAny_pure (wpAny_pure (And.intro rfl h0))) | exact wpAny_pure (And.intro rfl h0)
  · first
      | exact wpAny_bind (wpAny_rule (wpAny_bind (wpAny_standAt (wpAny_bind (wpAny_mono h (fun j z k => wpAny_pure (And.intro rfl k)) fun _ _ y => y)))))
      | (refine wpAny_bind (wpAny_rule ?_); show wpAny _ _ (standAt b.pos >>= _) _ _ s; exact wpAny_bind (wpAny_standAt (wpAny_bind (wpAny_mono h (fun j z k => wpAny_pure (And.intro rfl k)) fun _ _ y => y))))
end
section
variable {X : Cx}
/-- {te for g in wi for g1 in wi1}: D the new set -/
def tSc2 (w : World) (wi : TI) (g : TG) (wi1 : TI) (g1 : TG) (te : TE) (vs vs1 : List Nat) : TE := fun σ H Q => wi σ H fun J H1 => ∀ D, H1 D = none →
  ∃ W : Nat → Nat → Hp → Prop, (∃ m, W 0 m (upd H1 D (SetO w D (fun _ => false) 0))) ∧ ∀ i m G, W i m G →
    (J.stop i G ∧ Q (.ref D) G) ∨ (J.go i G ∧ ∃ Nx : Hp → Prop, (∀ G', Nx G' → ∃ m', m' < m ∧ W (i + 1) m' G') ∧ ∀ x G1, J.yld i G x G1 →
      g x (wipe σ vs) G1 fun σ2 G2 => wipe σ2 vs = wipe σ vs ∧ wi1 σ2 G2 fun J1 G3 => ∃ W1 : Nat → Nat → Hp → Prop, (∃ m, W1 0 m G3) ∧ ∀ j k G4, W1 j k G4 →
        (J1.stop j G4 ∧ Nx G4) ∨ (J1.go j G4 ∧ ∃ Nx1 : Hp → Prop, (∀ G', Nx1 G' → ∃ k', k' < k ∧ W1 (j + 1) k' G') ∧ ∀ x1 G5, J1.yld j G4 x1 G5 →
          g1 x1 (wipe σ2 vs1) G5 fun σ3 G6 => wipe σ3 vs1 = wipe σ2 vs1 ∧ te σ3 G6 fun y G7 => ∃ (c : Int) (S : Int → Bool) (n : Nat), y = .int c ∧ G7 D = some (SetO w D S n) ∧ n + 1 < scanBound ∧
            Nx1 (upd G7 D (SetO w D (fun q => S q || decide (q = c)) (if S c = true then n else n + 1)))))
variable {e tg ie tg1 ie1 : Expr} {sc : Scope} {own : List (PySem.Str × Nat)} {vs1 : List Nat} {ps : Pos} {wi wi1 : TI} {g g1 : TG} {te : TE}
theorem pe_sc2 (hc : X.calm = true) (hN : X.N.Nodup) (p0 : PI X tg ie wi) (ok : BlkOk X.N X.env.scope sc own) (hv : ∀ i ∈ vs1, i ∈ own.map (·.2))
    (pg0 : ∀ (z : Shared) (G : Hp) (C : Addr) (cl : List (PySem.Str × Addr)) (fp : List Addr), PG (X.blk z G sc (compEnvC sc cl C X.env) fp) tg g)
    (p1 : ∀ (z : Shared) (G : Hp) (C : Addr) (cl : List (PySem.Str × Addr)) (fp : List Addr), PI (X.blk z G sc (compEnvC sc cl C X.env) fp) tg1 ie1 wi1)
    (pg1 : ∀ (z : Shared) (G : Hp) (C : Addr) (cl : List (PySem.Str × Addr)) (fp : List Addr), PG (X.blk z G sc (compEnvC sc cl C X.env) fp) tg1 g1)
    (pe0 : ∀ (z : Shared) (G : Hp) (C : Addr) (cl : List (PySem.Str × Addr)) (fp : List Addr), PE (X.blk z G sc (compEnvC sc cl C X.env) fp) e te)
    (hs : ∀ x, foldedSetIterable ie X.env x = pure x := by intro _; rfl) (hs1 : ∀ en x, foldedSetIterable ie1 en x = pure x := by intro _ _; rfl) :
    PE X (.SetComp e [⟨tg, ie, [], 0⟩, ⟨tg1, ie1, [], 0⟩] sc ps) (tSc2 X.w wi g wi1 g1 te (own.map (·.2)) vs1) := by
  refine ⟨fun pins s σ H Q I h => ?_⟩
  rw [PpSet.eval_SetComp]
  have frees : ∀ y ∈ sc.names, y.2 = .free → ∃ c, X.env.cells.lookup y.1 = some c := fun y hy z => by
    rcases ok.free y hy z with q | q
    · exact I.ok.has _ (.inl q)
    · exact I.ok.has _ (.inr q)
  refine wpAny_comprehension_free (use := none) rfl hs (closure_ok frees) ok.kind (fun y hy z => by rw [ok.uniq y hy, z]) (thn (p0.run pins s σ H _ I h) fun xv s1 hx => thn hx fun itv s2 hit => ?_)
  obtain ⟨it, fp, tn, J, H2, rfl, I2, T, at2, fp2, q⟩ := hit
  refine PpSet.newSet_ok (newEnv_comp ?_)
  generalize eD : s2.heap.objs.size = D
  obtain ⟨W, ⟨m0, w0⟩, turn⟩ := q D (I2.hok.fresh (Nat.le_of_eq eD))
  -- the set lies there
  generalize e3 : ({ s2 with heap := s2.heap.push { cls := .type "set", dict := none, data := .set #[] 0 (.fresh 0 0 (!X.w.params.followText "set-order")) } } : Shared) = s3
  generalize eK : upd H2 D (SetO X.w D (fun _ => false) 0) = K3 at w0 ⊢
  have I3 : Inv X pins σ K3 s3 := by
    rw [← e3, ← eK]
    refine I2.laid (t' := s2.toks) (fun b o z => Heap.get?_push_of_some _ z) (Nat.le_of_eq eD) ?_
    rw [← eD]
    exact setO_new (setR_fresh X.w)
  have keep3 : ∀ b o, s2.heap.get? b = some o → s3.heap.get? b = some o := fun b o z => by rw [← e3]; exact Heap.get?_push_of_some _ z
  have grow3 : s3.heap.objs.size = s2.heap.objs.size + 1 := by rw [← e3]; exact Heap.size_push ..
  have low : ∀ b ∈ fp, b < s2.heap.objs.size := fun b hb => by
    obtain ⟨o, z, _⟩ := T.obj _ _ at2 b hb
    exact Heap.lt_size z
  have fp3 : ∀ b ∈ fp, FpOk X pins K3 b ∧ b < s3.heap.objs.size := fun b hb => by
    have lt := low b hb
    refine ⟨⟨?_, (fp2 b hb).2⟩, by rw [grow3]; exact Nat.lt_succ_of_lt lt⟩
    rw [← eK, upd_ne (by rw [← eD]; exact Nat.ne_of_lt lt)]
    exact (fp2 b hb).1
  have at3 : tn 0 s3.heap := T.keep _ _ _ at2 fun b _ o z => keep3 b o z
  have I4 := block_start I3 ok hN fp3
  have rg := pg0 s3 K3 s3.heap.objs.size (cellsFrom (s3.heap.objs.size + 1) sc.names (cloFrom X.env.cells sc.names [])) fp
  have r1 := p1 s3 K3 s3.heap.objs.size (cellsFrom (s3.heap.objs.size + 1) sc.names (cloFrom X.env.cells sc.names [])) fp
  have rg1 := pg1 s3 K3 s3.heap.objs.size (cellsFrom (s3.heap.objs.size + 1) sc.names (cloFrom X.env.cells sc.names [])) fp
  have re := pe0 s3 K3 s3.heap.objs.size (cellsFrom (s3.heap.objs.size + 1) sc.names (cloFrom X.env.cells sc.names [])) fp
  show codeAny _ _ (.compStart (sc2 e tg ie tg1 ie1 sc ps) 0 (.ref it) (.ref D) (compEnvC sc (cellsFrom (s3.heap.objs.size + 1) sc.names (cloFrom X.env.cells sc.names [])) s3.heap.objs.size X.env)) _ { s3 with heap := pushCells (s3.heap.push { cls := .type "dict", data := .dict #[] }) sc.names }
  generalize ec : compEnvC sc (cellsFrom (s3.heap.objs.size + 1) sc.names (cloFrom X.env.cells sc.names [])) s3.heap.objs.size X.env = ce at I4 rg r1 rg1 re ⊢
  have cL : ce.locals = s3.heap.objs.size := by subst ec; rfl
  generalize e4 : ({ s3 with heap := pushCells (s3.heap.push { cls := .type "dict", data := .dict #[] }) sc.names } : Shared) = s4 at I4 ⊢
  have at4 : tn 0 s4.heap := T.keep _ _ _ at3 fun b _ o z => by rw [← e4]; exact pushCells_keeps _ _ _ _ (Heap.get?_push_of_some _ z)
  have still : ∀ {σ' : L2.St} {G : Hp} {z : Shared}, Inv (X.blk s3 K3 sc ce fp) [] σ' G z → (∀ b ∈ fp, G b = none) → ∀ b ∈ fp, FpOk (X.blk s3 K3 sc ce fp) [] G b := fun {σ' G z} I' n b hb =>
    ⟨n b hb, (I'.ok.exf b hb).1, I'.ok.exfs b hb, .inl hb, fun x c y => (I'.ok.exf b hb).2 x c y, fun p hp => absurd (show p ∈ ([] : List (Addr × Obj)) ++ [] from hp) (by simp)⟩
  have nfp : ∀ b ∈ fp, K3 b = none := fun b hb => (fp3 b hb).1.1
  have loop : codeAny (model X.prog X.w) X.A (.compLoop (sc2 e tg ie tg1 ie1 sc ps) 0 (.ref it) (.ref D) ce) (compPost (model X.prog X.w) X.A X.xe none (EP X pins σ Q) (.ref D) s3.heap.objs.size) s4 := by
    refine sc2_loop0 (hs1 ce) (fun n z => ∃ i G, Inv (X.blk s3 K3 sc ce fp) [] (wipe σ (own.map (·.2))) G z ∧ tn i z.heap ∧ (∀ b ∈ fp, G b = none) ∧ W i n G) ?_ m0 ⟨0, K3, I4, at4, nfp, w0⟩
    rintro n s5 ⟨i, G5, I5, at5, n5, w5⟩
    rcases turn i n G5 w5 with ⟨stop, qq⟩ | ⟨go, Nx, onNx, step⟩
    · have td := T.done (X.blk s3 K3 sc ce fp) rfl rfl rfl hc i [] s5 _ G5 (fun _ _ => False) I5 (still I5 n5) at5 stop
      refine thnF td fun r s6 ⟨hr, I6⟩ => ?_
      subst hr
      have I7 : Inv X pins σ G5 s6 := I3.call' (ch := fp) I6.os I6.base I6.hok I6.bare fun b hb => ⟨(fp3 b hb).1.2.2.2.1, (fp3 b hb).1.2.1, (fp3 b hb).1.2.2.2.2.1, (fp3 b hb).1.2.2.2.2.2⟩
      have nC : G5 s3.heap.objs.size = none := by
        have z : G5 ce.locals = none := I6.free
        rwa [cL] at z
      obtain ⟨m, hm, _⟩ := I6.loc
      have hm : s6.heap.Ns ce.locals m := hm
      rw [cL] at hm
      refine ⟨m, hm, fun h2 sb => ?_⟩
      obtain ⟨a0, a1, a2, a3, a4, a5⟩ := I3.fpOk (Nat.le_refl _) nC
      exact ⟨.ref D, G5, I7.turned (t' := s6.toks) (fun b o hb z => (sb.2 b hb).trans z) a0 a1 a3 a4 a5, rfl, qq⟩
    · refine thnF (T.item (X.blk s3 K3 sc ce fp) rfl rfl rfl hc i [] s5 _ G5 (fun _ _ => False) I5 (still I5 n5) at5 go) fun r s6 ⟨v, hr, h6⟩ => ?_
      subst hr
      refine thnF h6 fun _ s7 ⟨x, G7, I7, rx, y7, at7, n7⟩ => ?_
      refine thnF (rg.run _ s7 _ G7 x v _ (I7.pinned (still I7 n7) (T.obj _ _ at7)) rx (step x G7 y7)) fun _ s8 ⟨σ8, G8, I8, w8, q8⟩ => ?_
      -- a turn of the outer walk ends
      have fin : ∀ {σ9 : L2.St} {z : Shared} {G : Hp}, Inv (X.blk s3 K3 sc ce fp) ([] ++ pinsAt fp s7.heap) σ9 G z → (wipe σ (own.map (·.2))).length = σ9.length → (∀ (j : Nat) v, (wipe σ (own.map (·.2)))[j]? = some (some v) → σ9[j]? = some (some v)) → Nx G →
          ∃ m, m < n ∧ ∃ i G, Inv (X.blk s3 K3 sc ce fp) [] (wipe σ (own.map (·.2))) G z ∧ tn i z.heap ∧ (∀ b ∈ fp, G b = none) ∧ W i m G := fun {σ9 z G} I' len same nx => by
        obtain ⟨m', lt, w'⟩ := onNx G nx
        have pin' : ∀ b ∈ fp, ∀ o, s7.heap.get? b = some o → z.heap.get? b = some o ∧ G b = none := fun b hb o y =>
          let k := I'.pin (b, o) (List.mem_append_right _ (List.mem_append_right _ (mem_pinsAt hb y)))
          ⟨k.1, k.2.1⟩
        refine ⟨m', lt, i + 1, G, (I'.unpinned (pins := [])).weak len same, T.keep _ _ _ at7 fun b hb o y => (pin' b hb o y).1, fun b hb => ?_, w'⟩
        obtain ⟨o, y, _⟩ := T.obj _ _ at7 b hb
        exact (pin' b hb o y).2
      have len9 : (wipe σ (own.map (·.2))).length = (wipe σ8 vs1).length := by rw [wipe_length σ8 vs1, ← w8, wipe_length]
      have same9 : ∀ (j : Nat) v, (wipe σ (own.map (·.2)))[j]? = some (some v) → (wipe σ8 vs1)[j]? = some (some v) := fun j v y => by
        rw [← w8] at y
        obtain ⟨y1, y2⟩ := wipe_some y
        rw [wipe_out fun k => y2 (hv j k)]
        exact y1
      refine thnF (r1.run _ s8 σ8 G8 _ I8 q8) fun xv s10 hx => thnF hx fun itv s11 h11 => ?_
      obtain ⟨it1, fp1, tn1, J1, G11, rfl, I11, T1, at11, fp11, W1, ⟨m1, w1⟩, turn1⟩ := h11
      have still1 : ∀ {G : Hp}, (∀ b ∈ fp1, G b = none) → ∀ b ∈ fp1, FpOk (X.blk s3 K3 sc ce fp) ([] ++ pinsAt fp s7.heap) G b := fun nn b hb => ⟨nn b hb, (fp11 b hb).2⟩
      have loop1 : codeAny (model X.prog X.w) X.A (.compLoop (sc2 e tg ie tg1 ie1 sc ps) 1 (.ref it1) (.ref D) ce) (fun r z => match r with
          | .ok _ => ∃ m, m < n ∧ ∃ i G, Inv (X.blk s3 K3 sc ce fp) [] (wipe σ (own.map (·.2))) G z ∧ tn i z.heap ∧ (∀ b ∈ fp, G b = none) ∧ W i m G
          | .error _ => False) s11 := by
        refine sc2_loop1 (fun k z => ∃ j G, Inv (X.blk s3 K3 sc ce fp) ([] ++ pinsAt fp s7.heap) (wipe σ8 vs1) G z ∧ tn1 j z.heap ∧ (∀ b ∈ fp1, G b = none) ∧ W1 j k G) ?_ m1 ⟨0, G11, I11.weak (wipe_length _ _) (fun j v y => (wipe_some y).1), at11, fun b hb => (fp11 b hb).1, w1⟩
        rintro k s12 ⟨j, G12, I12, at12, n12, w12⟩
        rcases turn1 j k G12 w12 with ⟨stop1, nx1⟩ | ⟨go1, Nx1, onNx1, step1⟩
        · refine thnF (T1.done (X.blk s3 K3 sc ce fp) rfl rfl rfl hc j _ s12 (wipe σ8 vs1) G12 (fun _ _ => False) I12 (still1 n12) at12 stop1) fun r s13 ⟨hr, I13⟩ => ?_
          subst hr
          exact fin I13 len9 same9 nx1
        · refine thnF (T1.item (X.blk s3 K3 sc ce fp) rfl rfl rfl hc j _ s12 (wipe σ8 vs1) G12 (fun _ _ => False) I12 (still1 n12) at12 go1) fun r s13 ⟨v1, hr, h13⟩ => ?_
          subst hr
          refine thnF h13 fun _ s14 ⟨x1, G14, I14, rx1, y14, at14, n14⟩ => ?_
          refine thnF (rg1.run _ s14 (wipe σ8 vs1) G14 x1 v1 _ (I14.pinned (still1 n14) (T1.obj _ _ at14)) rx1 (step1 x1 G14 y14)) fun _ s15 ⟨σ15, G15, I15, w15, q15⟩ => ?_
          refine thnF (re.run _ s15 σ15 G15 _ I15 q15) fun z s17 ⟨yv, G17, I17, ry, cc, S, k0, ey, eD17, room, nx⟩ => ?_
          subst ey
          refine thnF (mt_sadd (X := X.blk s3 K3 sc ce fp) _ s17 σ15 G17 (.ref D) [.int cc] (.ref D) [z] (fun _ G => Nx1 G) I17 rfl (.cons ry .nil) ⟨D, cc, S, k0, rfl, rfl, eD17, room, nx⟩) fun _ s18 ⟨_, G18, I18, _, nx18⟩ => ?_
          obtain ⟨m', lt, w'⟩ := onNx1 G18 nx18
          have pin' : ∀ b ∈ fp1, ∀ o, s14.heap.get? b = some o → s18.heap.get? b = some o ∧ G18 b = none := fun b hb o y =>
            let k := I18.pin (b, o) (List.mem_append_right _ (List.mem_append_right _ (mem_pinsAt hb y)))
            ⟨k.1, k.2.1⟩
          refine ⟨m', lt, j + 1, G18, I18.unpinned.weak (by rw [← w15, wipe_length]) (fun j v y => by rw [← w15] at y; exact (wipe_some y).1), T1.keep _ _ _ at14 fun b hb o y => (pin' b hb o y).1, fun b hb => ?_, w'⟩
          obtain ⟨o, y, _⟩ := T1.obj _ _ at14 b hb
          exact (pin' b hb o y).2
      exact sc2_start1 loop1 (T1.self X.A 0 _ _ _ at11 loop1)
  exact PpSet.codeAny_compStart_set loop (T.self X.A 0 _ _ _ at4 loop)
end
end KB

/-! things as terms: their kinds by what is given, what they want, the rows in which they are read -/
namespace KB
open PySem PySem.Spec PyProof.Rows L2
/-- how many things stand in a term of a word -/
def lenOf (w : Str) : Option Nat :=
  if w = "given" then some 2 else if w = "make" then some 3 else if w = "do" then some 3 else if w = "both" then some 3 else if w = "first" then some 2 else if w = "second" then some 2 else if w = "unit" then some 1 else none
/-- whether data have the look of a term, but for their parts -/
def hdK : List PyData → Bool
  | x :: _ => isKd x
  | [] => false
def pcB : PyData → Bool
  | .tuple (.str w :: r) => decide (lenOf w = some (r.length + 1)) && (!decide (w = "make") || hdK r)
  | _ => false
inductive Trm where
  | giv (x : PyData) | fst (t : Trm) | snd (t : Trm) | mk (k : Kd) (t : Trm) | doo (a b : Trm) | both (a b : Trm) | unit | bad (d : PyData)
namespace Trm
def dat : Trm → PyData
  | giv x => .tuple [.str "given", x]
  | fst t => .tuple [.str "first", t.dat]
  | snd t => .tuple [.str "second", t.dat]
  | mk k t => .tuple [.str "make", k.dat, t.dat]
  | doo a b => .tuple [.str "do", a.dat, b.dat]
  | both a b => .tuple [.str "both", a.dat, b.dat]
  | unit => .tuple [.str "unit"]
  | bad d => d
def wf : Trm → Prop
  | giv _ | unit => True
  | fst t | snd t => t.wf
  | mk k t => k.ok ∧ t.wf
  | doo a b | both a b => a.wf ∧ b.wf
  | bad d => pcB d = false
/-- no thing in it has another look -/
def okT : Trm → Bool
  | giv _ | unit => true
  | fst t | snd t | mk _ t => t.okT
  | doo a b | both a b => a.okT && b.okT
  | bad _ => false
def isBad : Trm → Bool
  | bad _ => true
  | _ => false
end Trm
def giv (x : PyData) (ks : List Kd) : Option Kd := match x with
  | .int n => if 0 ≤ n ∧ n < (ks.length : Nat) then ks[n.toNat]? else none
  | _ => none
def half (s : Bool) : Kd → Option Kd
  | .p a b => some (if s = true then b else a)
  | _ => none
def hand : Kd → Kd → Option Kd
  | .f t g, a => if t = a then some g else none
  | _, _ => none
namespace Trm
def jd : Trm → List Kd → Option Kd
  | giv x, ks => KB.giv x ks
  | fst t, ks => (t.jd ks).bind (half false)
  | snd t, ks => (t.jd ks).bind (half true)
  | mk k t, ks => (t.jd (ks ++ [k])).map (Kd.f k)
  | doo a b, ks => (a.jd ks).bind fun f => (b.jd ks).bind fun x => hand f x
  | both a b, ks => (a.jd ks).bind fun x => (b.jd ks).map (Kd.p x)
  | unit, _ => some .u
  | bad _, _ => none
/-- what it is made of, each with what is given to it -/
def subs : Trm → List Kd → List (Trm × List Kd)
  | fst t, ks | snd t, ks => [(t, ks)]
  | mk k t, ks => [(t, ks ++ [k])]
  | doo a b, ks | both a b, ks => [(a, ks), (b, ks)]
  | _, _ => []
/-- the rows in which it is read: itself, then what it is made of, the last ahead -/
def pre : Trm → List Kd → List (Trm × List Kd)
  | fst t, ks => (fst t, ks) :: t.pre ks
  | snd t, ks => (snd t, ks) :: t.pre ks
  | mk k t, ks => (mk k t, ks) :: t.pre (ks ++ [k])
  | doo a b, ks => (doo a b, ks) :: (b.pre ks ++ a.pre ks)
  | both a b, ks => (both a b, ks) :: (b.pre ks ++ a.pre ks)
  | t, ks => [(t, ks)]
theorem pre_eq (t : Trm) (ks : List Kd) : t.pre ks = (t, ks) :: (t.subs ks).reverse.flatMap fun n => n.1.pre n.2 := by cases t <;> simp [pre, subs]
theorem pre_self (t : Trm) (ks : List Kd) : (t, ks) ∈ t.pre ks := by cases t <;> simp [pre]
theorem jd_ok : ∀ (t : Trm) (ks : List Kd) (k : Kd), t.jd ks = some k → t.okT = true
  | giv x, ks, k, _ => rfl
  | fst t, ks, k, h => by
    cases e : t.jd ks with
    | none => simp [jd, e] at h
    | some k' => exact jd_ok t ks k' e
  | snd t, ks, k, h => by
    cases e : t.jd ks with
    | none => simp [jd, e] at h
    | some k' => exact jd_ok t ks k' e
  | mk c t, ks, k, h => by
    cases e : t.jd (ks ++ [c]) with
    | none => simp [jd, e] at h
    | some k' => exact jd_ok t _ k' e
  | doo a b, ks, k, h => by
    cases e : a.jd ks with
    | none => simp [jd, e] at h
    | some x => cases e2 : b.jd ks with
      | none => simp [jd, e, e2] at h
      | some y => simp [okT, jd_ok a ks x e, jd_ok b ks y e2]
  | both a b, ks, k, h => by
    cases e : a.jd ks with
    | none => simp [jd, e] at h
    | some x => cases e2 : b.jd ks with
      | none => simp [jd, e, e2] at h
      | some y => simp [okT, jd_ok a ks x e, jd_ok b ks y e2]
  | unit, ks, k, _ => rfl
  | bad d, ks, k, h => by cases h
/-- what has no kind spoils that in which it stands -/
theorem sub_none : ∀ (t : Trm) (ks : List Kd) (n : Trm × List Kd), n ∈ t.pre ks → n.1.jd n.2 = none → t.jd ks = none
  | giv x, ks, n, h, e => by rw [List.mem_singleton.mp h] at e; exact e
  | fst t, ks, n, h, e => by
    rcases List.mem_cons.mp h with rfl | h
    · exact e
    · simp [jd, sub_none t ks n h e]
  | snd t, ks, n, h, e => by
    rcases List.mem_cons.mp h with rfl | h
    · exact e
    · simp [jd, sub_none t ks n h e]
  | mk c t, ks, n, h, e => by
    rcases List.mem_cons.mp h with rfl | h
    · exact e
    · simp [jd, sub_none t _ n h e]
  | doo a b, ks, n, h, e => by
    rcases List.mem_cons.mp h with rfl | h
    · exact e
    · rcases List.mem_append.mp h with h | h
      · simp [jd, sub_none b ks n h e]
      · simp [jd, sub_none a ks n h e]
  | both a b, ks, n, h, e => by
    rcases List.mem_cons.mp h with rfl | h
    · exact e
    · rcases List.mem_append.mp h with h | h
      · simp [jd, sub_none b ks n h e]
      · simp [jd, sub_none a ks n h e]
  | unit, ks, n, h, e => by rw [List.mem_singleton.mp h] at e; cases e
  | bad d, ks, n, h, e => rfl
/-- rows that lead from things made to things made -/
def Good (fin : List (Trm × List Kd)) : List (Trm × List Kd) → List (Trm × List Kd) → Prop
  | [], S => S = fin
  | n :: R, S => ∃ S0, S = S0 ++ n.1.subs n.2 ∧ Good fin R (S0 ++ [n])
theorem good_pre (fin : List (Trm × List Kd)) : ∀ (t : Trm) (ks : List Kd) (R S : List (Trm × List Kd)), Good fin R (S ++ [(t, ks)]) → Good fin ((t.pre ks).reverse ++ R) S
  | giv x, ks, R, S, h => ⟨S, by simp [subs], h⟩
  | unit, ks, R, S, h => ⟨S, by simp [subs], h⟩
  | bad x, ks, R, S, h => ⟨S, by simp [subs], h⟩
  | fst t, ks, R, S, h => by
    simp only [pre, List.reverse_cons, List.append_assoc]
    exact good_pre fin t ks _ S ⟨S, rfl, h⟩
  | snd t, ks, R, S, h => by
    simp only [pre, List.reverse_cons, List.append_assoc]
    exact good_pre fin t ks _ S ⟨S, rfl, h⟩
  | mk c t, ks, R, S, h => by
    simp only [pre, List.reverse_cons, List.append_assoc]
    exact good_pre fin t _ _ S ⟨S, rfl, h⟩
  | doo a b, ks, R, S, h => by
    simp only [pre, List.reverse_cons, List.reverse_append, List.append_assoc]
    exact good_pre fin a ks _ S (good_pre fin b ks _ _ ⟨S, by simp [subs], h⟩)
  | both a b, ks, R, S, h => by
    simp only [pre, List.reverse_cons, List.reverse_append, List.append_assoc]
    exact good_pre fin a ks _ S (good_pre fin b ks _ _ ⟨S, by simp [subs], h⟩)
theorem good_all (t : Trm) (ks : List Kd) : Good [(t, ks)] (t.pre ks).reverse [] := by
  have h := good_pre [(t, ks)] t ks [] [] rfl
  rwa [List.append_nil] at h
/-- which given ones it wants, where so many are given -/
def fv : Trm → Nat → Int → Bool
  | giv (.int n), _, q => decide (q = n)
  | giv _, _, _ => false
  | fst t, L, q | snd t, L, q => t.fv L q
  | mk _ t, L, q => t.fv (L + 1) q && !decide (q = (L : Nat))
  | doo a b, L, q | both a b, L, q => a.fv L q || b.fv L q
  | _, _, _ => false
/-- few of what is given are wanted at once, and the kinds within are not too deep -/
def Few : Trm → List Kd → Prop
  | fst t, ks | snd t, ks => t.Few ks ∧ ∀ k, t.jd ks = some k → k.deep ≤ 150
  | mk c t, ks => t.Few (ks ++ [c]) ∧ ∀ k, t.jd (ks ++ [c]) = some k → k.deep ≤ 150
  | doo a b, ks | both a b, ks => (a.Few ks ∧ b.Few ks) ∧ (∀ k, a.jd ks = some k → k.deep ≤ 150) ∧ (∀ k, b.jd ks = some k → k.deep ≤ 150) ∧
      ∀ l : List Int, l.Nodup → (∀ q ∈ l, (a.fv ks.length q || b.fv ks.length q) = true ∧ 0 ≤ q ∧ q < (ks.length : Nat)) → l.length < 64
  | _, _ => True
theorem giv_some {x : PyData} {ks : List Kd} {k : Kd} (h : KB.giv x ks = some k) : ∃ n : Nat, x = .int (n : Nat) ∧ ks[n]? = some k ∧ n < ks.length := by
  unfold KB.giv at h
  split at h
  · rename_i n
    split at h
    · rename_i c
      exact ⟨n.toNat, by rw [Int.toNat_of_nonneg c.1], h, by omega⟩
    · cases h
  · cases h
theorem fv_lt : ∀ (t : Trm) (ks : List Kd) (k : Kd), t.jd ks = some k → ∀ q, t.fv ks.length q = true → 0 ≤ q ∧ q < (ks.length : Nat)
  | giv x, ks, k, h, q, hq => by
    obtain ⟨n, rfl, _, lt⟩ := giv_some h
    have := of_decide_eq_true hq
    omega
  | fst t, ks, k, h, q, hq => by
    cases e : t.jd ks with
    | none => simp [jd, e] at h
    | some k' => exact fv_lt t ks k' e q hq
  | snd t, ks, k, h, q, hq => by
    cases e : t.jd ks with
    | none => simp [jd, e] at h
    | some k' => exact fv_lt t ks k' e q hq
  | mk c t, ks, k, h, q, hq => by
    cases e : t.jd (ks ++ [c]) with
    | none => simp [jd, e] at h
    | some k' =>
      simp only [fv, Bool.and_eq_true, Bool.not_eq_true', decide_eq_false_iff_not] at hq
      have := fv_lt t _ k' e q (by rw [List.length_append]; exact hq.1)
      rw [List.length_append] at this
      simp only [List.length_cons, List.length_nil] at this
      have h2 := hq.2
      omega
  | doo a b, ks, k, h, q, hq => by
    cases e : a.jd ks with
    | none => simp [jd, e] at h
    | some x => cases e2 : b.jd ks with
      | none => simp [jd, e, e2] at h
      | some y =>
        simp only [fv, Bool.or_eq_true] at hq
        rcases hq with hq | hq
        · exact fv_lt a ks x e q hq
        · exact fv_lt b ks y e2 q hq
  | both a b, ks, k, h, q, hq => by
    cases e : a.jd ks with
    | none => simp [jd, e] at h
    | some x => cases e2 : b.jd ks with
      | none => simp [jd, e, e2] at h
      | some y =>
        simp only [fv, Bool.or_eq_true] at hq
        rcases hq with hq | hq
        · exact fv_lt a ks x e q hq
        · exact fv_lt b ks y e2 q hq
  | unit, ks, k, h, q, hq => by cases hq
  | bad d, ks, k, h, q, hq => by cases h
/-- how many functions are made within one another -/
def md : Trm → Nat
  | fst t | snd t => t.md
  | mk _ t => t.md + 1
  | doo a b | both a b => max a.md b.md
  | _ => 0
def ht : Trm → Nat
  | fst t | snd t | mk _ t => t.ht + 1
  | doo a b | both a b => max a.ht b.ht + 1
  | _ => 0
/-- the kinds of what functions in it take are no deeper than that -/
def kdp : Trm → Nat
  | fst t | snd t => t.kdp
  | mk k t => max k.deep t.kdp
  | doo a b | both a b => max a.kdp b.kdp
  | _ => 0
theorem jd_deep {M : Nat} : ∀ (t : Trm) (ks : List Kd) (k : Kd), (∀ x ∈ ks, x.deep ≤ M) → t.kdp ≤ M → t.jd ks = some k → k.deep ≤ M + t.ht + 1
  | giv x, ks, k, h, _, e => by
    obtain ⟨n, rfl, e, lt⟩ := giv_some e
    have := h k (List.mem_of_getElem? e)
    omega
  | fst t, ks, k, h, c, e => by
    cases e1 : t.jd ks with
    | none => simp [jd, e1] at e
    | some y =>
      have := jd_deep t ks y h c e1
      simp only [jd, e1, Option.bind_some] at e
      cases y <;> simp only [half] at e <;> cases e
      simp only [Kd.deep] at this
      simp only [ht]
      simp only [Bool.false_eq_true, if_false]
      omega
  | snd t, ks, k, h, c, e => by
    cases e1 : t.jd ks with
    | none => simp [jd, e1] at e
    | some y =>
      have := jd_deep t ks y h c e1
      simp only [jd, e1, Option.bind_some] at e
      cases y <;> simp only [half] at e <;> cases e
      simp only [Kd.deep] at this
      simp only [ht]
      simp only [if_true]
      omega
  | mk d t, ks, k, h, c, e => by
    simp only [kdp] at c
    cases e1 : t.jd (ks ++ [d]) with
    | none => simp [jd, e1] at e
    | some y =>
      have := jd_deep t (ks ++ [d]) y (fun x hx => by
        rcases List.mem_append.mp hx with hx | hx
        · exact h x hx
        · rw [List.mem_singleton.mp hx]; omega) (by omega) e1
      simp only [jd, e1, Option.map_some] at e
      cases e
      simp only [Kd.deep, ht]
      omega
  | doo a b, ks, k, h, c, e => by
    simp only [kdp] at c
    cases e1 : a.jd ks with
    | none => simp [jd, e1] at e
    | some y => cases e2 : b.jd ks with
      | none => simp [jd, e1, e2] at e
      | some z =>
        have := jd_deep a ks y h (by omega) e1
        simp only [jd, e1, e2, Option.bind_some] at e
        cases y <;> simp only [hand] at e <;> try cases e
        split at e
        · cases e
          simp only [Kd.deep] at this
          simp only [ht]
          omega
        · cases e
  | both a b, ks, k, h, c, e => by
    simp only [kdp] at c
    cases e1 : a.jd ks with
    | none => simp [jd, e1] at e
    | some y => cases e2 : b.jd ks with
      | none => simp [jd, e1, e2] at e
      | some z =>
        have := jd_deep a ks y h (by omega) e1
        have := jd_deep b ks z h (by omega) e2
        simp only [jd, e1, e2, Option.bind_some, Option.map_some] at e
        cases e
        simp only [Kd.deep, ht]
        omega
  | unit, ks, k, h, c, e => by cases e; simp [Kd.deep]
  | bad d, ks, k, h, c, e => by cases e
end Trm
end KB

/-! tables of sets of up to three hundred things: each search for what is new ends at a slot that is free -/
namespace KB
open PySem PySem.Spec PyProof.Rows L2
def Msk (m : Nat) : Prop := m = 7 ∨ m = 31 ∨ m = 127 ∨ m = 511
/-- so many turns of x to 5 x + 1 -/
def orb (m : Nat) : Nat → Nat → List Nat
  | 0, _ => []
  | n + 1, x => x :: orb m n ((x * 5 + 1) % (m + 1))
theorem orb_at (m : Nat) : ∀ (n k j : Nat), j ∈ orb m n (lcgN m k) → ∃ b, b < k + n ∧ lcgN m b = j
  | 0, _, _, z => by cases z
  | n + 1, k, j, z => by
    rcases List.mem_cons.mp z with z | z
    · exact ⟨k, by omega, z.symm⟩
    · obtain ⟨b, lt, e⟩ := orb_at m n (k + 1) j z
      exact ⟨b, by omega, e⟩
def marks : List Nat → Nat → Nat
  | [], a => a
  | x :: r, a => marks r (a ||| 2 ^ x)
theorem marks_bit : ∀ (l : List Nat) (a j : Nat), (marks l a).testBit j = true → a.testBit j = true ∨ j ∈ l
  | [], a, j, z => .inl z
  | x :: r, a, j, z => by
    rcases marks_bit r _ j z with z | z
    · rw [Nat.testBit_or, Bool.or_eq_true, Nat.testBit_two_pow, decide_eq_true_eq] at z
      rcases z with z | z
      · exact .inl z
      · exact .inr (by rw [z]; exact List.mem_cons_self)
    · exact .inr (List.mem_cons_of_mem _ z)
theorem orb_full {m : Nat} (M : Msk m) : marks (orb m (m + 1) 0) 0 = 2 ^ (m + 1) - 1 := by
  rcases M with rfl | rfl | rfl | rfl <;> decide +kernel
theorem cyc {m : Nat} (M : Msk m) {j : Nat} (lt : j ≤ m) : ∃ b, b ≤ m ∧ lcgN m b = j := by
  have z : (marks (orb m (m + 1) 0) 0).testBit j = true := by
    rw [orb_full M, Nat.testBit_two_pow_sub_one, decide_eq_true_eq]; omega
  rcases marks_bit _ _ _ z with z | z
  · simp at z
  · obtain ⟨b, h1, h2⟩ := orb_at m (m + 1) 0 j z
    exact ⟨b, by omega, h2⟩
theorem cyc_back {m : Nat} (M : Msk m) : ∀ k, lcgN m (m + 1 + k) = lcgN m k
  | 0 => by rcases M with rfl | rfl | rfl | rfl <;> decide +kernel
  | k + 1 => by
    have e := cyc_back M k
    show (lcgN m (m + 1 + k) * 5 + 1) % (m + 1) = _
    rw [e]; rfl
theorem cyc_from {m : Nat} (M : Msk m) {i j : Nat} (li : i ≤ m) (lj : j ≤ m) : ∃ k, k ≤ m ∧ lcgI m i k = j := by
  obtain ⟨x, hx, rfl⟩ := cyc M li
  obtain ⟨y, hy, rfl⟩ := cyc M lj
  by_cases c : x ≤ y
  · exact ⟨y - x, by omega, by rw [lcgN_add, Nat.add_sub_cancel' c]⟩
  · refine ⟨m + 1 + y - x, by omega, ?_⟩
    rw [lcgN_add, ← cyc_back M y]
    congr 1
    omega
theorem meets_run {m : Nat} (M : Msk m) (h : Int) {j : Nat} (lj : j ≤ m) : ∃ n, n ≤ m + 12 ∧ runI m (SetTable.bits h) n = j := by
  obtain ⟨k, lk, e⟩ := cyc_from M (runI_le m (SetTable.bits h) 12) lj
  refine ⟨12 + k, by omega, ?_⟩
  rw [runI_tail (bits_lt h), e]
theorem meets_way {m : Nat} (M : Msk m) (h : Int) {j : Nat} (lj : j ≤ m) : ∃ k, k < 10 * SetTable.turns m ∧ way m h k = j := by
  obtain ⟨n, ln, e⟩ := meets_run M h lj
  obtain ⟨k, lk, e2⟩ := run_nth m (SetTable.bits h) n
  exact ⟨k, by unfold SetTable.turns; omega, (congrArg SetTable.Probe.j e2).trans e⟩
theorem way_in (m : Nat) (h : Int) (k : Nat) : way m h k ≤ m := by
  have i0 : SetTable.bits h % (m + 1) ≤ m := by have := Nat.mod_lt (SetTable.bits h) (show 0 < m + 1 by omega); omega
  have b := runEnd_bd i0
  have z := L2.nth_in (m := m) k (runAt m (SetTable.bits h % (m + 1)) (SetTable.bits h)) (by show SetTable.bits h % (m + 1) + (SetTable.runEnd m (SetTable.bits h % (m + 1)) - SetTable.bits h % (m + 1)) ≤ m; omega)
  exact Nat.le_trans (Nat.le_add_right _ _) z
/-- a table of so many things, without dummies -/
structure Tb (t : SetTable) (n : Nat) : Prop where
  up : Ris t.place.toList
  dm : t.dummies = #[]
  num : t.place.size = n
  msk : Msk t.mask
  top : ∀ x ∈ t.place.toList, x ≤ t.mask
section
variable {t : SetTable} {n : Nat}
theorem Tb.free (T : Tb t n) (l : n ≤ t.mask) (h : Int) : ∃ K, K < 10 * SetTable.turns t.mask ∧ way t.mask h K ∉ t.place.toList ∧ ∀ k, k < K → way t.mask h k ∈ t.place.toList := by
  obtain ⟨j, lj, nj⟩ := st_missing t.place.toList (t.mask + 1) (by have := T.num; rw [Array.length_toList]; omega)
  obtain ⟨k, lk, e⟩ := meets_way T.msk h (j := j) (by omega)
  obtain ⟨K, a1, a2, a3⟩ := st_least (p := fun z => way t.mask h z ∉ t.place.toList) k (by rw [e]; exact nj)
  exact ⟨K, by omega, a2, fun q hq => Classical.byContradiction fun z => a3 q hq z⟩
theorem Tb.fits (T : Tb t n) (l : n ≤ t.mask) : t.fits n = true := by
  have := T.num
  unfold SetTable.fits SetTable.fill
  rw [T.dm]
  simp
  omega
theorem Tb.odd (T : Tb t n) : ¬ t.gaveWay = true := by
  unfold SetTable.gaveWay
  rcases T.msk with e | e | e | e <;> rw [e] <;> decide
theorem Tb.put (T : Tb t n) {j : Nat} (nj : j ∉ t.place.toList) (lj : j ≤ t.mask) : SetTable.below t.place j ≤ n ∧ Tb (t.put j).1 (n + 1) ∧ (t.put j).1.fill = n + 1 := by
  have c := (below_cut T.up j).1
  have hn := T.num
  have no : t.place[SetTable.below t.place j]? ≠ some j := fun e => nj (List.mem_of_getElem? (i := SetTable.below t.place j) (by rw [Array.getElem?_toList]; exact e))
  have e := put_place t j
  have z : (t.put j).1.place.size = n + 1 := by
    have q := congrArg List.length e
    rw [Array.length_toList, len_ins _ (by rw [Array.length_toList]; exact c), Array.length_toList, hn] at q
    exact q
  have d := put_dm T.dm j
  refine ⟨by omega, ⟨ris_insert T.up no, d, z, T.msk, fun x hx => ?_⟩, ?_⟩
  · rw [e] at hx
    rcases mem_ins.1 hx with q | q
    · rw [q]; exact lj
    · exact T.top x q
  · show (t.put j).1.place.size + (t.put j).1.dummies.size = n + 1
    rw [z, d]; rfl
end
/-- who sits where, when so many are laid -/
structure Ow (m n : Nat) (owner : Array (Option Nat)) : Prop where
  num : owner.size = m + 1
  all : ∀ k, k < n → ∃ j, j ≤ m ∧ oAt owner j = some k
  few : ∃ ps : List Nat, ps.length = n ∧ ∀ j, j ≤ m → oAt owner j ≠ none → j ∈ ps
theorem ow_start (m : Nat) : Ow m 0 (Array.replicate (m + 1) none) := ⟨by simp, fun k z => absurd z (Nat.not_lt_zero _), [], rfl, fun j lj z => absurd (oAt_init lj) z⟩
theorem free_any {m : Nat} (M : Msk m) (owner : Array (Option Nat)) (h : Int) {j : Nat} (lj : j ≤ m) (z : oAt owner j = none) :
    ∃ i, i ≤ m ∧ oAt owner i = none ∧ SetTable.layClean.free m owner (SetTable.turns m) (SetTable.bits h % (m + 1)) (SetTable.bits h) = some i := by
  obtain ⟨n, ln, e⟩ := meets_run M h lj
  have w0 : way m h (off m (SetTable.bits h % (m + 1)) (SetTable.bits h) n) = j := by
    have q := congrArg SetTable.Probe.j (nth_off m n (SetTable.bits h % (m + 1)) (SetTable.bits h))
    rw [itL_run] at q
    exact q.trans e
  obtain ⟨K, a1, a2, a3⟩ := st_least (p := fun q => oAt owner (way m h q) = none) (off m (SetTable.bits h % (m + 1)) (SetTable.bits h) n) (by rw [w0]; exact z)
  refine ⟨way m h K, way_in m h K, a2, free_spec m owner (SetTable.turns m) n _ _ K (by unfold SetTable.turns; omega) a1 (fun q lq => ?_) (Option.isNone_iff_eq_none.mpr a2)⟩
  cases y : (oAt owner (L2.nth m (runAt m (SetTable.bits h % (m + 1)) (SetTable.bits h)) q).j).isNone with
  | false => rfl
  | true => exact absurd (Option.isNone_iff_eq_none.mp y) (a3 q lq)
theorem Ow.step {m n : Nat} (M : Msk m) {owner : Array (Option Nat)} (W : Ow m n owner) (l : n ≤ m) (h : Int) :
    ∃ j, SetTable.layClean.free m owner (SetTable.turns m) (SetTable.bits h % (m + 1)) (SetTable.bits h) = some j ∧ Ow m (n + 1) (owner.setIfInBounds j (some n)) := by
  obtain ⟨ps, hps, hin⟩ := W.few
  obtain ⟨j0, l0, n0⟩ := st_missing ps (m + 1) (by omega)
  have e0 : oAt owner j0 = none := Classical.byContradiction fun z => n0 (hin j0 (by omega) z)
  obtain ⟨j, lj, ej, ef⟩ := free_any M owner h (j := j0) (by omega) e0
  have sj : j < owner.size := by have := W.num; omega
  refine ⟨j, ef, by rw [Array.size_setIfInBounds]; exact W.num, fun k lk => ?_, j :: ps, by rw [List.length_cons, hps], fun i li z => ?_⟩
  · by_cases c : k = n
    · exact ⟨j, lj, by rw [c]; exact oAt_set_self _ sj⟩
    · obtain ⟨i, li, ei⟩ := W.all k (by omega)
      exact ⟨i, li, (oAt_set_ne _ (fun q => by rw [q, ej] at ei; cases ei)).trans ei⟩
  · by_cases c : i = j
    · rw [c]; exact List.mem_cons_self
    · rw [oAt_set_ne _ c] at z
      exact List.mem_cons_of_mem _ (hin i li z)
theorem ow_fold {m : Nat} (M : Msk m) : ∀ (hs : List Int) (n : Nat) (owner : Array (Option Nat)), Ow m n owner → n + hs.length ≤ m → ∃ o2, hs.foldl (stepF m) (some (owner, n)) = some (o2, n + hs.length) ∧ Ow m (n + hs.length) o2
  | [], n, owner, W, _ => ⟨owner, rfl, W⟩
  | h :: r, n, owner, W, l => by
    rw [List.length_cons] at l
    obtain ⟨j, e, W2⟩ := W.step M (by omega) h
    obtain ⟨o2, e2, W3⟩ := ow_fold M r (n + 1) _ W2 (by omega)
    have q : n + (h :: r).length = n + 1 + r.length := by rw [List.length_cons]; omega
    rw [q]
    exact ⟨o2, by rw [List.foldl_cons, stepF_some e, e2], W3⟩
theorem relaid_tb (t : SetTable) {hs : Array Int} {wanted m : Nat} (e : SetTable.sizeAbove wanted - 1 = m) (M : Msk m) (l : hs.size ≤ m) :
    ∃ t2 order, t.relaid hs wanted = some (t2, order) ∧ order.toList.Perm (List.range hs.size) ∧ Tb t2 hs.size ∧ t2.mask = m ∧ t2.led = t.led ∧ t2.plain = t.plain := by
  obtain ⟨owner, f, W⟩ := ow_fold M hs.toList 0 _ (ow_start m) (by rw [Array.length_toList]; omega)
  rw [Array.length_toList, Nat.zero_add] at f W
  have lay : SetTable.layClean m hs = some owner := by rw [layClean_eq, f]; rfl
  obtain ⟨ps, p1, p2⟩ := W.few
  have rl := ris_live (fun j => owner.getD j none) (List.range (m + 1)) List.pairwise_lt_range
  have nd : ((liveOf m owner).map (·.1)).Nodup := List.Pairwise.imp (fun z => Nat.ne_of_lt z) rl.1
  have num : (liveOf m owner).length = hs.size := by
    have x1 := nat_nodup_len ((liveOf m owner).map (·.1)) ps nd fun x hx => by
      obtain ⟨⟨j, k⟩, hq, rfl⟩ := List.mem_map.mp hx
      obtain ⟨b1, b2⟩ := (mem_live W.num).1 hq
      exact p2 j b1 (by rw [b2]; exact fun z => nomatch z)
    have x2 := nat_nodup_len (List.range hs.size) ((liveOf m owner).map (·.2)) List.nodup_range fun k hk => by
      obtain ⟨j, b1, b2⟩ := W.all k (List.mem_range.mp hk)
      exact List.mem_map.mpr ⟨(j, k), (mem_live W.num).2 ⟨b1, b2⟩, rfl⟩
    rw [List.length_map] at x1 x2
    rw [List.length_range] at x2
    omega
  refine ⟨tabOf t m owner, ((liveOf m owner).map (·.2)).toArray, by rw [relaid_eq, e, lay]; rfl, ?_, ⟨rl.1, rfl, ?_, M, fun x hx => ?_⟩, rfl, rfl, rfl⟩
  · refine perm_range hs.size _ (by rw [List.length_map, num]) fun k lk => ?_
    obtain ⟨j, b1, b2⟩ := W.all k lk
    exact List.mem_map.mpr ⟨(j, k), (mem_live W.num).2 ⟨b1, b2⟩, rfl⟩
  · show ((liveOf m owner).map (·.1)).toArray.size = hs.size
    rw [List.size_toArray, List.length_map, num]
  · have := List.mem_range.mp (rl.2 x hx)
    show x ≤ m
    omega
theorem grown_77 : SetTable.sizeAbove (SetTable.grown 77) = 512 := by decide +kernel
end KB

/-! whole numbers, and tuples of such nested, as things of sets -/
namespace KB
open PySem PySem.Spec PyProof.Rows L2
mutual
def keyD : PyData → Bool
  | .int _ => true
  | .tuple l => keyDs l
  | _ => false
def keyDs : List PyData → Bool
  | [] => true
  | d :: r => keyD d && keyDs r
end
mutual
def nk : PyData → NestedKey
  | .int i => .num i
  | .tuple l => .tup (nks l)
  | _ => .none
def nks : List PyData → List NestedKey
  | [] => []
  | d :: r => nk d :: nks r
end
mutual
theorem nk_inj : ∀ d e : PyData, keyD d = true → keyD e = true → nk d = nk e → d = e
  | .int i, .int j, _, _, z => by simp only [nk, NestedKey.num.injEq] at z; rw [z]
  | .int i, .tuple l, _, _, z => by simp [nk] at z
  | .tuple l, .int i, _, _, z => by simp [nk] at z
  | .tuple l, .tuple m, x, y, z => by
    simp only [nk, NestedKey.tup.injEq] at z
    rw [nks_inj l m (by simpa [keyD] using x) (by simpa [keyD] using y) z]
  | .none, _, x, _, _ => by simp [keyD] at x
  | .bool _, _, x, _, _ => by simp [keyD] at x
  | .str _, _, x, _, _ => by simp [keyD] at x
  | .list _, _, x, _, _ => by simp [keyD] at x
  | .dict _, _, x, _, _ => by simp [keyD] at x
  | .int _, .none, _, y, _ => by simp [keyD] at y
  | .int _, .bool _, _, y, _ => by simp [keyD] at y
  | .int _, .str _, _, y, _ => by simp [keyD] at y
  | .int _, .list _, _, y, _ => by simp [keyD] at y
  | .int _, .dict _, _, y, _ => by simp [keyD] at y
  | .tuple _, .none, _, y, _ => by simp [keyD] at y
  | .tuple _, .bool _, _, y, _ => by simp [keyD] at y
  | .tuple _, .str _, _, y, _ => by simp [keyD] at y
  | .tuple _, .list _, _, y, _ => by simp [keyD] at y
  | .tuple _, .dict _, _, y, _ => by simp [keyD] at y
theorem nks_inj : ∀ l m : List PyData, keyDs l = true → keyDs m = true → nks l = nks m → l = m
  | [], [], _, _, _ => rfl
  | [], _ :: _, _, _, z => by simp [nks] at z
  | _ :: _, [], _, _, z => by simp [nks] at z
  | d :: r, e :: q, x, y, z => by
    simp only [keyDs, Bool.and_eq_true] at x y
    simp only [nks, List.cons.injEq] at z
    rw [nk_inj d e x.1 y.1 z.1, nks_inj r q x.2 y.2 z.2]
end
mutual
theorem nk_depth : ∀ d : PyData, keyD d = true → (nk d).depth = d.depth
  | .int _, _ => by simp [nk, NestedKey.depth, PyData.depth]
  | .tuple l, x => by
    simp only [nk, NestedKey.depth, PyData.depth]
    rw [nks_depth l (by simpa [keyD] using x)]
  | .none, x => by simp [keyD] at x
  | .bool _, x => by simp [keyD] at x
  | .str _, x => by simp [keyD] at x
  | .list _, x => by simp [keyD] at x
  | .dict _, x => by simp [keyD] at x
theorem nks_depth : ∀ l : List PyData, keyDs l = true → NestedKey.depthAll (nks l) = PyData.depthAll l
  | [], _ => by simp [nks, NestedKey.depthAll, PyData.depthAll]
  | d :: r, x => by
    simp only [keyDs, Bool.and_eq_true] at x
    simp only [nks, NestedKey.depthAll, PyData.depthAll]
    rw [nk_depth d x.1, nks_depth r x.2]
end
mutual
theorem nk_reads {h : Heap} : ∀ (d : PyData) (v : Value) (as : List Addr), Reads h v d as → keyD d = true → NestedIs h (nk d) v
  | .int i, _, _, r, _ => by cases r; exact .int _ _
  | .tuple l, _, _, r, x => by
    cases r with
    | tuple a1 a2 a3 a4 => exact .tup a1 a2 a3 (nks_reads l _ _ a4 (by simpa [keyD] using x))
  | .none, _, _, _, x => by simp [keyD] at x
  | .bool _, _, _, _, x => by simp [keyD] at x
  | .str _, _, _, _, x => by simp [keyD] at x
  | .list _, _, _, _, x => by simp [keyD] at x
  | .dict _, _, _, _, x => by simp [keyD] at x
theorem nks_reads {h : Heap} : ∀ (l : List PyData) (vs : List Value) (as : List Addr), ReadsAll h vs l as → keyDs l = true → NestedAll h (nks l) vs
  | [], _, _, r, _ => by cases r; exact .nil
  | d :: q, _, _, r, x => by
    simp only [keyDs, Bool.and_eq_true] at x
    cases r with
    | cons a1 a2 => exact .cons (nk_reads d _ _ a1 x.1) (nks_reads q _ _ a2 x.2)
end
mutual
def numK : NestedKey → Bool
  | .num _ => true
  | .tup ks => numKs ks
  | _ => false
def numKs : List NestedKey → Bool
  | [] => true
  | k :: r => numK k && numKs r
end
mutual
theorem nk_num : ∀ d : PyData, keyD d = true → numK (nk d) = true
  | .int _, _ => by simp [nk, numK]
  | .tuple l, x => by
    simp only [nk, numK]
    exact nks_num l (by simpa [keyD] using x)
  | .none, x => by simp [keyD] at x
  | .bool _, x => by simp [keyD] at x
  | .str _, x => by simp [keyD] at x
  | .list _, x => by simp [keyD] at x
  | .dict _, x => by simp [keyD] at x
theorem nks_num : ∀ l : List PyData, keyDs l = true → numKs (nks l) = true
  | [], _ => by simp [nks, numKs]
  | d :: r, x => by
    simp only [keyDs, Bool.and_eq_true] at x
    simp only [nks, numKs, nk_num d x.1, nks_num r x.2]; rfl
end
section
variable {P : Program} {w : World}
/-- its hash is told by its worth alone, and it is of no class statement -/
def HashAt (P : Program) (w : World) (n : Nat) (s : Shared) (v : Value) : Prop := (∀ (A : Around) (E : Value → Shared → Prop) (Q : Bool → Shared → Prop), Q true s → wpAny (model P w) A (hashByValue n v) Q E s) ∧
  ∀ (A : Around) (E : Value → Shared → Prop) (Q : Bool → Shared → Prop), Q false s → wpAny (model P w) A (ofAClassStatement n v) Q E s
theorem HashAt.flat {n : Nat} {s : Shared} {k : NestedKey} {v : Value} (x : NestedIs s.heap k v) (i : Int) (e : k = .num i) : HashAt P w n s v := by
  subst e
  cases x <;> exact ⟨fun A E Q q => by cases n <;> exact wpAny_pure q, fun A E Q q => by cases n <;> exact wpAny_pure q⟩
theorem HashAt.tup {n : Nat} {s : Shared} {a : Addr} {o : Obj} {vs : Array Value} {m : Nat} (ho : s.heap.get? a = some o) (hc : o.cls = .type "tuple") (hd : o.data = .seq vs m) (all : ∀ v ∈ vs.toList, HashAt P w n s v) : HashAt P w (n + 1) s (.ref a) := by
  have ty : s.TypeIs (.ref a) "tuple" := ⟨o, ho, hc⟩
  refine ⟨fun A E Q q => ?_, fun A E Q q => ?_⟩
  · unfold hashByValue
    refine wpAny_bind (wpAny_specialOf ty F.slot_tuple_hash.lookup ?_)
    show wpAny _ _ (seqItems? (.ref a) >>= _) _ _ s
    refine wpAny_bind (wpAny_seqItems ho hd (wpAny_bind ?_))
    show wpAny _ _ (forIn vs _ _) _ _ s
    rw [← Array.forIn_toList]
    refine wpAny_forIn_list _ (fun left r z => r.1 = none ∧ z = s ∧ ∀ v ∈ left, HashAt P w n s v) _ ?_ ?_ _ _ ⟨rfl, rfl, all⟩
    · rintro v left r z ⟨e, rfl, every⟩
      refine wpAny_bind ((every v List.mem_cons_self).1 _ _ _ ?_)
      simp only [Bool.not_true, Bool.false_eq_true, if_false]
      exact wpAny_pure ⟨rfl, rfl, fun u hu => every u (List.mem_cons_of_mem _ hu)⟩
    · rintro ⟨r1, r2⟩ z ⟨e, rfl, _⟩
      simp only at e
      subst e
      exact wpAny_pure q
  · unfold ofAClassStatement
    refine wpAny_bind (wpAny_typeOf ty ?_)
    dsimp only
    have tt : (("tuple" : String) == "tuple") = true := by decide
    simp only [tt, if_true, Bool.not_true, Bool.false_eq_true, if_false]
    try refine wpAny_bind (wpAny_pure ?_)
    try simp only [Bool.not_true, Bool.false_eq_true, if_false]
    show wpAny _ _ (seqItems? (.ref a) >>= _) _ _ s
    refine wpAny_bind (wpAny_seqItems ho hd ?_)
    dsimp only
    refine wpAny_bind ?_
    show wpAny _ _ (forIn vs _ _) _ _ s
    rw [← Array.forIn_toList]
    refine wpAny_forIn_list _ (fun left r z => r.1 = none ∧ z = s ∧ ∀ v ∈ left, HashAt P w n s v) _ ?_ ?_ _ _ ⟨rfl, rfl, all⟩
    · rintro v left r z ⟨e, rfl, every⟩
      refine wpAny_bind ((every v List.mem_cons_self).2 _ _ _ ?_)
      simp only [Bool.false_eq_true, if_false]
      exact wpAny_pure ⟨rfl, rfl, fun u hu => every u (List.mem_cons_of_mem _ hu)⟩
    · rintro ⟨r1, r2⟩ z ⟨e, rfl, _⟩
      simp only at e
      subst e
      exact wpAny_pure q
mutual
theorem hash_key : ∀ (k : NestedKey) (v : Value) (n : Nat) (s : Shared), NestedIs s.heap k v → numK k = true → k.depth ≤ n → HashAt P w n s v
  | .num i, _, n, s, x, _, _ => .flat x i rfl
  | .tup ks, _, n, s, x, y, l => by
    cases x with
    | tup a1 a2 a3 a4 =>
      simp only [NestedKey.depth] at l
      cases n with
      | zero => omega
      | succ n => exact .tup a1 a2 a3 (hash_keys ks _ n s a4 (by simpa [numK] using y) (by omega))
  | .none, _, _, _, _, y, _ => by simp [numK] at y
  | .text _, _, _, _, _, y, _ => by simp [numK] at y
theorem hash_keys : ∀ (ks : List NestedKey) (vs : List Value) (n : Nat) (s : Shared), NestedAll s.heap ks vs → numKs ks = true → NestedKey.depthAll ks ≤ n → ∀ v ∈ vs, HashAt P w n s v
  | [], _, n, s, x, _, _, v, hv => by cases x; cases hv
  | k :: r, _, n, s, x, y, l, v, hv => by
    simp only [numKs, Bool.and_eq_true] at y
    simp only [NestedKey.depthAll] at l
    cases x with
    | cons x1 x2 =>
      rcases List.mem_cons.mp hv with e | hv
      · rw [e]; exact hash_key k _ n s x1 y.1 (by omega)
      · exact hash_keys r _ n s x2 y.2 (by omega) v hv
end
/-- the tuple at an address is a thing of the sets that are told of here -/
structure Thg (h : Heap) (k : NestedKey) (a : Addr) : Prop where
  is : NestedIs h k (.ref a)
  num : numK k = true
  low : k.depth ≤ 8
theorem Thg.k {h : Heap} {k : NestedKey} {a : Addr} (x : Thg h k a) : (nestedKind P w).is h k a := ⟨x.is, x.low⟩
theorem Thg.keep {h h' : Heap} {k : NestedKey} {a : Addr} (x : Thg h k a) (q : ∀ b o, h.get? b = some o → h'.get? b = some o) : Thg h' k a := ⟨NestedIs.at (fun b o _ _ e _ => q b o e) k _ x.is, x.num, x.low⟩
theorem Thg.but {h h' : Heap} {k : NestedKey} {a d : Addr} {o : Obj} {es : Array (Int × Value)} {ep : Nat} {t : SetTable} (x : Thg h k a) (ho : h.get? d = some o) (hd : o.data = .set es ep t) (sb : Heap.SameBut d h h') : Thg h' k a := by
  refine ⟨NestedIs.at (fun b u vs n e z => ?_) k _ x.is, x.num, x.low⟩
  have ne : b ≠ d := fun q => by
    rw [q, ho] at e
    rw [← Option.some.inj e, hd] at z
    cases z
  exact (sb.2 b ne).trans e
/-- nobody sees a search among such things -/
theorem unseen {s : Shared} {A : Around} {E : Value → Shared → Prop} {k : NestedKey} {b : Addr} {Q : Bool → Shared → Prop} (x : Thg s.heap k b) {ys : List Value} (all : ∀ y ∈ ys, ∃ k' c, y = Value.ref c ∧ Thg s.heap k' c) (q : Q false s) : wpAny (model P w) A (searchCouldBeSeen (.ref b) ys) Q E s := by
  unfold searchCouldBeSeen
  refine wpAny_bind ?_
  refine wpAny_forIn_list _ (fun left r z => r.1 = none ∧ z = s ∧ ∀ y ∈ left, ∃ k' c, y = Value.ref c ∧ Thg s.heap k' c) _ ?_ ?_ _ _ ⟨rfl, rfl, all⟩
  · rintro v left r z ⟨e, rfl, every⟩
    obtain ⟨k2, c, rfl, xc⟩ := every v List.mem_cons_self
    have on : ∀ y ∈ left, ∃ k' c, y = Value.ref c ∧ Thg z.heap k' c := fun u hu => every u (List.mem_cons_of_mem _ hu)
    dsimp only
    by_cases very : (b == c || (carriedByValue (.ref b) && carriedByValue (.ref c))) = true
    · exact wp_if_pos very (wpAny_pure ⟨rfl, rfl, on⟩)
    · refine wp_if_neg very ?_
      refine wpAny_bind ((nestedKind P w).quiet x.k ?_)
      simp only [Bool.not_true, Bool.false_eq_true, if_false]
      refine wpAny_bind ((nestedKind P w).quiet xc.k ?_)
      simp only [Bool.not_true, Bool.false_eq_true, if_false]
      refine wpAny_bind ((hash_key k _ 8 z x.is x.num x.low).2 _ _ _ ?_)
      simp only [Bool.false_eq_true, if_false]
      refine wpAny_bind ((hash_key k2 _ 8 z xc.is xc.num xc.low).2 _ _ _ ?_)
      simp only [Bool.false_eq_true, if_false]
      exact wpAny_pure ⟨rfl, rfl, on⟩
  · rintro ⟨r1, r2⟩ z ⟨e, rfl, _⟩
    simp only at e
    subst e
    exact wpAny_pure q
end
end KB

/-! a set made of a list of tuples of which no two are equal -/
namespace KB
open PySem PySem.Spec PyProof.Rows L2
def rowsV (w : World) (L : List (Addr × NestedKey)) : List (Int × Value) := L.map fun p => (p.2.hash w, Value.ref p.1)
structure SetV (w : World) (h : Heap) (a : Addr) (L : List (Addr × NestedKey)) (es : Array (Int × Value)) (ep : Nat) (t : SetTable) : Prop where
  ob : ∃ o, h.get? a = some o ∧ o.ExactSet ∧ o.data = .set es ep t
  rows : es.toList = rowsV w L
  tab : Tb t L.length
  nd : (L.map (·.2)).Nodup
  thg : ∀ p ∈ L, Thg h p.2 p.1
  plain : t.plain = true
  led : w.params.followText "set-order" = true ∨ t.led = true
  room : L.length * 5 < t.mask * 3
  few : L.length ≤ 300
section
variable {P : Program} {w : World} {A : Around} {E : Value → Shared → Prop} {s : Shared} {a : Addr} {L : List (Addr × NestedKey)} {es : Array (Int × Value)} {ep : Nat} {t : SetTable}
theorem SetV.num (R : SetV w s.heap a L es ep t) : es.size = L.length := by
  have q := congrArg List.length R.rows
  rwa [Array.length_toList, rowsV, List.length_map] at q
theorem SetV.fits (R : SetV w s.heap a L es ep t) : t.fits es.size = true := by
  rw [R.num]
  exact R.tab.fits (by have := R.room; omega)
theorem SetV.at (R : SetV w s.heap a L es ep t) {i : Nat} {p : Addr × NestedKey} (e : L[i]? = some p) : es[i]? = some (p.2.hash w, Value.ref p.1) := by
  rw [← Array.getElem?_toList, R.rows, rowsV, List.getElem?_map, e]; rfl
theorem nth_plain (m : Nat) : ∀ (n : Nat) (p : SetTable.Probe), p.dummy = none → (L2.nth m p n).dummy = none
  | 0, _, z => z
  | n + 1, p, z => nth_plain m n (adv m p) (by unfold adv; split <;> exact z)
/-- what is new is looked for in vain, up to a free slot -/
theorem SetV.seek (R : SetV w s.heap a L es ep t) {x : Addr} {k : NestedKey} (hx : Thg s.heap k x) (new : k ∉ L.map (·.2)) (hu : A.units + 8 < cLine) {K : Nat} (lK : K < 10 * SetTable.turns t.mask) (fr : way t.mask (k.hash w) K ∉ t.place.toList) (occ : ∀ c, c < K → way t.mask (k.hash w) c ∈ t.place.toList)
    {Q : SetFound → Shared → Prop} (q : Q (.free (way t.mask (k.hash w) K) false) s) :
    ∀ (f c : Nat) (stand : Option SetTable.Probe), stand.getD (t.probeStart (k.hash w)) = L2.nth t.mask (runAt t.mask (SetTable.bits (k.hash w) % (t.mask + 1)) (SetTable.bits (k.hash w))) c → c ≤ K → K - c < f →
      wpAny (model P w) A (setSearchFrom a (.ref x) (k.hash w) true f stand) Q E s
  | 0, _, _, _, _, z => absurd z (Nat.not_lt_zero _)
  | f + 1, c, stand, est, lc, lf => by
    obtain ⟨o, ho, hex, hd⟩ := R.ob
    rw [setSearchFrom_succ]
    refine wpAny_bind (wpAny_setState_of ho hd R.fits ?_)
    dsimp only
    refine wp_if_neg R.tab.odd ?_
    try refine wpAny_bind (wpAny_pure ?_)
    have shift : ∀ z, (L2.nth t.mask (L2.nth t.mask (runAt t.mask (SetTable.bits (k.hash w) % (t.mask + 1)) (SetTable.bits (k.hash w))) c) z) = L2.nth t.mask (runAt t.mask (SetTable.bits (k.hash w) % (t.mask + 1)) (SetTable.bits (k.hash w))) (c + z) := fun z => (L2.nth_add t.mask c _ z).symm
    have sj : ∀ z, (L2.nth t.mask (L2.nth t.mask (runAt t.mask (SetTable.bits (k.hash w) % (t.mask + 1)) (SetTable.bits (k.hash w))) c) z).j = way t.mask (k.hash w) (c + z) := fun z => congrArg SetTable.Probe.j (shift z)
    have goes := go_spec t R.tab.up R.tab.dm (fun i => (es[i]?.map (·.1)).getD 0) (k.hash w) (10 * SetTable.turns t.mask) (K - c) _ (nth_plain t.mask c _ rfl) (by omega)
      (fun z lz => by rw [sj]; exact occ (c + z) (by omega)) (by rw [sj, show c + (K - c) = K by omega]; exact fr)
    rcases goes with ⟨z, i, lz, pi, _, _, go⟩ | ⟨_, go⟩
    · have met : t.probe (fun i => (es[i]?.map (·.1)).getD 0) (k.hash w) (stand.getD (t.probeStart (k.hash w))) = some (.candidate (way t.mask (k.hash w) (c + z)) i (L2.nth t.mask (runAt t.mask (SetTable.bits (k.hash w) % (t.mask + 1)) (SetTable.bits (k.hash w))) (c + (z + 1)))) := by
        rw [est, ← sj, ← shift]
        exact go
      rw [met]
      dsimp only
      rw [sj] at pi
      have li : i < L.length := by
        have l1 : i < t.place.toList.length := (List.getElem?_eq_some_iff.mp pi).1
        have l2 := R.tab.num
        rw [Array.length_toList] at l1
        omega
      have ep' : L[i]? = some L[i] := List.getElem?_eq_getElem li
      have mem : L[i] ∈ L := List.getElem_mem li
      have ne : L[i].2 ≠ k := fun e => new (List.mem_map.mpr ⟨L[i], mem, e⟩)
      have on : wpAny (model P w) A (searchRest a (.ref x) (k.hash w) true f es t (way t.mask (k.hash w) (c + z)) i (L2.nth t.mask (runAt t.mask (SetTable.bits (k.hash w) % (t.mask + 1)) (SetTable.bits (k.hash w))) (c + (z + 1)))) Q E s := by
        unfold searchRest
        rw [R.at ep']
        dsimp only
        refine wpAny_bind (wpAny_holding ((nestedKind P w).eqBool hu (R.thg _ mem).k hx.k ?_))
        refine wpAny_bind (wpAny_setState_of ho hd R.fits ?_)
        dsimp only
        refine wp_if_neg (by simp [ne]) ?_
        try refine wpAny_bind (wpAny_pure ?_)
        rw [sameMem]
        dsimp only
        have live : t.slot (way t.mask (k.hash w) (c + z)) = .live i := slot_live R.tab.up pi
        simp only [if_true, live, R.at ep']
        refine wpAny_bind (wpAny_isSame_ref_self (wpAny_bind (wpAny_pure ?_)))
        simp only [if_true]
        refine wp_if_neg (by simp [ne]) ?_
        exact R.seek hx new hu lK fr occ q f (c + (z + 1)) _ rfl (by omega) (by omega)
      by_cases led : t.led = true
      · refine wp_if_neg (by simp [led]) ?_
        try refine wpAny_bind (wpAny_pure ?_)
        exact on
      · refine wp_if_pos (by simp [led]) ?_
        refine wpAny_bind (unseen hx (fun y hy => ?_) ?_)
        · obtain ⟨e, he, ee⟩ := List.mem_map.mp hy
          have he1 : e ∈ es ∧ e.1 = k.hash w := by simpa using he
          have he2 : e ∈ es.toList := by simpa using he1.1
          rw [R.rows] at he2
          obtain ⟨p2, hp2, e2⟩ := List.mem_map.mp he2
          exact ⟨p2.2, p2.1, by rw [← ee, ← e2], R.thg p2 hp2⟩
        · refine wp_if_neg (by decide) ?_
          try refine wpAny_bind (wpAny_pure ?_)
          exact on
    · have met : t.probe (fun i => (es[i]?.map (·.1)).getD 0) (k.hash w) (stand.getD (t.probeStart (k.hash w))) = some (.empty (way t.mask (k.hash w) K) none) := by
        have e2 := sj (K - c)
        rw [show c + (K - c) = K by omega] at e2
        rw [est, ← e2]
        exact go
      rw [met]
      dsimp only
      exact wpAny_pure q
theorem SetV.search (R : SetV w s.heap a L es ep t) {x : Addr} {k : NestedKey} (hx : Thg s.heap k x) (new : k ∉ L.map (·.2)) (hu : A.units + 8 < cLine) {Q : SetFound → Shared → Prop}
    (q : ∀ j, j ∉ t.place.toList → j ≤ t.mask → Q (.free j false) s) : wpAny (model P w) A (setSearch a (.ref x) (k.hash w) true) Q E s := by
  have rm := R.room
  obtain ⟨K, lK, fr, occ⟩ := R.tab.free (by omega) (k.hash w)
  have big : 10 * SetTable.turns t.mask ≤ 6000 := by
    unfold SetTable.turns
    rcases R.tab.msk with e | e | e | e <;> omega
  unfold setSearch
  exact R.seek hx new hu lK fr occ (q _ fr (way_in _ _ _)) 100000 0 none rfl (Nat.zero_le _) (by omega)
theorem rowsV_put (w : World) (L : List (Addr × NestedKey)) (n : Nat) (p : Addr × NestedKey) : rowsV w (L.take n ++ p :: L.drop n) = (rowsV w L).take n ++ (p.2.hash w, Value.ref p.1) :: (rowsV w L).drop n := by
  simp only [rowsV, List.map_append, List.map_cons, List.map_take, List.map_drop]
/-- a table laid anew holds the same rows -/
theorem rowsV_order (L : List (Addr × NestedKey)) (es : Array (Int × Value)) (order : Array Nat) (e : es.toList = rowsV w L) (pm : order.toList.Perm (List.range L.length)) : ∃ M, (order.filterMap (es[·]?)).toList = rowsV w M ∧ M.Perm L := by
  have each : ∀ i, es[i]? = (L[i]?).map (fun p : Addr × NestedKey => (p.2.hash w, Value.ref p.1)) := fun i => by
    rw [← Array.getElem?_toList, e, rowsV, List.getElem?_map]
  refine ⟨order.toList.filterMap fun i => L[i]?, ?_, ?_⟩
  · rw [Array.toList_filterMap, rowsV, List.map_filterMap]
    congr 1
    funext i
    exact each i
  · refine (pm.filterMap fun i => L[i]?).trans ?_
    have all : ∀ n, n ≤ L.length → (List.range n).filterMap (fun i => L[i]?) = L.take n := fun n => by
      induction n with
      | zero => intro _; simp
      | succ n ih =>
        intro l
        have lt : n < L.length := by omega
        rw [List.range_succ, List.filterMap_append, ih (by omega), List.take_succ, List.getElem?_eq_getElem lt]
        simp [List.getElem?_eq_getElem lt]
    rw [all L.length (Nat.le_refl _), List.take_length]
end
end KB

/-! a set grown thing by thing; len of it -/
namespace KB
open PySem PySem.Spec PyProof.Rows L2
section
variable {P : Program} {w : World} {A : Around} {E : Value → Shared → Prop} {s : Shared} {a : Addr} {L : List (Addr × NestedKey)} {es : Array (Int × Value)} {ep : Nat} {t : SetTable}
/-- the table is laid anew, so much larger -/
theorem relay_v {o : Obj} (ho : s.heap.get? a = some o) (hex : o.ExactSet) (hd : o.data = .set es ep t) (rows : es.toList = rowsV w L) (T : Tb t L.length) (fill : L.length ≤ t.mask) (nd : (L.map (·.2)).Nodup) (thg : ∀ p ∈ L, Thg s.heap p.2 p.1) (pl : t.plain = true) (led : w.params.followText "set-order" = true ∨ t.led = true) (few : L.length ≤ 300)
    {wanted m : Nat} (e : SetTable.sizeAbove wanted - 1 = m) (M : Msk m) (small : SetTable.sizeAbove wanted ≤ 512) (rm : L.length * 5 < m * 3) {Q : Unit → Shared → Prop}
    (q : ∀ h' L' es' ep' t', Heap.SameBut a s.heap h' → SetV w h' a L' es' ep' t' → L'.Perm L → Q () { s with heap := h' }) : wpAny (model P w) A (setRelay a wanted) Q E s := by
  have num : es.size = L.length := by
    have z := congrArg List.length rows
    rwa [Array.length_toList, rowsV, List.length_map] at z
  have fits : t.fits es.size = true := by rw [num]; exact T.fits fill
  obtain ⟨t2, order, re, pm, T2, em, el, epl⟩ := relaid_tb t (hs := es.map (·.1)) e M (by rw [Array.size_map, num]; omega)
  rw [Array.size_map, num] at pm T2
  obtain ⟨L2, r2, pm2⟩ := rowsV_order L es order rows pm
  have num2 : (order.filterMap (es[·]?)).size = es.size := by
    have z := congrArg List.length r2
    rw [Array.length_toList, rowsV, List.length_map, pm2.length_eq] at z
    rw [z, num]
  rw [setRelay_eq]
  refine wpAny_bind (wpAny_setState_of ho hd fits ?_)
  dsimp only
  refine wp_if_neg (by rw [sizeLine_eq]; omega) ?_
  try refine wpAny_bind (wpAny_pure ?_)
  rw [re]
  dsimp only
  refine wpAny_bind ?_
  refine wp_if_neg (by rw [num2]; simp) ?_
  try refine wpAny_bind (wpAny_pure ?_)
  refine wpAny_pure ?_
  dsimp only
  refine wpAny_storeSet_of ho hd ?_ (by rw [num2, num, sizeLine_eq]; omega)
  have sb : Heap.SameBut a s.heap (s.heap.update a (Obj.putSet (order.filterMap (es[·]?)) t2)) := Heap.SameBut.update ..
  refine q _ L2 (order.filterMap (es[·]?)) (ep + 1) t2 sb ⟨⟨_, store_at ho hd, ⟨hex.1, hex.2.1, hex.2.2⟩, rfl⟩, r2, by rw [pm2.length_eq]; exact T2, (pm2.map (·.2)).nodup_iff.mpr nd, fun p hp => (thg p (pm2.mem_iff.mp hp)).but ho hd sb, by rw [epl]; exact pl, by rw [el]; exact led, by rw [pm2.length_eq, em]; exact rm, by rw [pm2.length_eq]; exact few⟩ pm2
/-- a new thing is put in -/
theorem SetV.add (R : SetV w s.heap a L es ep t) {x : Addr} {k : NestedKey} (hx : Thg s.heap k x) (new : k ∉ L.map (·.2)) (hu : A.units + 8 < cLine) (more : L.length + 1 ≤ 300) {Q : Bool → Shared → Prop}
    (q : ∀ b h' L' es' ep' t', Heap.SameBut a s.heap h' → SetV w h' a L' es' ep' t' → L'.Perm ((x, k) :: L) → Q b { s with heap := h' }) : wpAny (model P w) A (setAddHashed a (.ref x) (k.hash w)) Q E s := by
  obtain ⟨o, ho, hex, hd⟩ := R.ob
  have num := R.num
  have rm := R.room
  unfold setAddHashed
  refine wpAny_holding ?_
  rw [show (100000 : Nat) = 99999 + 1 from rfl, setAddHashedIn_succ]
  refine wpAny_bind (wpAny_setState_of ho hd R.fits ?_)
  dsimp only
  refine wp_if_neg (by simp [byScan, Value.scannable]) ?_
  try refine wpAny_bind (wpAny_pure ?_)
  refine wpAny_bind (R.search hx new hu fun j nj lj => ?_)
  dsimp only
  refine wpAny_bind (wpAny_setState_of ho hd R.fits ?_)
  dsimp only
  obtain ⟨lb, T1, fill⟩ := R.tab.put nj lj
  have pl1 : (t.put j).1.plain = true := R.plain
  have msk1 : (t.put j).1.mask = t.mask := rfl
  have led1 : (t.put j).1.led = t.led := rfl
  have at1 : (t.put j).2 = SetTable.below t.place j := rfl
  generalize t.put j = pt at T1 fill pl1 msk1 led1 at1 ⊢
  obtain ⟨t1, n⟩ := pt
  dsimp only at T1 fill pl1 msk1 led1 at1 ⊢
  rw [← at1] at lb
  first
    | (refine wpAny_bind ?_; refine wp_if_pos pl1 ?_; refine (hash_key k _ 8 s hx.is hx.num hx.low).1 _ _ _ ?_)
    | refine wp_if_pos pl1 (wpAny_bind ((hash_key k _ 8 s hx.is hx.num hx.low).1 _ _ _ ?_))
  simp only [if_true]
  have rows1 : (SetTable.insertAt es n (k.hash w, Value.ref x)).toList = rowsV w (L.take n ++ (x, k) :: L.drop n) := by
    rw [SetTable.toList_insertAt, rowsV_put, R.rows]
  have pm := put_perm L n (x, k)
  generalize hL : L.take n ++ (x, k) :: L.drop n = L1 at rows1 pm
  have len1 : L1.length = L.length + 1 := pm.length_eq
  have nd1 : (L1.map (·.2)).Nodup := (pm.map (·.2)).nodup_iff.mpr (List.nodup_cons.mpr ⟨new, R.nd⟩)
  have num1 : (SetTable.insertAt es n (k.hash w, Value.ref x)).size = L.length + 1 := by
    have z := congrArg List.length rows1
    rwa [Array.length_toList, rowsV, List.length_map, len1] at z
  generalize SetTable.insertAt es n (k.hash w, Value.ref x) = es1 at rows1 num1 ⊢
  refine wpAny_bind (wpAny_storeSet_of ho hd ?_ (by rw [num1, sizeLine_eq]; omega))
  have sb : Heap.SameBut a s.heap (s.heap.update a (Obj.putSet es1 t1)) := Heap.SameBut.update ..
  have ho1 := store_at (es' := es1) (t' := t1) ho hd
  generalize s.heap.update a (Obj.putSet es1 t1) = h1 at sb ho1 ⊢
  have thg1 : ∀ p ∈ L1, Thg h1 p.2 p.1 := fun p hp => by
    rcases List.mem_cons.mp (pm.mem_iff.mp hp) with z | z
    · rw [z]; exact hx.but ho hd sb
    · exact (R.thg p z).but ho hd sb
  have ld1 : w.params.followText "set-order" = true ∨ t1.led = true := by rw [led1]; exact R.led
  rw [← len1] at T1
  by_cases full : t1.tooFull = true
  · first
      | (refine wpAny_bind ?_; refine wp_if_pos (by simp [full]) ?_)
      | (refine wp_if_pos (by simp [full]) ?_; refine wpAny_bind ?_)
    have f1 : (L.length + 1) * 5 ≥ t.mask * 3 := by
      have z := full
      unfold SetTable.tooFull at z
      rwa [decide_eq_true_eq, fill, msk1] at z
    rw [num]
    have cases3 : (t.mask = 7 ∧ L.length = 4) ∨ (t.mask = 31 ∧ L.length = 18) ∨ (t.mask = 127 ∧ L.length = 76) := by
      rcases R.tab.msk with z | z | z | z <;> rw [z] at f1 rm
      · exact .inl ⟨z, by omega⟩
      · exact .inr (.inl ⟨z, by omega⟩)
      · exact .inr (.inr ⟨z, by omega⟩)
      · omega
    have go : ∀ m, SetTable.sizeAbove (SetTable.grown (L.length + 1)) - 1 = m → Msk m → SetTable.sizeAbove (SetTable.grown (L.length + 1)) ≤ 512 → (L.length + 1) * 5 < m * 3 →
        wpAny (model P w) A (setRelay a (SetTable.grown (L.length + 1))) (fun _ z => wpAny (model P w) A (pure true) Q E z) E { s with heap := h1 } := fun m g1 g2 g3 g4 => by
      refine relay_v (s := { s with heap := h1 }) ho1 ⟨hex.1, hex.2.1, hex.2.2⟩ rfl rows1 T1 (by rw [len1, msk1]; rcases cases3 with ⟨z, y⟩ | ⟨z, y⟩ | ⟨z, y⟩ <;> omega) nd1 thg1 pl1 ld1 (by rw [len1]; exact more) g1 g2 g3 (by rw [len1]; exact g4) ?_
      intro h2 L2 es2 ep2 t2 sb2 R2 pm2
      exact wpAny_pure (q true h2 L2 es2 ep2 t2 (sb.trans sb2) R2 (pm2.trans pm))
    rcases cases3 with ⟨_, z⟩ | ⟨_, z⟩ | ⟨_, z⟩
    · exact go 31 (by rw [z, size_20]) (.inr (.inl rfl)) (by rw [z, size_20]; decide) (by omega)
    · exact go 127 (by rw [z, size_76]) (.inr (.inr (.inl rfl))) (by rw [z, size_76]; decide) (by omega)
    · exact go 511 (by rw [z, grown_77]) (.inr (.inr (.inr rfl))) (by rw [z, grown_77]; decide) (by omega)
  · first
      | refine wp_if_neg (by simp [full]) ?_
      | (refine wpAny_bind ?_; refine wp_if_neg (by simp [full]) ?_; refine wpAny_pure ?_)
    refine wpAny_pure (q true h1 L1 es1 (ep + 1) t1 sb ⟨⟨_, ho1, ⟨hex.1, hex.2.1, hex.2.2⟩, rfl⟩, rows1, T1, nd1, thg1, pl1, ld1, ?_, by rw [len1]; exact more⟩ pm)
    have z := full
    unfold SetTable.tooFull at z
    rw [decide_eq_true_eq, fill] at z
    rw [len1]
    omega
theorem SetV.keep {h h' : Heap} (R : SetV w h a L es ep t) (ha : ∀ o, h.get? a = some o → h'.get? a = some o) (ht : ∀ p ∈ L, Thg h' p.2 p.1) : SetV w h' a L es ep t := by
  obtain ⟨o, ho, r⟩ := R.ob
  exact ⟨⟨o, ha o ho, r⟩, R.rows, R.tab, R.nd, ht, R.plain, R.led, R.room, R.few⟩
theorem setV_new {h : Heap} (ho : h.get? a = some { cls := .type "set", dict := none, data := .set #[] 0 (.fresh 0 0 (!w.params.followText "set-order")) }) : SetV w h a [] #[] 0 (.fresh 0 0 (!w.params.followText "set-order")) := by
  refine ⟨⟨_, ho, ⟨rfl, rfl, rfl⟩, rfl⟩, rfl, ⟨List.Pairwise.nil, rfl, rfl, .inl rfl, fun x hx => by cases hx⟩, List.nodup_nil, fun p hp => (by cases hp), rfl, ?_, (by show 0 * 5 < 7 * 3; decide), Nat.zero_le _⟩
  show _ ∨ (!w.params.followText "set-order") = true
  cases w.params.followText "set-order"
  · exact .inr rfl
  · exact .inl rfl
end
end KB

/-! set(a list of tuples nested of which no two are equal) -/
namespace KB
open PySem PySem.Spec PyProof.Rows L2
theorem first_met {ks : List (Addr × NestedKey)} {i : Nat} {p : Addr × NestedKey} (nd : (ks.map (·.2)).Nodup) (e : ks[i]? = some p) : p.2 ∉ (ks.take i).map (·.2) := fun z => by
  have q : ((ks.take (i + 1)).map (·.2)).Nodup := nd.sublist ((List.take_sublist _ _).map _)
  rw [take_next e, List.map_append, List.nodup_append] at q
  exact q.2.2 _ z _ (by simp) rfl
section
variable {P : Program} {w : World} {A : Around} {E : Value → Shared → Prop} {s : Shared}
abbrev fresh0 (w : World) : Obj := { cls := .type "set", dict := none, data := .set #[] 0 (.fresh 0 0 (!w.params.followText "set-order")) }
/-- what has been laid when so many have been looked at -/
def Laid (w : World) (S : Addr) (ks : List (Addr × NestedKey)) (i : Nat) (h : Heap) : Prop := ∃ L es ep t, SetV w h S L es ep t ∧ L.Perm (ks.take i)
theorem Laid.next {S : Addr} {ks : List (Addr × NestedKey)} {i : Nat} {z : Shared} {p : Addr × NestedKey} (g : Laid w S ks i z.heap) (e : ks[i]? = some p) (nd : (ks.map (·.2)).Nodup) (few : ks.length ≤ 300) (x : Thg z.heap p.2 p.1) (hu : A.units + 8 < cLine) {Q : Bool → Shared → Prop}
    (q : ∀ b h', Heap.SameBut S z.heap h' → Laid w S ks (i + 1) h' → Q b { z with heap := h' }) : wpAny (model P w) A (setAddHashed S (.ref p.1) (p.2.hash w)) Q E z := by
  obtain ⟨L, es, ep, t, R, pm⟩ := g
  have new : p.2 ∉ L.map (·.2) := fun y => first_met nd e ((pm.map (·.2)).mem_iff.mp y)
  have li : i < ks.length := (List.getElem?_eq_some_iff.mp e).1
  have num : L.length = i := by rw [pm.length_eq, List.length_take]; omega
  refine R.add x new hu (by omega) fun b h' L2 es2 ep2 t2 sb R2 pm2 => q b h' sb ⟨L2, es2, ep2, t2, R2, ?_⟩
  rw [take_next e]
  refine pm2.trans (List.Perm.trans (List.Perm.cons p pm) ?_)
  exact (List.perm_append_singleton p _).symm
theorem Laid.keep {S : Addr} {ks : List (Addr × NestedKey)} {i : Nat} {h0 h h' : Heap} (g : Laid w S ks i h) (thg : ∀ p ∈ ks, Thg h0 p.2 p.1) (k : ∀ b o, h0.get? b = some o → h'.get? b = some o) (ha : ∀ o, h.get? S = some o → h'.get? S = some o) : Laid w S ks i h' := by
  obtain ⟨L, es, ep, t, R, pm⟩ := g
  exact ⟨L, es, ep, t, R.keep ha fun p hp => (thg p (List.mem_of_mem_take (pm.mem_iff.mp hp))).keep k, pm⟩
/-- the walk of set.update -/
theorem update_v {it S : Addr} {fp wr : List Addr} {G : Array GenState → Array GenState → Prop} {n : Nat} {Pv : Nat → Value → Prop} {St : Nat → Shared → Prop} {R : Result → Shared → Prop} (W : WalksS P w A.in1 it fp wr G n Pv St) (off : S ∉ fp) {ks : List (Addr × NestedKey)} (num : n = ks.length) (nd : (ks.map (·.2)).Nodup) (few : ks.length ≤ 300)
    (each : ∀ i v, Pv i v → ∃ p, ks[i]? = some p ∧ v = .ref p.1) {h0 : Heap} (thg : ∀ p ∈ ks, Thg h0 p.2 p.1) (nS : h0.get? S = none) (nW : ∀ b ∈ wr, h0.get? b = none) (hu : A.in1.units + 8 < cLine) : ∀ (k i : Nat) (z : Shared), n - i = k → i ≤ n → St i z → (∀ b o, h0.get? b = some o → z.heap.get? b = some o) → Laid w S ks i z.heap →
      (∀ z', Moved (S :: wr) G z z' → Laid w S ks n z'.heap → (∀ b o, h0.get? b = some o → z'.heap.get? b = some o) → R (.ok (.ret .none)) z') → codeAny (model P w) A (.builtin "set.update.loop" ⟨[.ref S, .ref it], []⟩) R z := by
  have offw : S ∉ wr := fun y => off (W.sub _ y)
  have incl : ∀ b ∈ wr, b ∈ S :: wr := fun b y => List.mem_cons_of_mem _ y
  have stay : ∀ {z z' : Shared}, Moved wr G z z' → (∀ b o, h0.get? b = some o → z.heap.get? b = some o) → ∀ b o, h0.get? b = some o → z'.heap.get? b = some o := fun m y b o e => m.heap b o (fun c => by rw [nW b c] at e; cases e) (y b o e)
  intro k
  induction k with
  | zero =>
    intro i z ek le st old g fin
    have ei : i = n := by omega
    subst ei
    refine codeAny_builtin F.entry_set_update_loop ?_; rw [Around.under_plainId F.plain_set_update_loop _]
    show wpAny _ A.in1 (pyNext (.ref it) >>= _) _ _ z; refine wpAny_bind (W.done z _ _ st fun z' m => ?_)
    have old' := stay m old
    show wpAny _ A.in1 (ret Value.none) _ _ z'; exact wpAny_pure (fin z' (m.mono incl) (g.keep thg old' fun o e => m.heap S o offw e) old')
  | succ k ih =>
    intro i z ek le st old g fin
    have lt : i < n := by omega
    refine codeAny_builtin F.entry_set_update_loop ?_; rw [Around.under_plainId F.plain_set_update_loop _]
    show wpAny _ A.in1 (pyNext (.ref it) >>= _) _ _ z; refine wpAny_bind (W.item i z _ _ lt st fun v z' pv st' m => ?_)
    obtain ⟨p, ep, rfl⟩ := each i v pv
    have old' := stay m old
    have g' : Laid w S ks i z'.heap := g.keep thg old' fun o e => m.heap S o offw e
    have x : Thg z'.heap p.2 p.1 := (thg p (List.mem_of_getElem? ep)).keep old'
    have dp := x.low
    show wpAny _ A.in1 (holding [Value.ref p.1] (setAdd S (.ref p.1)) >>= _) _ _ z'; refine wpAny_bind (wpAny_holding ?_)
    unfold setAdd
    refine wpAny_holding (wpAny_bind (pyHash_key p.2 _ _ z' _ x.is (by omega) ?_))
    refine g'.next (z := { z' with toks := z'.toks + p.2.draws }) ep nd few x hu fun b h' sb g2 => ?_
    have old2 : ∀ b o, h0.get? b = some o → h'.get? b = some o := fun b o e => (sb.2 b (fun c => by rw [c, nS] at e; cases e)).trans (old' b o e)
    refine wpAny_pure ⟨plainId_quiet F.plain_set_update_loop _, ih (i + 1) _ (by omega) lt (W.frame _ z' _ _ st' (Nat.le_add_right _ _) fun b y o e => ?_) old2 g2 fun z2 m2 g3 old3 => ?_⟩
    · rw [sb.2 b (fun c : b = S => off (by rw [← c]; exact y))]; exact e
    · refine fin z2 (Moved.trans W.gtrans ((m.mono incl).then_heap (Nat.le_add_right _ _) fun b o y e => ?_) m2) g3 old3
      rw [sb.2 b (fun c : b = S => y (by rw [c]; exact List.mem_cons_self))]; exact e
/-- set(a list of such things) -/
theorem call_set_v {l : Addr} {its : Array Value} {ks : List (Addr × NestedKey)} {Q : Value → Shared → Prop} (free : A.handled = none) (ls : s.heap.IsList l its) (row : its.toList = ks.map fun p => Value.ref p.1) (thg : ∀ p ∈ ks, Thg s.heap p.2 p.1) (nd : (ks.map (·.2)).Nodup) (few : ks.length ≤ 300) (room : A.units + 12 < cLine)
    (q : ∀ (h' : Heap) (tk : Nat), Laid w s.heap.objs.size ks ks.length h' → (∀ b o, s.heap.get? b = some o → h'.get? b = some o) → Q (.ref s.heap.objs.size) { s with heap := h', toks := tk }) : wpAny (model P w) A (call (.type "set") [.ref l]) Q E s := by
  have size : its.size = ks.length := by
    have z := congrArg List.length row
    rwa [Array.length_toList, List.length_map] at z
  obtain ⟨mc, ml, hmro⟩ := F.called_set.mro
  have made := F.called_set.made
  have sub := F.called_set.sub
  refine wpAny_call (codeAny_of_tree ?_); show wpAny _ _ (callAny (.type "set") _) _ _ _; refine wpAny_pure ⟨Code.quiet_builtin _ (by decide +kernel), codeAny_builtin F.entry_type_call ?_⟩
  rw [Around.under_plain (weight_type_call_type "set" [.ref l] []) rfl]
  have f1 := F.called_set.notType; have f2 := F.called_set.canCreate; have f3 := F.typeCall_set_1 (.ref l)
  repeat (any_goals (first | assumption | wp_step))
  refine codeAny_mono (code_set_led1 (.ref l) (E := E) (Q₁ := fun u z => u = .ref s.heap.objs.size ∧ z = { s with heap := s.heap.push (fresh0 w) }) ⟨rfl, rfl⟩) fun r z hr => ?_
  match r, hr with
  | .error e, hr => exact hr
  | .ok (.ret u), hr =>
    obtain ⟨rfl, rfl⟩ := hr
    have oS : (s.heap.push (fresh0 w)).get? s.heap.objs.size = some (fresh0 w) := Heap.get?_push_size _ rfl
    have tS : Shared.TypeIs { s with heap := s.heap.push (fresh0 w) } (.ref s.heap.objs.size) "set" := ⟨_, oS, rfl⟩
    have f4 := F.called_set.init.lookup; have f5 := F.called_set.init.bind (.ref s.heap.objs.size)
    repeat (any_goals (first | assumption | wp_step))
    refine codeAny_mono (codeAny_call_builtin (R := wants (fun r z => r = .none ∧ ∃ h' tk, z = { s with heap := h', toks := tk } ∧ Laid w s.heap.objs.size ks ks.length h' ∧ ∀ b o, s.heap.get? b = some o → h'.get? b = some o) E) F.called_set.init.plain F.entry_set_init (check_set_init_1 tS ?_)) fun r2 z2 hr2 => ?_
    · obtain ⟨⟨oc, od, odt, osl⟩, ho, hcl, nl, hdl⟩ := ls
      simp only at hcl hdl
      subst hcl; subst hdl
      have g1 := F.sub_list_set; have g2 := F.sub_list_frozenset; have g3 : (Value.type "list" == Value.type "dict") = false := by decide
      have ho' : (s.heap.push (fresh0 w)).get? l = some { cls := .type "list", dict := od, data := .seq its nl, slots := osl } := Heap.get?_push_of_some _ ho
      have ls' : (s.heap.push (fresh0 w)).IsList l its := ⟨_, ho', rfl, nl, rfl⟩
      unfold Builtin.«set.__init__» noKeywords Builtin.Frozenset.updateFrom
      generalize ePI : pyIter = PI
      wp_walk
      subst ePI
      refine wpAny_pyIter_list ls' (wpAny_bind (wpAny_runValue ?_))
      have lt : l < s.heap.objs.size := Heap.lt_size ho
      have free3 : A.in1.in1.in1.handled = none := by simp [free]
      have sz1 : (s.heap.push (fresh0 w)).objs.size = s.heap.objs.size + 1 := Heap.size_push ..
      have nl1 : l ≠ (s.heap.push (fresh0 w)).objs.size := by rw [sz1]; exact Nat.ne_of_lt (Nat.lt_succ_of_lt lt)
      have off : s.heap.objs.size ∉ [(s.heap.push (fresh0 w)).objs.size, l] := by
        rw [sz1]; simp only [List.mem_cons, List.not_mem_nil, or_false, not_or]
        exact ⟨Nat.ne_of_lt (Nat.lt_succ_self _), Nat.ne_of_gt lt⟩
      have each : ∀ (i : Nat) (v : Value), its[i]? = some v → ∃ p, ks[i]? = some p ∧ v = .ref p.1 := fun i v y => by
        rw [← Array.getElem?_toList, row, List.getElem?_map] at y
        cases c : ks[i]? with
        | none => rw [c] at y; cases y
        | some p => rw [c] at y; exact ⟨p, rfl, (Option.some.inj y).symm⟩
      have none_from : ∀ b, s.heap.objs.size ≤ b → s.heap.get? b = none := fun b y => by
        cases c : s.heap.get? b with
        | none => rfl
        | some o => exact absurd (Nat.lt_of_lt_of_le (Heap.lt_size c) y) (Nat.lt_irrefl _)
      refine update_v (Walks.list free3 _ l nl1 its).toS off size nd few each thg (none_from _ (Nat.le_refl _)) (fun b y => none_from b (by rw [List.mem_singleton.mp y, sz1]; exact Nat.le_succ _)) (by show A.units + 3 + 8 < cLine; omega) (its.size - 0) 0 _ (by omega) (Nat.zero_le _)
        ⟨⟨_, Heap.get?_push_size _ rfl, rfl, rfl⟩, ls'.push _⟩ (fun b o e => Heap.get?_push_of_some _ (Heap.get?_push_of_some _ e)) ⟨[], #[], 0, _, setV_new (Heap.get?_push_of_some _ oS), List.Perm.refl _⟩ ?_
      rintro ⟨h', g2, d', tk', os'⟩ m g old
      have eg : g2 = s.gens := m.gens
      have ed : d' = s.drawn := m.drawn
      have eo : os' = s.os := m.os
      subst eg; subst ed; subst eo
      show wpAny _ _ _ _ _ _
      refine wpAny_pure ?_
      show wpAny _ _ (ret Value.none) _ _ _
      rw [size] at g
      exact wpAny_pure ⟨rfl, h', tk', rfl, g, old⟩
    · match r2, hr2 with
      | .error e, hr2 => exact hr2
      | .ok (.ret r), hr2 =>
        obtain ⟨rfl, h', tk, rfl, g, old⟩ := hr2
        repeat (any_goals (first | assumption | wp_step))
        exact q _ _ g old
end
end KB

/-! len(set(a list of worths)); the worths of a kind: none twice, the last one -/
namespace KB
open PySem PySem.Spec PyProof.Rows L2
theorem nks_map : ∀ l : List PyData, nks l = l.map nk
  | [] => rfl
  | d :: r => by rw [nks, nks_map r]; rfl
theorem keyDs_all : ∀ {l : List PyData}, keyDs l = true → ∀ d ∈ l, keyD d = true
  | d :: r, h, e, he => by
    simp only [keyDs, Bool.and_eq_true] at h
    rcases List.mem_cons.mp he with c | c
    · rw [c]; exact h.1
    · exact keyDs_all h.2 e c
theorem keyDs_of : ∀ {l : List PyData}, (∀ d ∈ l, keyD d = true) → keyDs l = true
  | [], _ => rfl
  | d :: r, h => by
    simp only [keyDs, Bool.and_eq_true]
    exact ⟨h d List.mem_cons_self, keyDs_of fun e he => h e (List.mem_cons_of_mem _ he)⟩
theorem nks_nodup : ∀ {l : List PyData}, keyDs l = true → l.Nodup → (nks l).Nodup
  | [], _, _ => by simp [nks]
  | d :: r, h, n => by
    have all := keyDs_all h
    simp only [keyDs, Bool.and_eq_true] at h
    have n' := List.nodup_cons.mp n
    rw [nks]
    refine List.nodup_cons.mpr ⟨fun z => ?_, nks_nodup h.2 n'.2⟩
    rw [nks_map] at z
    obtain ⟨e, he, q⟩ := List.mem_map.mp z
    have := nk_inj e d (all e (List.mem_cons_of_mem _ he)) h.1 q
    exact n'.1 (this ▸ he)
theorem thgs {h : Heap} : ∀ {ds : List PyData} {us : List Value} {as : List Addr}, ReadsAll h us ds as → keyDs ds = true → (∀ d ∈ ds, ∃ l, d = .tuple l) → PyData.depthAll ds ≤ 8 → ∃ ks : List (Addr × NestedKey), us = ks.map (fun p => Value.ref p.1) ∧ ks.map (·.2) = nks ds ∧ ∀ p ∈ ks, Thg h p.2 p.1
  | [], _, _, r, _, _, _ => by cases r; exact ⟨[], rfl, rfl, fun p hp => by cases hp⟩
  | d :: q, _, _, r, k, t, dp => by
    simp only [keyDs, Bool.and_eq_true] at k
    simp only [PyData.depthAll] at dp
    cases r with
    | cons r1 r2 =>
      obtain ⟨ks, e1, e2, x⟩ := thgs r2 k.2 (fun e he => t e (List.mem_cons_of_mem _ he)) (by omega)
      obtain ⟨l, rfl⟩ := t d List.mem_cons_self
      have is := nk_reads _ _ _ r1 k.1
      have num := nk_num _ k.1
      have low := nk_depth _ k.1
      cases r1 with
      | tuple a1 a2 a3 a4 =>
        refine ⟨(_, nk (.tuple l)) :: ks, by rw [List.map_cons, ← e1], by rw [List.map_cons, e2]; rfl, fun p hp => ?_⟩
        rcases List.mem_cons.mp hp with c | c
        · rw [c]; exact ⟨is, num, by rw [low]; omega⟩
        · exact x p c
section
variable {X : Cx}
/-- what can be put into a set here -/
def SetD (ds : List PyData) : Prop := ((keyDs ds = true ∧ (∀ d ∈ ds, ∃ l, d = .tuple l) ∧ PyData.depthAll ds ≤ 8) ∨ ∃ ns : List Int, ds = ns.map .int) ∧ ds.Nodup ∧ ds.length ≤ 300
theorem ints_dq {K : PySem.W.Frag} {H : Hp} : ∀ {ns : List Int} {xs : List V}, DqAll K H xs (ns.map .int) → xs = ns.map V.int
  | [], _, h => by cases h; rfl
  | n :: r, _, h => by
    cases h with
    | cons a b => cases a; rw [ints_dq b]; rfl
theorem nodup_ints {ns : List Int} (h : (ns.map PyData.int).Nodup) : ns.Nodup := List.Pairwise.of_map PyData.int (fun _ _ n e => n (congrArg _ e)) h
def tLenSetN (K : PySem.W.Frag) (ta : TE) : TE := fun σ H Q => ta σ H fun x H1 => ∃ ds : List PyData, Dq K H1 x (.list ds) ∧ SetD ds ∧ Q (.int ds.length) H1
theorem pe_lenSetN {a : Expr} {ta : TE} {p p2 q pos : Pos} (room : X.A.units + 200 < cLine) (hc : X.calm = true) (hg : Gl X "len") (hm : X.mg "len" = none) (hg2 : Gl X "set") (hm2 : X.mg "set" = none) (ha : PE X a ta)
    (na : starEach [a] X.env = (false, eval a X.env) :: starEach [] X.env := by rfl) : PE X (.Call (.Name "len" p) [.Call (.Name "set" p2) [a] [] q] [] pos) (tLenSetN X.K ta) := by
  refine ⟨fun pins s σ H Q I h => ?_⟩
  refine Call_ (ld_blt I hg hm PySem.boot_len (PyProof.Rows.callWith_builtin1 (PyProof.Rows.args_cons ?_ rfl) rfl rfl))
  refine Call_ (ld_blt I hg2 hm2 PyProof.Rows.boot_set (PyProof.Rows.callWith_type1 (PyProof.Rows.args_cons (thn (ha.run pins s σ H _ I h) fun v z ⟨x, H1, I1, r1, q1⟩ => PyProof.Rows.args_nil ?_) na) na rfl))
  obtain ⟨ds, hq, ⟨kind, nd, few⟩, fin⟩ := q1
  cases hq with
  | lst hS hA =>
    cases r1
    obtain ⟨its, r, pl, hz⟩ := I1.list hS
    rcases kind with ⟨k1, k2, k3⟩ | ⟨ns, rfl⟩
    · obtain ⟨as, ra, _⟩ := DqAll.reads I1 hA r
      obtain ⟨ks, e1, e2, tg⟩ := thgs ra k1 k2 k3
      have lk : ks.length = ds.length := by
        have z := congrArg List.length e2
        rwa [List.length_map, nks_map, List.length_map] at z
      refine call_set_v (I1.ok.hd hc) pl.isList (by simpa using e1) tg (by rw [e2]; exact nks_nodup k1 nd) (by omega) (by omega) fun h' tk g old => ?_
      refine PyProof.Rows.args_nil ?_
      obtain ⟨L, es, ep, t, R, pm⟩ := g
      obtain ⟨o, ho, hex, hd⟩ := R.ob
      have ln : es.size = ds.length := by
        have z := SetV.num (s := { z with heap := h' }) R
        rw [z, pm.length_eq, List.take_length, lk]
      have I2 : Inv X pins σ H1 { z with heap := h', toks := tk } := I1.kept old
      exact call_len_set ho hex hd (SetV.fits (s := { z with heap := h' }) R) (by rw [ln] <;> omega) ⟨.int ds.length, H1, I2.tok _, ⟨_, by rw [ln]⟩, fin⟩
    · have ex := ints_dq hA
      subst ex
      have nn := nodup_ints nd
      rw [List.length_map] at few
      have hl : its.toArray.size = ns.length := by rw [List.size_toArray, ← r.length, List.length_map]
      refine call_set_list (I1.ok.hd hc) pl.isList (ns := ns) (by simpa using r.ints) (by unfold scanBound; omega) fun h' tk hS hk => ?_
      rw [hl, firstMet_nodup ns nn ns.length (Nat.le_refl _), List.take_length] at hS
      refine PyProof.Rows.args_nil ?_
      obtain ⟨o, es, ep, t, ho, hex, hd, _, _, _, hf, hn⟩ := hS
      have I2 : Inv X pins σ H1 { z with heap := h', toks := tk } := I1.kept fun b o e => hk b o (Heap.lt_size e) e
      refine call_len_set ho hex hd hf (by rw [hn] <;> omega) ⟨.int (ns.map PyData.int).length, H1, I2.tok _, ⟨_, by rw [hn, List.length_map]⟩, fin⟩
end
/-! ## the worths of a kind -/
theorem two_nodup {α β γ : Type} {g : α → β → γ} (inj : ∀ a b c d, g a b = g c d → a = c ∧ b = d) {A : List α} {B : List β} (hA : A.Nodup) (hB : B.Nodup) : (A.flatMap fun a => B.map (g a)).Nodup := by
  refine List.pairwise_flatMap.mpr ⟨fun a _ => List.pairwise_map.mpr (hB.imp fun n e => n (inj _ _ _ _ e).2), hA.imp fun n x hx y hy e => ?_⟩
  obtain ⟨b, _, rfl⟩ := List.mem_map.mp hx
  obtain ⟨d, _, rfl⟩ := List.mem_map.mp hy
  exact n (inj _ _ _ _ e).1
theorem two_head {α β γ : Type} {g : α → β → γ} {A : List α} {B : List β} {a : α} {b : β} (ha : A.head? = some a) (hb : B.head? = some b) : (A.flatMap fun a => B.map (g a)).head? = some (g a b) := by
  match A, B, ha, hb with
  | _ :: _, _ :: _, ha, hb => cases ha; cases hb; simp
theorem two_last {α β γ : Type} {g : α → β → γ} {A : List α} {B : List β} {a : α} {b : β} (ha : A.getLast? = some a) (hb : B.getLast? = some b) : (A.flatMap fun a => B.map (g a)).getLast? = some (g a b) := by
  obtain ⟨r, rfl⟩ := List.getLast?_eq_some_iff.mp ha
  obtain ⟨t, rfl⟩ := List.getLast?_eq_some_iff.mp hb
  simp
theorem rowsN_nodup {l : List PyData} (h : l.Nodup) : ∀ n, (rowsN l n).Nodup
  | 0 => by simp [rowsN]
  | n + 1 => two_nodup (g := fun r o => r ++ [o]) (fun a b c d e => by
      have z := List.append_inj' e rfl
      exact ⟨z.1, by simpa using z.2⟩) (rowsN_nodup h n) h
theorem rowsN_last {l : List PyData} {a : PyData} (h : l.getLast? = some a) : ∀ n, (rowsN l n).getLast? = some (List.replicate n a)
  | 0 => rfl
  | n + 1 => by
    rw [List.replicate_succ']
    exact two_last (g := fun r o => r ++ [o]) (rowsN_last h n) h
theorem map_nodup {α β : Type} {f : α → β} (inj : ∀ a b, f a = f b → a = b) {l : List α} (h : l.Nodup) : (l.map f).Nodup := List.pairwise_map.mpr (h.imp fun n e => n (inj _ _ e))
namespace Kd
theorem wl_nodup {s : Nat → Nat} : ∀ k : Kd, (k.wl s).Nodup
  | b i => map_nodup (fun a b e => by cases e; rfl) List.nodup_range
  | u => by simp [wl]
  | p x y => two_nodup (g := fun c d => PyData.tuple [c, d]) (fun a b c d e => by cases e; exact ⟨rfl, rfl⟩) (wl_nodup x) (wl_nodup y)
  | f x y => map_nodup (fun a b e => by cases e; rfl) (rowsN_nodup (wl_nodup y) _)
theorem wl_key {s : Nat → Nat} : ∀ (k : Kd), ∀ d ∈ k.wl s, keyD d = true
  | .b i, d, h => by
    obtain ⟨n, hn, rfl⟩ := List.mem_map.mp h
    rfl
  | .u, d, h => by
    have e : d = .tuple [] := by simpa [Kd.wl] using h
    subst e
    rfl
  | .p x y, d, h => by
    obtain ⟨c, hc, h⟩ := List.mem_flatMap.mp h
    obtain ⟨e, he, rfl⟩ := List.mem_map.mp h
    simp [keyD, keyDs, wl_key x c hc, wl_key y e he]
  | .f x y, d, h => by
    obtain ⟨r, hr, rfl⟩ := List.mem_map.mp h
    simp only [keyD]
    exact keyDs_of fun z hz => wl_key y z ((rowsN_each hr).2 z hz)
/-- the last worth -/
def lst (s : Nat → Nat) : Kd → PyData
  | b i => .int ((s i : Int) - 1)
  | u => .tuple []
  | p x y => .tuple [x.lst s, y.lst s]
  | f x y => .tuple (List.replicate (x.num s) (y.lst s))
theorem wl_last {s : Nat → Nat} (hs : ∀ i, 1 ≤ s i) : ∀ k : Kd, (k.wl s).getLast? = some (k.lst s)
  | b i => by
    have := hs i
    obtain ⟨n, e⟩ : ∃ n, s i = n + 1 := ⟨s i - 1, by omega⟩
    simp only [wl, lst, e, List.range_succ, List.map_append, List.map_cons, List.map_nil, List.getLast?_append, List.getLast?_singleton]
    simp
  | u => rfl
  | p x y => two_last (g := fun c d => PyData.tuple [c, d]) (wl_last hs x) (wl_last hs y)
  | f x y => by
    have h := rowsN_last (wl_last hs y) (x.num s)
    simp only [wl, List.getLast?_map, h, lst]
    rfl
theorem wl_setD {s : Nat → Nat} {k : Kd} (dp : k.deep ≤ 8) (few : (k.wl s).length ≤ 300) : SetD (k.wl s) := by
  refine ⟨?_, wl_nodup k, few⟩
  cases k with
  | b i => exact .inr ⟨(List.range (s i)).map fun n => ((n : Nat) : Int), by simp [wl]⟩
  | u => exact .inl ⟨rfl, fun d h => ⟨[], by simpa [wl] using h⟩, by simp [wl, PyData.depthAll, PyData.depth]⟩
  | p x y =>
    refine .inl ⟨keyDs_of (wl_key _), fun d h => ?_, deps_of fun d h => Nat.le_trans (wl_lay _ d h).2 dp⟩
    obtain ⟨c, hc, h⟩ := List.mem_flatMap.mp h
    obtain ⟨e, he, rfl⟩ := List.mem_map.mp h
    exact ⟨_, rfl⟩
  | f x y =>
    refine .inl ⟨keyDs_of (wl_key _), fun d h => ?_, deps_of fun d h => Nat.le_trans (wl_lay _ d h).2 dp⟩
    obtain ⟨r, hr, rfl⟩ := List.mem_map.mp h
    exact ⟨_, rfl⟩
/-- by sizes no greater there are no more -/
theorem num_mono {s t : Nat → Nat} (ht : ∀ i, 1 ≤ t i) (h : ∀ i, t i ≤ s i) : ∀ k : Kd, k.num t ≤ k.num s
  | b i => h i
  | u => Nat.le_refl _
  | p x y => by
    have := Nat.mul_le_mul (num_mono ht h x) (num_mono ht h y)
    show min _ tooGreat ≤ min _ tooGreat
    omega
  | f x y => by
    have h1 : y.num t ^ x.num t ≤ y.num s ^ x.num t := Nat.pow_le_pow_left (num_mono ht h y) _
    have h2 : y.num s ^ x.num t ≤ y.num s ^ x.num s := Nat.pow_le_pow_right (Nat.le_trans (num_pos ht y) (num_mono ht h y)) (num_mono ht h x)
    show min _ tooGreat ≤ min _ tooGreat
    omega
theorem took_mono {s t : Nat → Nat} (ht : ∀ i, 1 ≤ t i) (h : ∀ i, t i ≤ s i) : ∀ k : Kd, k.took t ≤ k.took s
  | b i => Nat.le_refl _
  | u => Nat.le_refl _
  | p x y => by
    have h1 := took_mono ht h x
    have h2 := took_mono ht h y
    show max _ _ ≤ max _ _
    omega
  | f x y => by
    have h1 := took_mono ht h x
    have h2 := took_mono ht h y
    have h3 := num_mono ht h x
    show max (max _ _) _ ≤ max (max _ _) _
    omega
/-- the last worth is one by lesser sizes just where it is the last there -/
theorem lst_isW {s t : Nat → Nat} (ht : ∀ i, 1 ≤ t i) (h : ∀ i, t i ≤ s i) : ∀ k : Kd, isW t k (k.lst s) = true ↔ k.lst t = k.lst s
  | b i => by
    have := ht i
    have := h i
    simp only [lst, isW, decide_eq_true_eq, PyData.int.injEq]
    omega
  | u => by simp [lst, isW]
  | p x y => by
    simp only [lst, isW, Bool.and_eq_true, lst_isW ht h x, lst_isW ht h y, PyData.tuple.injEq, List.cons.injEq, and_true]
  | f x y => by
    have n1 := num_pos (fun i => Nat.le_trans (ht i) (h i)) x
    have e : isW t (.f x y) (.tuple (List.replicate (x.num s) (y.lst s))) = (decide ((List.replicate (x.num s) (y.lst s)).length = x.num t) && (List.replicate (x.num s) (y.lst s)).all (isW t y)) := by simp [isW]
    simp only [lst]
    rw [e, List.length_replicate, List.all_replicate, if_neg (by omega)]
    simp only [Bool.and_eq_true, decide_eq_true_eq, lst_isW ht h y, PyData.tuple.injEq, List.replicate_inj]
    have n2 := num_pos ht x
    constructor
    · rintro ⟨a, b⟩
      exact ⟨a.symm, .inr b⟩
    · rintro ⟨a, b | b⟩
      · omega
      · exact ⟨a.symm, b⟩
end Kd
mutual
theorem key_lay : ∀ d : PyData, keyD d = true → d.canLay0 = true
  | .int _, _ => rfl
  | .tuple l, h => by
    rw [PyData.canLay0]
    exact keys_lay l (by simpa [keyD] using h)
  | .none, h => by simp [keyD] at h
  | .bool _, h => by simp [keyD] at h
  | .str _, h => by simp [keyD] at h
  | .list _, h => by simp [keyD] at h
  | .dict _, h => by simp [keyD] at h
theorem keys_lay : ∀ l : List PyData, keyDs l = true → PyData.canLayAll0 l = true
  | [], _ => rfl
  | d :: r, h => by
    simp only [keyDs, Bool.and_eq_true] at h
    rw [PyData.canLayAll0, key_lay d h.1, keys_lay r h.2]
    rfl
end
mutual
theorem key_ev : ∀ d e : PyData, keyD d = true → keyD e = true → PyData.eqv d e = true → d = e
  | .int i, .int j, _, _, z => by simp only [PyData.eqv, beq_iff_eq] at z; rw [z]
  | .int i, .tuple l, _, _, z => by simp [PyData.eqv] at z
  | .tuple l, .int i, _, _, z => by simp [PyData.eqv] at z
  | .tuple l, .tuple m, x, y, z => by
    simp only [PyData.eqv] at z
    rw [keys_ev l m (by simpa [keyD] using x) (by simpa [keyD] using y) z]
  | .none, _, x, _, _ => by simp [keyD] at x
  | .bool _, _, x, _, _ => by simp [keyD] at x
  | .str _, _, x, _, _ => by simp [keyD] at x
  | .list _, _, x, _, _ => by simp [keyD] at x
  | .dict _, _, x, _, _ => by simp [keyD] at x
  | .int _, .none, _, y, _ => by simp [keyD] at y
  | .int _, .bool _, _, y, _ => by simp [keyD] at y
  | .int _, .str _, _, y, _ => by simp [keyD] at y
  | .int _, .list _, _, y, _ => by simp [keyD] at y
  | .int _, .dict _, _, y, _ => by simp [keyD] at y
  | .tuple _, .none, _, y, _ => by simp [keyD] at y
  | .tuple _, .bool _, _, y, _ => by simp [keyD] at y
  | .tuple _, .str _, _, y, _ => by simp [keyD] at y
  | .tuple _, .list _, _, y, _ => by simp [keyD] at y
  | .tuple _, .dict _, _, y, _ => by simp [keyD] at y
theorem keys_ev : ∀ l m : List PyData, keyDs l = true → keyDs m = true → PyData.eqvAll l m = true → l = m
  | [], [], _, _, _ => rfl
  | [], _ :: _, _, _, z => by simp [PyData.eqvAll] at z
  | _ :: _, [], _, _, z => by simp [PyData.eqvAll] at z
  | d :: r, e :: q, x, y, z => by
    simp only [keyDs, Bool.and_eq_true] at x y
    simp only [PyData.eqvAll, Bool.and_eq_true] at z
    rw [key_ev d e x.1 y.1 z.1, keys_ev r q x.2 y.2 z.2]
end
theorem key_eqv {d e : PyData} (h : keyD d = true) (k : keyD e = true) : PyData.eqv d e = true ↔ d = e := ⟨key_ev d e h k, fun z => by rw [z]; exact SeqAt.eqv_refl _ (key_lay e k)⟩
/-- the first and the last of a list of data -/
theorem ends_q {K : PySem.W.Frag} {H : Hp} {us : List V} {ws : List PyData} {a b : PyData} (d : DqAll K H us ws) (ha : ws.head? = some a) (hb : ws.getLast? = some b) : ∃ u v, us[0]? = some u ∧ L2.atI us (-1) = some v ∧ Dq K H u a ∧ Dq K H v b := by
  obtain ⟨r, e⟩ := List.getLast?_eq_some_iff.mp hb
  rw [List.head?_eq_getElem?] at ha
  obtain ⟨u, e0, du⟩ := d.getD ha
  rw [e] at d
  obtain ⟨us', v, rfl, _, dv⟩ := DqAll.last d
  exact ⟨u, v, e0, atI_last _ _, du, dv⟩
theorem cut_end {xs : List V} {v : V} : cutV (xs ++ [v]) (some (-1)) none = [v] := by
  have e : (-1 + (((xs ++ [v]).length : Nat) : Int)).toNat = xs.length := by rw [List.length_append]; simp only [List.length_cons, List.length_nil]; omega
  have e2 : HT.sIx (xs ++ [v]).length 0 (some (-1)) = xs.length := by
    show (if (-1 : Int) < 0 then (-1 + (((xs ++ [v]).length : Nat) : Int)).toNat else min (-1 : Int).toNat (xs ++ [v]).length) = xs.length
    rw [if_pos (by decide), e]
  unfold cutV
  rw [e2]
  simp [HT.sIx]
theorem rep_flat {α : Type} (n : Nat) (v : α) : (List.replicate n [v]).flatten = List.replicate n v := by
  induction n with
  | zero => rfl
  | succ n ih => rw [List.replicate_succ, List.flatten_cons, ih, List.replicate_succ]; rfl
theorem rep_dq {K : PySem.W.Frag} {H : Hp} {v : V} {d : PyData} (h : Dq K H v d) : ∀ n, DqAll K H (List.replicate n v) (List.replicate n d)
  | 0 => .nil
  | n + 1 => .cons h (rep_dq h n)
theorem head_of {α : Type} {l : List α} (h : 1 ≤ l.length) : ∃ a, l.head? = some a := by
  match l, h with
  | a :: r, _ => exact ⟨a, rfl⟩
end KB

/-! sorted of data that can be compared; sorted(set(..)) -/
namespace KB
open PySem PySem.Spec PyProof.Rows L2
/-- nothing less stands behind -/
def Srd (fs : List PyData) : Prop := fs.Pairwise fun a b => PySem.W.dataLt b a = false
/-- each less than what stands behind -/
def Inc (fs : List PyData) : Prop := fs.Pairwise fun a b => PySem.W.dataLt a b = true
/-- what can be sorted -/
def SrtD (ds : List PyData) : Prop := PySem.W.AllAlike ds ∧ (PySem.W.Sortable ds ∨ (ds.length ≤ 1 ∧ ∀ d ∈ ds, d ≠ .none)) ∧ PyData.depthAll ds ≤ 180
theorem SrtD.perm {ds es : List PyData} (h : SrtD ds) (p : es.Perm ds) : SrtD es := by
  have m : ∀ d, d ∈ es → d ∈ ds := fun d => p.mem_iff.mp
  refine ⟨fun d hd e he => h.1 d (m d hd) e (m e he), ?_, deps_of fun d hd => ?_⟩
  · rcases h.2.1 with (k | k) | k
    · exact .inl (.inl fun d hd => k d (m d hd))
    · exact .inl (.inr fun d hd => k d (m d hd))
    · exact .inr ⟨by rw [p.length_eq]; exact k.1, fun d hd => k.2 d (m d hd)⟩
  · have : ∀ (l : List PyData) (d : PyData), d ∈ l → d.depth ≤ PyData.depthAll l := fun l => by
      induction l with
      | nil => intro d z; cases z
      | cons a r ih =>
        intro d z
        rw [PyData.depthAll]
        rcases List.mem_cons.mp z with z | z
        · rw [z]; omega
        · have := ih d z; omega
    exact Nat.le_trans (this ds d (m d hd)) h.2.2
theorem lt_irr (d : PyData) : PySem.W.dataLt d d = false := (PyProof.Rows.listOrd PyProof.Rows.itemOrd).irrefl _
theorem lt_tr {a b c : PyData} (h : PySem.W.dataLt a b = true) (k : PySem.W.dataLt b c = true) : PySem.W.dataLt a c = true := (PyProof.Rows.listOrd PyProof.Rows.itemOrd).trans _ _ _ h k
theorem inc_not {es : List PyData} (h : Inc es) {a b : PyData} (ha : a ∈ es) (hb : b ∈ es) (l1 : PySem.W.dataLt a b = false) (l2 : PySem.W.dataLt b a = false) : a = b := by
  induction es with
  | nil => cases ha
  | cons x r ih =>
    obtain ⟨h1, h2⟩ := List.pairwise_cons.mp h
    rcases List.mem_cons.mp ha with za | za
    · rcases List.mem_cons.mp hb with zb | zb
      · rw [za, zb]
      · rw [za, h1 b zb] at l1; cases l1
    · rcases List.mem_cons.mp hb with zb | zb
      · rw [zb, h1 a za] at l2; cases l2
      · exact ih h2 za zb
theorem srd_one : ∀ {fs es : List PyData}, Inc es → Srd fs → fs.Perm es → fs = es
  | [], es, _, _, p => p.nil_eq
  | a :: r, [], _, _, p => absurd p.length_eq (by simp)
  | a :: r, b :: t, h, g, p => by
    obtain ⟨h1, h2⟩ := List.pairwise_cons.mp h
    obtain ⟨g1, g2⟩ := List.pairwise_cons.mp g
    have e : a = b := by
      have ma : a ∈ b :: t := p.mem_iff.mp List.mem_cons_self
      have mb : b ∈ a :: r := p.mem_iff.mpr List.mem_cons_self
      rcases List.mem_cons.mp ma with z | z
      · exact z
      · rcases List.mem_cons.mp mb with y | y
        · exact y.symm
        · have k1 := h1 a z
          have k2 := g1 b y
          rw [k1] at k2; cases k2
    subst e
    rw [srd_one h2 g2 (p.cons_inv)]
theorem sort_srd (ds : List PyData) : Srd (ds.mergeSort (PySem.W.dataLe false fun d => d)) := by
  have z := List.pairwise_mergeSort (le := PySem.W.dataLe false fun d : PyData => d) (fun a b c h1 h2 => ?_) (fun a b => ?_) ds
  · refine z.imp fun {a b} h => ?_
    have h : (!PySem.W.dataLt b a) = true := h
    simpa using h
  · have h1 : (!PySem.W.dataLt b a) = true := h1
    have h2 : (!PySem.W.dataLt c b) = true := h2
    show (!PySem.W.dataLt c a) = true
    rw [Bool.not_eq_true'] at h1 h2 ⊢
    cases e : PySem.W.dataLt c a with
    | false => rfl
    | true =>
      rcases (PyProof.Rows.listOrd PyProof.Rows.itemOrd).negTrans _ (PySem.W.keyToks b) _ e with y | y
      · rw [show PySem.W.dataLt c b = true from y] at h2; cases h2
      · rw [show PySem.W.dataLt b a = true from y] at h1; cases h1
  · show ((!PySem.W.dataLt b a) || (!PySem.W.dataLt a b)) = true
    cases e : PySem.W.dataLt a b with
    | false => simp
    | true =>
      cases e2 : PySem.W.dataLt b a with
      | false => rfl
      | true => have := lt_tr e e2; rw [lt_irr] at this; cases this
theorem each_perm {R : Value → PyData → Prop} {us vs : List Value} (p : vs.Perm us) : ∀ {ds : List PyData}, PySem.W.EachIs R us ds → ∃ gs, gs.Perm ds ∧ PySem.W.EachIs R vs gs := by
  induction p with
  | nil => intro ds e; exact ⟨ds, .refl _, e⟩
  | cons x _ ih =>
    intro ds e
    cases e with
    | cons h t =>
      obtain ⟨gs, p, e⟩ := ih t
      exact ⟨_ :: gs, p.cons _, .cons h e⟩
  | swap x y l =>
    intro ds e
    cases e with
    | cons h t =>
      cases t with
      | cons h2 t => exact ⟨_ :: _ :: _, .swap .., .cons h2 (.cons h t)⟩
  | trans _ _ ih1 ih2 =>
    intro ds e
    obtain ⟨gs, p, e⟩ := ih2 e
    obtain ⟨hs, p2, e2⟩ := ih1 e
    exact ⟨hs, p2.trans p, e2⟩
section
variable {P : Program} {w : World} {A : Around} {E : Value → Shared → Prop} {s : Shared}
theorem sorts_at {vs : List Value} {ds : List PyData} (e : PySem.W.EachIs (fun v d => ∃ as, Reads s.heap v d as) vs ds) (h : SrtD ds) (hu : A.units + 180 < cLine) : PySem.W.SortsAt P w A s (PySem.W.dataKind s.heap ds) vs := by
  have dep : ∀ d ∈ ds, d.depth ≤ 180 := fun d hd => by
    have : ∀ (l : List PyData) (d : PyData), d ∈ l → d.depth ≤ PyData.depthAll l := fun l => by
      induction l with
      | nil => intro d z; cases z
      | cons a r ih =>
        intro d z
        rw [PyData.depthAll]
        rcases List.mem_cons.mp z with z | z
        · rw [z]; omega
        · have := ih d z; omega
    exact Nat.le_trans (this ds d hd) h.2.2
  rcases h.2.1 with k | ⟨k, no⟩
  · exact .data e h.1 k fun d hd => by have := dep d hd; omega
  · refine ⟨fun v hv => ?_, general', fun E x y a b Q ha hb hq => ?_, fun h2 => ?_⟩
    · obtain ⟨d, hd, as, r⟩ := e.left v hv
      exact ⟨_, PySem.W.dataKind_some h.1 hd r⟩
    · obtain ⟨d, as, hd, ra, rfl⟩ := PySem.W.dataKind_inv ha
      obtain ⟨d', as', hd', rb, rfl⟩ := PySem.W.dataKind_inv hb
      have := dep d hd
      exact PySem.W.oneLt_alike (f := false) (fun z => nomatch z) ra rb (h.1 d hd d' hd') (no d hd) (by omega) hq
    · rw [e.length] at h2; omega
/-- set(a list of whole numbers) -/
theorem call_set_ints {l : Addr} {its : Array Value} {ns : List Int} {Q : Value → Shared → Prop} (free : A.handled = none) (ls : s.heap.IsList l its) (row : IntsAre its.toList ns) (few : ns.length + 1 < scanBound)
    (q : ∀ (h' : Heap) (tk c : Nat), SetR w h' s.heap.objs.size (fun j => decide (j ∈ ns)) c → c ≤ ns.length → (∀ b o, s.heap.get? b = some o → h'.get? b = some o) → Q (.ref s.heap.objs.size) { s with heap := h', toks := tk }) : wpAny (model P w) A (call (.type "set") [.ref l]) Q E s := by
  have size : its.size = ns.length := by
    have z := IntsAre.length row
    rwa [Array.length_toList] at z
  obtain ⟨mc, ml, hmro⟩ := F.called_set.mro
  have made := F.called_set.made
  have sub := F.called_set.sub
  refine wpAny_call (codeAny_of_tree ?_); show wpAny _ _ (callAny (.type "set") _) _ _ _; refine wpAny_pure ⟨Code.quiet_builtin _ (by decide +kernel), codeAny_builtin F.entry_type_call ?_⟩
  rw [Around.under_plain (weight_type_call_type "set" [.ref l] []) rfl]
  have f1 := F.called_set.notType; have f2 := F.called_set.canCreate; have f3 := F.typeCall_set_1 (.ref l)
  repeat (any_goals (first | assumption | wp_step))
  refine codeAny_mono (code_set_led1 (.ref l) (E := E) (Q₁ := fun u z => u = .ref s.heap.objs.size ∧ z = { s with heap := s.heap.push (fresh0 w) }) ⟨rfl, rfl⟩) fun r z hr => ?_
  match r, hr with
  | .error e, hr => exact hr
  | .ok (.ret u), hr =>
    obtain ⟨rfl, rfl⟩ := hr
    have oS : (s.heap.push (fresh0 w)).get? s.heap.objs.size = some (fresh0 w) := Heap.get?_push_size _ rfl
    have tS : Shared.TypeIs { s with heap := s.heap.push (fresh0 w) } (.ref s.heap.objs.size) "set" := ⟨_, oS, rfl⟩
    have f4 := F.called_set.init.lookup; have f5 := F.called_set.init.bind (.ref s.heap.objs.size)
    repeat (any_goals (first | assumption | wp_step))
    refine codeAny_mono (codeAny_call_builtin (R := wants (fun r z => r = .none ∧ ∃ h' tk c, z = { s with heap := h', toks := tk } ∧ SetR w h' s.heap.objs.size (fun j => decide (j ∈ ns)) c ∧ c ≤ ns.length ∧ ∀ b o, s.heap.get? b = some o → h'.get? b = some o) E) F.called_set.init.plain F.entry_set_init (check_set_init_1 tS ?_)) fun r2 z2 hr2 => ?_
    · obtain ⟨⟨oc, od, odt, osl⟩, ho, hcl, nl, hdl⟩ := ls
      simp only at hcl hdl
      subst hcl; subst hdl
      have g1 := F.sub_list_set; have g2 := F.sub_list_frozenset; have g3 : (Value.type "list" == Value.type "dict") = false := by decide
      have ho' : (s.heap.push (fresh0 w)).get? l = some { cls := .type "list", dict := od, data := .seq its nl, slots := osl } := Heap.get?_push_of_some _ ho
      have ls' : (s.heap.push (fresh0 w)).IsList l its := ⟨_, ho', rfl, nl, rfl⟩
      unfold Builtin.«set.__init__» noKeywords Builtin.Frozenset.updateFrom
      generalize ePI : pyIter = PI
      wp_walk
      subst ePI
      refine wpAny_pyIter_list ls' (wpAny_bind (wpAny_runValue ?_))
      have lt : l < s.heap.objs.size := Heap.lt_size ho
      have free3 : A.in1.in1.in1.handled = none := by simp [free]
      have sz1 : (s.heap.push (fresh0 w)).objs.size = s.heap.objs.size + 1 := Heap.size_push ..
      have nl1 : l ≠ (s.heap.push (fresh0 w)).objs.size := by rw [sz1]; exact Nat.ne_of_lt (Nat.lt_succ_of_lt lt)
      have off : s.heap.objs.size ∉ [(s.heap.push (fresh0 w)).objs.size, l] := by
        rw [sz1]; simp only [List.mem_cons, List.not_mem_nil, or_false, not_or]
        exact ⟨Nat.ne_of_lt (Nat.lt_succ_self _), Nat.ne_of_gt lt⟩
      have each : ∀ (i : Nat) (v : Value), its[i]? = some v → ∃ k t, ns[i]? = some k ∧ v = .int k t := fun i v y => by
        have li : i < ns.length := by rw [← size]; exact (Array.getElem?_eq_some_iff.mp y).1
        obtain ⟨t, e⟩ := IntsAre.int_at row i v (by rw [Array.getElem?_toList]; exact y)
        exact ⟨ns[i], t, List.getElem?_eq_getElem li, by rw [e, List.getD_eq_getElem?_getD, List.getElem?_eq_getElem li] <;> rfl⟩
      refine set_update_ints (Walks.list free3 _ l nl1 its).toS s.heap.objs.size off ns size few each (its.size - 0) 0 _ (by omega) (Nat.zero_le _)
        ⟨⟨_, Heap.get?_push_size _ rfl, rfl, rfl⟩, ls'.push _⟩ ⟨0, Nat.le_refl 0, setR_new_at (Heap.get?_push_of_some _ oS)⟩ ?_
      rintro ⟨h', g2, d', tk', os'⟩ c m lc g
      have eg : g2 = s.gens := m.gens
      have ed : d' = s.drawn := m.drawn
      have eo : os' = s.os := m.os
      subst eg; subst ed; subst eo
      show wpAny _ _ _ _ _ _
      refine wpAny_pure ?_
      show wpAny _ _ (ret Value.none) _ _ _
      rw [size] at lc
      refine wpAny_pure ⟨rfl, h', tk', c, rfl, g, lc, fun b o e => m.heap b o ?_ (Heap.get?_push_of_some _ (Heap.get?_push_of_some _ e))⟩
      have b0 := Heap.lt_size e
      rw [sz1]
      simp only [List.mem_cons, List.not_mem_nil, or_false, not_or]
      exact ⟨Nat.ne_of_lt b0, Nat.ne_of_lt (Nat.lt_succ_of_lt b0)⟩
    · match r2, hr2 with
      | .error e, hr2 => exact hr2
      | .ok (.ret r), hr2 =>
        obtain ⟨rfl, h', tk, c, rfl, g, lc, old⟩ := hr2
        repeat (any_goals (first | assumption | wp_step))
        exact q _ _ _ g lc old
/-- sorted(a set of tuples nested) -/
theorem sorted_v {a : Addr} {L : List (Addr × NestedKey)} {es : Array (Int × Value)} {ep : Nat} {t : SetTable} {Q : Value → Shared → Prop} (R : SetV w s.heap a L es ep t) (free : A.handled = none) {Rl : Value → PyData → Prop} {us : List Value} {ds : List PyData} (row : (L.map fun p => Value.ref p.1).Perm us)
    (each : PySem.W.EachIs (fun v d => Rl v d ∧ ∃ as, Reads s.heap v d as) us ds) (h : SrtD ds) (noL : ∀ d ∈ ds, keyD d = true) (hu : A.units + 200 < cLine)
    (q : ∀ s' p (out : List Value) (c : Nat) (fs : List PyData), (∀ b o, s.heap.get? b = some o → s'.heap.get? b = some o) → s'.gens = s.gens → s'.os = s.os → s.heap.objs.size ≤ p → s'.heap.get? p = some (seqObj "list" out.toArray c) → fs.Perm ds → Srd fs → PySem.W.EachIs Rl out fs → Q (.ref p) s') :
    wpAny (model P w) A (call (.builtin "sorted") [.ref a]) Q E s := by
  obtain ⟨o, ho, hex, hd⟩ := R.ob
  have num := R.num
  have few := R.few
  refine Calls.call_function_entry kind_sorted plain_sorted entry_sorted (args_sorted1 _) ?_
  unfold Builtin.«sorted»
  refine wpAny_bind (m := checkCount "sorted" 1 1 _) (wpAny_pure ?_)
  refine wpAny_bind (collect_set (A := A.in1) free ⟨o, ho, hex.1, hd⟩ R.fits (by unfold scanBound; omega) R.tab.up R.led fun s1 vs k1 hz g1 o1 pm => ?_)
  have rows : es.toList.map (·.2) = L.map fun p => Value.ref p.1 := by
    rw [R.rows, rowsV, List.map_map]; rfl
  rw [rows] at pm
  obtain ⟨gs, pg, eg⟩ := each_perm (pm.trans row) each
  have len : vs.length ≤ 300 := by rw [pm.length_eq, List.length_map]; exact few
  refine wpAny_bind (wpAny_newList ?_ (by rw [sizeLine_eq]; omega))
  have oL : (s1.heap.push (seqObj "list" vs.toArray 0)).get? s1.heap.objs.size = some (seqObj "list" vs.toArray 0) := Heap.get?_push_size _ rfl
  have kept : ∀ b u, s.heap.get? b = some u → b ≠ s1.heap.objs.size ∧ (s1.heap.push (seqObj "list" vs.toArray 0)).get? b = some u := fun b u e => ⟨Nat.ne_of_lt (Heap.lt_size (k1 b u e)), Heap.get?_push_of_some _ (k1 b u e)⟩
  have old : ∀ b u, s.heap.get? b = some u → (PySem.W.sortingHeap (s1.heap.push (seqObj "list" vs.toArray 0)) s1.heap.objs.size vs).get? b = some u := fun b u e => PySem.W.sortingHeap_old (kept b u e).1 (kept b u e).2
  have reads : PySem.W.EachIs (fun v d => ∃ as, Reads (PySem.W.sortingHeap (s1.heap.push (seqObj "list" vs.toArray 0)) s1.heap.objs.size vs) v d as) vs gs := eg.mono fun v d ⟨_, as, r⟩ => ⟨as, PyProof.Rows.Reads.keeps (fun b u e => old b u e) r⟩
  have hg := h.perm pg
  have em : gs.map (fun d => d) = gs := List.map_id' gs
  have sv := PySem.W.sortVals_data (enc := fun d : PyData => d) false (eg.mono fun v d z => z.1) reads (by rw [em]; exact hg.1)
  rw [em] at sv
  refine wpAny_bind (wpAny_holding (wpAny_call_entry slot_list_sort ⟨_, oL, rfl⟩ entry_list_sort (PySem.W.list_sort_vals oL (sorts_at (s := { s1 with heap := PySem.W.sortingHeap (s1.heap.push (seqObj "list" vs.toArray 0)) s1.heap.objs.size vs }) reads hg (by show A.units + 1 + 1 + 180 < cLine; omega)) (by rw [sizeLine_eq]; omega) ⟨_, rfl, ?_⟩) (args_list_sort _)))
  obtain ⟨c, hc⟩ := sortedHeap_at (vs := vs) (out := (PySem.W.sortVals (PySem.W.dataKind (PySem.W.sortingHeap (s1.heap.push (seqObj "list" vs.toArray 0)) s1.heap.objs.size vs) gs) false vs vs).toArray) oL
  refine wpAny_pure ⟨_, rfl, q _ s1.heap.objs.size _ c _ (fun b u e => ?_) g1 o1 hz hc ((List.mergeSort_perm _ _).trans pg) (sort_srd gs) sv⟩
  have lt := Heap.lt_size (k1 b u e)
  show (sortedHeap (s1.heap.push (seqObj "list" vs.toArray 0)) s1.heap.objs.size vs _).get? b = some u
  rw [sortedHeap_old (Nat.ne_of_lt lt) (by rw [size_push']; exact Nat.lt_succ_of_lt lt)]
  exact (kept b u e).2
end
end KB

/-! sorted, sorted(set(..)), < as rules; the worths of a kind stand in order -/
namespace KB
open PySem PySem.Spec PyProof.Rows L2
section
variable {X : Cx}
/-- v is told by x, which is the data d -/
def Rdd (K : PySem.W.Frag) (H : Hp) (v : Value) (d : PyData) : Prop := ∃ x : V, RelV x v ∧ Dq K H x d
theorem each_dd {K : PySem.W.Frag} {H : Hp} : ∀ {ds : List PyData} {xs : List V} {us : List Value}, Vals xs us → DqAll K H xs ds → PySem.W.EachIs (Rdd K H) us ds
  | [], _, _, r, h => by cases h; cases r; exact .nil
  | d :: q, _, _, r, h => by
    cases h with
    | cons h1 h2 =>
      cases r with
      | cons r1 r2 => exact .cons ⟨_, r1, h1⟩ (each_dd r2 h2)
theorem dd_each {K : PySem.W.Frag} {H : Hp} : ∀ {ds : List PyData} {us : List Value}, PySem.W.EachIs (Rdd K H) us ds → ∃ ys : List V, Vals ys us ∧ DqAll K H ys ds
  | _, _, .nil => ⟨[], .nil, .nil⟩
  | _, _, .cons ⟨x, r, h⟩ t => by
    obtain ⟨ys, r2, h2⟩ := dd_each t
    exact ⟨x :: ys, .cons r r2, .cons h h2⟩
theorem each_rd {h : Heap} : ∀ {ds : List PyData} {us : List Value} {as : List Addr}, ReadsAll h us ds as → PySem.W.EachIs (fun v d => ∃ as, Reads h v d as) us ds
  | [], _, _, r => by cases r; exact .nil
  | d :: q, _, _, r => by
    cases r with
    | cons r1 r2 => exact .cons ⟨_, r1⟩ (each_rd r2)
theorem each_both {R S : Value → PyData → Prop} : ∀ {us : List Value} {ds : List PyData}, PySem.W.EachIs R us ds → PySem.W.EachIs S us ds → PySem.W.EachIs (fun v d => R v d ∧ S v d) us ds
  | _, _, .nil, .nil => .nil
  | _, _, .cons a t, .cons b u => .cons ⟨a, b⟩ (each_both t u)
def rSortD (K : PySem.W.Frag) : List V → Hp → VK → Prop := fun vs H Q => ∃ a xs ds, vs = [.ref a] ∧ SqL K H a xs ∧ DqAll K H xs ds ∧ SrtD ds ∧ ∀ ys fs p, fs.Perm ds → Srd fs → DqAll K H ys fs → H p = none → Q (.ref p) (upd H p (.lst ys))
theorem call_sortD (room : X.A.units + 200 < cLine) : CallR X (.builtin "sorted") (rSortD X.K) := by
  rintro pins s σ H vs us Q I r ⟨a, xs, ds, rfl, hs, hd, sd, q⟩
  obtain ⟨its, rv, hl, hz⟩ := I.list hs
  cases r with
  | cons r1 r2 =>
    cases r2
    cases r1
    obtain ⟨as, ra, _⟩ := DqAll.reads I hd rv
    have e := each_dd rv hd
    have er : PySem.W.EachIs (fun v d => ∃ as, Reads (PySem.W.sortingHeap (PySem.W.copyHeap s.heap its) (s.heap.objs.size + 1) its) v d as) its ds := (each_rd ra).mono fun _ _ ⟨as, r⟩ => ⟨as, PyProof.Rows.Reads.keeps (fun _ _ => PySem.W.sorting_copy_old) r⟩
    have em : ds.map (fun d => d) = ds := List.map_id' ds
    have sv := PySem.W.sortVals_data (enc := fun d : PyData => d) false e er (by rw [em]; exact sd.1)
    rw [em] at sv
    refine PySem.W.sorted_vals (PlainL.isList hl) (sorts_at (s := { s with heap := PySem.W.sortingHeap (PySem.W.copyHeap s.heap its) (s.heap.objs.size + 1) its }) er sd (by show X.A.units + 1 + 1 + 180 < cLine; omega)) (by rw [← rv.length]; exact hz) ?_
    generalize PySem.W.sortVals (PySem.W.dataKind (PySem.W.sortingHeap (PySem.W.copyHeap s.heap its) (s.heap.objs.size + 1) its) ds) false its its = out at sv
    obtain ⟨ys, ry, dy⟩ := dd_each sv
    obtain ⟨n, hn⟩ := sortedAll_at s.heap its out.toArray
    have pm := List.mergeSort_perm ds (PySem.W.dataLe false fun d : PyData => d)
    have fresh : H (s.heap.objs.size + 1) = none := HOk.fresh I.hok (Nat.le_succ _)
    refine ⟨.ref (s.heap.objs.size + 1), upd H (s.heap.objs.size + 1) (.lst ys), I.laid (t' := s.toks) (fun b o e => sortedAll_old e) (Nat.le_succ _) ⟨?_, out, n, ry, hn⟩, rfl, q ys _ _ pm (sort_srd ds) dy fresh⟩
    rw [dy.length, pm.length_eq, ← hd.length]; exact hz
/-- a new list, laid by a call that keeps what stood -/
theorem laid_q {pins : List (Addr × Obj)} {σ : L2.St} {H : Hp} {z s' : Shared} (I : L2.Inv X pins σ H z) {p : Addr} {ys : List V} {out : List Value} {c : Nat} {Q : VK} (kp : ∀ b o, z.heap.get? b = some o → s'.heap.get? b = some o) (g : s'.gens = z.gens) (o : s'.os = z.os) (hp : z.heap.objs.size ≤ p) (hc : s'.heap.get? p = some (seqObj "list" out.toArray c)) (ry : Vals ys out) (len : ys.length ≤ sizeLine)
    (q : Q (.ref p) (upd H p (.lst ys))) : EP X pins σ Q (.ref p) s' := by
  have fresh : H p = none := HOk.fresh I.hok hp
  have J : L2.Inv X pins σ (upd H p (.lst ys)) { z with heap := s'.heap, gens := s'.gens, drawn := s'.drawn, toks := s'.toks } :=
    I.call (ch := []) (Un.laid kp hp fresh) (I.hok.laid kp hp ⟨len, out, c, ry, hc⟩) (by rw [g]; exact I.bare) (fun _ y => nomatch y)
  have es' : s' = { z with heap := s'.heap, gens := s'.gens, drawn := s'.drawn, toks := s'.toks } := by
    cases s'
    cases z
    cases o
    rfl
  rw [es']
  exact ⟨.ref p, _, J, rfl, q⟩
def tSortSet (K : PySem.W.Frag) (ta : TE) : TE := fun σ H Q => ta σ H fun x H1 => ∃ ds : List PyData, Dq K H1 x (.list ds) ∧ SetD ds ∧ SrtD ds ∧ (ds.length < 64 ∨ keyDs ds = true ∧ ∀ d ∈ ds, ∃ l, d = .tuple l) ∧ ∀ ys fs p, fs.Perm ds → Srd fs → DqAll K H1 ys fs → H1 p = none → Q (.ref p) (upd H1 p (.lst ys))
theorem ints_srd : ∀ {ns : List Int}, ns.Pairwise (· < ·) → Srd (ns.map .int)
  | [], _ => List.Pairwise.nil
  | n :: r, h => by
    obtain ⟨h1, h2⟩ := List.pairwise_cons.mp h
    refine List.pairwise_cons.mpr ⟨fun d hd => ?_, ints_srd h2⟩
    obtain ⟨m, hm, rfl⟩ := List.mem_map.mp hd
    have := h1 m hm
    rw [PySem.W.dataLt_int]
    exact decide_eq_false (by omega)
theorem pe_sortSet {a : Expr} {ta : TE} {p p2 q pos : Pos} (room : X.A.units + 200 < cLine) (hc : X.calm = true) (hg : Gl X "sorted") (hm : X.mg "sorted" = none) (hg2 : Gl X "set") (hm2 : X.mg "set" = none) (ha : PE X a ta)
    (na : starEach [a] X.env = (false, eval a X.env) :: starEach [] X.env := by rfl) : PE X (.Call (.Name "sorted" p) [.Call (.Name "set" p2) [a] [] q] [] pos) (tSortSet X.K ta) := by
  refine ⟨fun pins s σ H Q I h => ?_⟩
  refine Call_ (ld_blt I hg hm (by decide +kernel : bootBuiltins "sorted" = some (.builtin "sorted")) (PyProof.Rows.callWith_builtin1 (PyProof.Rows.args_cons ?_ rfl) rfl rfl))
  refine Call_ (ld_blt I hg2 hm2 PyProof.Rows.boot_set (PyProof.Rows.callWith_type1 (PyProof.Rows.args_cons (thn (ha.run pins s σ H _ I h) fun v z ⟨x, H1, I1, r1, q1⟩ => PyProof.Rows.args_nil ?_) na) na rfl))
  obtain ⟨ds, hq, ⟨kind, nd, few⟩, sd, kind2, fin⟩ := q1
  cases hq with
  | lst hS hA =>
    cases r1
    obtain ⟨its, r, pl, hz⟩ := I1.list hS
    rcases kind with ⟨k1, k2, k3⟩ | ⟨ns, rfl⟩
    · obtain ⟨as, ra, _⟩ := DqAll.reads I1 hA r
      obtain ⟨ks, e1, e2, tg⟩ := thgs ra k1 k2 k3
      have lk : ks.length = ds.length := by
        have z := congrArg List.length e2
        rwa [List.length_map, nks_map, List.length_map] at z
      refine call_set_v (I1.ok.hd hc) pl.isList (by simpa using e1) tg (by rw [e2]; exact nks_nodup k1 nd) (by omega) (by omega) fun h' tk g old => ?_
      refine PyProof.Rows.args_nil ?_
      obtain ⟨L, es, ep, t, R, pm⟩ := g
      rw [List.take_length] at pm
      have I2 : Inv X pins σ H1 { z with heap := h', toks := tk } := I1.kept old
      have each : PySem.W.EachIs (fun v d => Rdd X.K H1 v d ∧ ∃ as, Reads h' v d as) its ds := each_both (each_dd r hA) ((each_rd ra).mono fun _ _ ⟨as, y⟩ => ⟨as, PyProof.Rows.Reads.keeps (fun b o e => old b o e) y⟩)
      refine sorted_v (s := { z with heap := h', toks := tk }) R (I1.ok.hd hc) (by rw [e1]; exact pm.map _) each sd (fun d hd => keyDs_all k1 d hd) (by omega) fun s' p out c fs kp g o hp hc' pf sf ef => ?_
      obtain ⟨ys, ry, dy⟩ := dd_each ef
      exact laid_q I2 kp g o hp hc' ry (by rw [dy.length, pf.length_eq, ← hA.length]; exact hz) (fin ys fs p pf sf dy (HOk.fresh I2.hok hp))
    · have ex := ints_dq hA
      subst ex
      have nn := nodup_ints nd
      rw [List.length_map] at few
      have l64 : ns.length < 64 := by
        rcases kind2 with k | ⟨_, k⟩
        · rwa [List.length_map] at k
        · cases ns with
          | nil => show 0 < 64; decide
          | cons n r => obtain ⟨l, e⟩ := k (.int n) List.mem_cons_self; cases e
      refine call_set_ints (I1.ok.hd hc) pl.isList (ns := ns) (by simpa using r.ints) (by unfold scanBound; omega) fun h' tk c R lc old => ?_
      refine PyProof.Rows.args_nil ?_
      have I2 : Inv X pins σ H1 { z with heap := h', toks := tk } := I1.kept old
      refine sorted_set (s := { z with heap := h', toks := tk }) R (I1.ok.hd hc) (by omega) fun s' p out c2 ms kp g o hp hc' hi hs hm hl => ?_
      have fresh : H1 p = none := HOk.fresh I2.hok hp
      have nm : ms.Nodup := hs.imp fun {a b} h e => by omega
      have pm : ms.Perm ns := (List.perm_ext_iff_of_nodup nm nn).mpr fun k => by rw [hm k]; exact decide_eq_true_iff
      have ry : Vals (ms.map V.int) out.toList := by
        have : ∀ (l : List Value) (ks : List Int), IntsAre l ks → Vals (ks.map V.int) l := fun l ks h => by
          induction h with
          | nil => exact .nil
          | cons k t _ ih => exact .cons ⟨t, rfl⟩ ih
        exact this _ _ hi
      exact laid_q (out := out.toList) I2 kp g o hp (by simpa using hc') ry (by rw [List.length_map, pm.length_eq, sizeLine_eq]; omega) (fin (ms.map V.int) (ms.map .int) p (pm.map _) (ints_srd hs) (dq_ints ms) fresh)
/-- a < b of data that can be compared -/
def rLtD (K : PySem.W.Frag) : R2 := fun x y H Q => ∃ d e : PyData, Dq K H x d ∧ Dq K H y e ∧ PySem.W.alike d e = true ∧ d ≠ .none ∧ d.depth ≤ 190 ∧ Q (.bl (PySem.W.dataLt d e)) H
theorem op_ltD (room : X.A.units + 200 < cLine) : OpR X (compareOp .Lt) (rLtD X.K) := by
  intro pins s σ H x y v u Q I rx ry ⟨d, e, dd, de, al, no, dep, q⟩
  obtain ⟨as, ra, _⟩ := Dq.reads I dd rx
  obtain ⟨bs, rb, _⟩ := Dq.reads I de ry
  exact PySem.W.lt_data ra rb al no (by omega) ⟨.bl _, H, I, rfl, q⟩
end
/-! ## worths stand in order -/
theorem lt_ne {a b : PyData} (h : PySem.W.alike a b = true) (l : PySem.W.dataLt a b = true) : PyData.eqv a b = false := by
  cases e : PyData.eqv a b with
  | false => rfl
  | true =>
    have z := (PySem.W.toks_eqv a b h).1 e
    have : PySem.W.dataLt a b = PySem.W.dataLt b b := by unfold PySem.W.dataLt; rw [z]
    rw [this, lt_irr] at l; cases l
theorem row_nil : PySem.W.rowLt [] [] = false := (PyProof.Rows.listOrd PyProof.Rows.itemOrd).irrefl (PySem.W.keyToksAll [])
theorem row_cons {x y : PyData} (h : PySem.W.alike x y = true) (xs ys : List PyData) : PySem.W.rowLt (x :: xs) (y :: ys) = if PyData.eqv x y = true then PySem.W.rowLt xs ys else PySem.W.dataLt x y := PySem.W.dataLt_cons h xs ys
theorem row_one {a b : PyData} (h : PySem.W.alike a b = true) (l : PySem.W.dataLt a b = true) : PySem.W.rowLt [a] [b] = true := by
  rw [row_cons h, lt_ne h l]; exact l
theorem row_snoc1 : ∀ {r q : List PyData} {o u : PyData}, r.length = q.length → (∀ x ∈ r, ∀ y ∈ q, PySem.W.alike x y = true) → PySem.W.rowLt r q = true → PySem.W.rowLt (r ++ [o]) (q ++ [u]) = true
  | [], [], _, _, _, _, h => by rw [row_nil] at h; cases h
  | x :: r, y :: q, o, u, l, al, h => by
    have a := al x List.mem_cons_self y List.mem_cons_self
    rw [row_cons a] at h
    rw [List.cons_append, List.cons_append, row_cons a]
    split
    · rename_i c
      rw [if_pos c] at h
      exact row_snoc1 (by simpa using l) (fun x hx y hy => al x (List.mem_cons_of_mem _ hx) y (List.mem_cons_of_mem _ hy)) h
    · rename_i c
      rw [if_neg c] at h
      exact h
theorem row_snoc2 : ∀ {r : List PyData} {o u : PyData}, (∀ x ∈ r, PySem.W.alike x x = true) → PySem.W.alike o u = true → PySem.W.dataLt o u = true → PySem.W.rowLt (r ++ [o]) (r ++ [u]) = true
  | [], _, _, _, a, h => row_one a h
  | x :: r, o, u, al, a, h => by
    have b := al x List.mem_cons_self
    rw [List.cons_append, List.cons_append, row_cons b, if_pos (PySem.W.eqv_refl_alike x b)]
    exact row_snoc2 (fun x hx => al x (List.mem_cons_of_mem _ hx)) a h
theorem two_inc {α β γ : Type} {g : α → β → γ} {RA : α → α → Prop} {RB : β → β → Prop} {R : γ → γ → Prop} {A : List α} {B : List β} (h1 : ∀ a ∈ A, ∀ b ∈ B, ∀ d ∈ B, RB b d → R (g a b) (g a d)) (h2 : ∀ a ∈ A, ∀ c ∈ A, ∀ b ∈ B, ∀ d ∈ B, RA a c → R (g a b) (g c d)) (hA : A.Pairwise RA) (hB : B.Pairwise RB) : (A.flatMap fun a => B.map (g a)).Pairwise R := by
  refine List.pairwise_flatMap.mpr ⟨fun a ha => List.pairwise_map.mpr (hB.imp_of_mem fun hb hd r => h1 a ha _ hb _ hd r), hA.imp_of_mem fun ha hc r x hx y hy => ?_⟩
  obtain ⟨b, hb, rfl⟩ := List.mem_map.mp hx
  obtain ⟨d, hd, rfl⟩ := List.mem_map.mp hy
  exact h2 _ ha _ hc _ hb _ hd r
theorem alike_rows : ∀ {r q : List PyData}, (∀ x ∈ r, ∀ y ∈ q, PySem.W.alike x y = true) → PySem.W.alikeAll r q = true
  | [], [], _ => by simp [PySem.W.alikeAll]
  | [], _ :: _, _ => by simp [PySem.W.alikeAll]
  | _ :: _, [], _ => by simp [PySem.W.alikeAll]
  | x :: r, y :: q, h => by
    rw [PySem.W.alikeAll, h x List.mem_cons_self y List.mem_cons_self, alike_rows fun x hx y hy => h x (List.mem_cons_of_mem _ hx) y (List.mem_cons_of_mem _ hy)]
    rfl
theorem rowsN_inc {l : List PyData} (al : PySem.W.AllAlike l) (h : Inc l) : ∀ n, (rowsN l n).Pairwise fun r q => PySem.W.rowLt r q = true
  | 0 => List.pairwise_singleton _ _
  | n + 1 => two_inc (g := fun r o => r ++ [o]) (RA := fun r q => PySem.W.rowLt r q = true) (RB := fun a b => PySem.W.dataLt a b = true)
      (fun r hr o ho u hu l1 => row_snoc2 (fun x hx => al x ((rowsN_each hr).2 x hx) x ((rowsN_each hr).2 x hx)) (al o ho u hu) l1)
      (fun r hr q hq o ho u hu l1 => row_snoc1 ((rowsN_each hr).1.trans (rowsN_each hq).1.symm) (fun x hx y hy => al x ((rowsN_each hr).2 x hx) y ((rowsN_each hq).2 y hy)) l1) (rowsN_inc al h n) h
namespace Kd
theorem isW_alike {s : Nat → Nat} : ∀ (k : Kd) (d e : PyData), isW s k d = true → isW s k e = true → PySem.W.alike d e = true := by
  intro k
  induction k with
  | b i =>
    intro d e h g
    match d, e, h, g with
    | .int n, .int m, _, _ => simp [PySem.W.alike]
  | u =>
    intro d e h g
    match d, e, h, g with
    | .tuple [], .tuple [], _, _ => simp [PySem.W.alike, PySem.W.alikeAll]
  | p x y ihx ihy =>
    intro d e h g
    match d, e, h, g with
    | .tuple [d1, d2], .tuple [e1, e2], h, g =>
      have h' : isW s x d1 = true ∧ isW s y d2 = true := by simpa [isW] using h
      have g' : isW s x e1 = true ∧ isW s y e2 = true := by simpa [isW] using g
      simp [PySem.W.alike, PySem.W.alikeAll, ihx d1 e1 h'.1 g'.1, ihy d2 e2 h'.2 g'.2]
  | f x y ihx ihy =>
    intro d e h g
    match d, e, h, g with
    | .tuple r, .tuple q, h, g =>
      have h' : r.length = x.num s ∧ r.all (isW s y) = true := by simpa [isW] using h
      have g' : q.length = x.num s ∧ q.all (isW s y) = true := by simpa [isW] using g
      rw [PySem.W.alike]
      exact alike_rows fun a ha c hc => ihy a c (List.all_eq_true.mp h'.2 a ha) (List.all_eq_true.mp g'.2 c hc)
theorem wl_alike {s : Nat → Nat} (k : Kd) : PySem.W.AllAlike (k.wl s) := fun d hd e he => isW_alike k d e (wl_isW hd) (wl_isW he)
theorem wl_inc {s : Nat → Nat} : ∀ k : Kd, Inc (k.wl s)
  | b i => by
    refine List.pairwise_map.mpr (List.pairwise_lt_range.imp fun {n m} h => ?_)
    rw [PySem.W.dataLt_int]
    exact decide_eq_true (by omega)
  | u => List.pairwise_singleton _ _
  | p x y => by
    refine two_inc (g := fun c d => PyData.tuple [c, d]) (RA := fun m n => PySem.W.dataLt m n = true) (RB := fun m n => PySem.W.dataLt m n = true) (fun c hc d hd e he l => ?_) (fun c hc c2 hc2 d hd e he l => ?_) (wl_inc x) (wl_inc y)
    · have a1 := wl_alike x c hc c hc
      have a2 := wl_alike y d hd e he
      rw [PySem.W.dataLt_pair a1 a2, if_pos (PySem.W.eqv_refl_alike c a1), lt_ne a2 l]
      exact l
    · have a1 := wl_alike x c hc c2 hc2
      have a2 := wl_alike y d hd e he
      rw [PySem.W.dataLt_pair a1 a2, lt_ne a1 l]
      exact l
  | f x y => List.pairwise_map.mpr ((rowsN_inc (wl_alike y) (wl_inc y) (x.num s)).imp fun {r q} h => by rw [PySem.W.dataLt_tuple]; exact h)
theorem wl_srtD {s : Nat → Nat} (hs : ∀ i, 1 ≤ s i) {k : Kd} (dp : k.deep ≤ 180) : SrtD (k.wl s) := by
  refine ⟨wl_alike k, ?_, deps_of fun d h => Nat.le_trans (wl_lay k d h).2 dp⟩
  cases k with
  | b i =>
    refine .inl (.inr fun d hd => ?_)
    obtain ⟨n, hn, rfl⟩ := List.mem_map.mp hd
    exact ⟨(fun z => by cases z), (fun l z => by cases z)⟩
  | u => exact .inr ⟨Nat.le_refl _, fun d hd => (by have e : d = .tuple [] := (by simpa [wl] using hd); rw [e]; intro z; cases z)⟩
  | p x y =>
    refine .inl (.inl fun d hd => ?_)
    obtain ⟨c, hc, h⟩ := List.mem_flatMap.mp hd
    obtain ⟨e, he, rfl⟩ := List.mem_map.mp h
    exact ⟨_, _, rfl⟩
  | f x y =>
    refine .inl (.inl fun d hd => ?_)
    obtain ⟨r, hr, rfl⟩ := List.mem_map.mp hd
    have n := num_pos hs x
    have l := (rowsN_each hr).1
    match r, l with
    | [], l => simp at l; omega
    | a :: t, _ => exact ⟨a, t, rfl⟩
end Kd
end KB

namespace KW
open PySem PySem.Spec PyProof.Rows L2 KB
def top (i : Nat) : Stmt := PySem.Challenge.pw_kindswap_k41_all_worths.main.body.getD i (.Pass ⟨0, 0, 0, 0⟩)
structure Txt (K : PySem.W.Frag) (mg : Str → Option Value) (w : World) (CN CT : Addr) : Prop where
  z_len : mg "len" = none
  z_int : mg "int" = none
  z_tuple : mg "tuple" = none
  z_list : mg "list" = none
  z_type : mg "type" = none
  z_range : mg "range" = none
  z_min : mg "min" = none
  z_max : mg "max" = none
  z_str : mg "str" = none
  z_all : mg "all" = none
  z_isinstance : mg "isinstance" = none
  z_set : mg "set" = none
  z_sorted : mg "sorted" = none
  g_BASE_LETTERS : ∃ t, mg "BASE_LETTERS" = some (.str "abcdefgh" t)
  g_SIGN_OF_WORD : ∃ d, mg "SIGN_OF_WORD" = some (.ref d) ∧ DictS K w d [("both", .str "*"), ("from", .str ">")]
  e_NoKind : ExcF K mg "NoKind" CN

/-! ## the class Sized, and what the module of sizes names -/
abbrev s_Sized___init__ : Stmt := (defIn (top 16) 0)
theorem sc_Sized___init__ : FnScope ["self", "word", "one", "other", "many"] ["self", "word", "one", "other", "many"] (defScope s_Sized___init__) := ⟨rfl, rfl, rfl, by decide +kernel, rfl, by decide +kernel, by decide +kernel⟩
structure TxS (K : PySem.W.Frag) (mg : Str → Option Value) (CZ CS CM : Addr) : Prop where
  z_max : mg "max" = none
  z_all : mg "all" = none
  z_len : mg "len" = none
  z_type : mg "type" = none
  z_int : mg "int" = none
  z_tuple : mg "tuple" = none
  z_list : mg "list" = none
  z_min : mg "min" = none
  z_range : mg "range" = none
  g_TOO_GREAT : ∃ t, mg "TOO_GREAT" = some (.int 10000000000000000000000000000000000000000 t)
  g_MOST_TOLD : ∃ t, mg "MOST_TOLD" = some (.int 5000 t)
  g_GREATEST_SIZE : ∃ t, mg "GREATEST_SIZE" = some (.int 999 t)
  g_BASE_LETTERS : ∃ t, mg "BASE_LETTERS" = some (.str "abcdefgh" t)
  g_Sized : mg "Sized" = some (.ref CZ)
  cls : Cls K CZ
  no_word : NoAttr K CZ "word"
  no_one : NoAttr K CZ "one"
  no_other : NoAttr K CZ "other"
  no_many : NoAttr K CZ "many"
  no_most : NoAttr K CZ "most_taken"
  makes : ∃ fI fd, Fun K "__init__" "Sized.__init__" s_Sized___init__ fI fd ∧ Mk K CZ fI
  e_NoSizes : ExcF K mg "NoSizes" CS
  e_TooMany : ExcF K mg "TooMany" CM

/-! ## draws -/
def Well (H : Hp) (w : Addr) : Prop := ∃ x y z : Int, H w = some (.lst [.int x, .int y, .int z])
/-- what a draw leaves: all but the well, and the well one -/
structure Aft (w : Addr) (H H' : Hp) : Prop where
  well : Well H' w
  but : Same (out w H) (out w H')
theorem Aft.refl {w : Addr} {H : Hp} (h : Well H w) : Aft w H H := ⟨h, Same.refl _⟩
theorem Aft.trans {w : Addr} {H H1 H2 : Hp} (a : Aft w H H1) (b : Aft w H1 H2) : Aft w H H2 := ⟨b.well, a.but.trans b.but⟩
theorem Well.new {w p : Addr} {H : Hp} (h : Well H w) (n : H p = none) (o : HO) : Well (upd H p o) w := by
  obtain ⟨x, y, z, e⟩ := h
  exact ⟨x, y, z, by rw [upd_ne (ne_of_none e n)]; exact e⟩
theorem Aft.new {w p : Addr} {H H' : Hp} (a : Aft w H H') (n : H' p = none) (o : HO) : Aft w H (upd H' p o) := ⟨a.well.new n o, a.but.trans (out_new n o)⟩
theorem Aft.at_ {w p : Addr} {H H' : Hp} {o : HO} (a : Aft w H H') (n : p ≠ w) (h : H p = some o) : H' p = some o := (out_some (a.but p o (out_at n h))).2
theorem Well.ne {w p : Addr} {H : Hp} (h : Well H w) (n : H p = none) : p ≠ w := by
  obtain ⟨x, y, z, e⟩ := h
  exact (ne_of_none e n).symm
theorem Well.laid {w p : Addr} {H : Hp} (h : Well H w) (n : H p = none) (o : HO) : out w (upd H p o) p = some o := out_at (h.ne n) upd_same
def spCell (K : PySem.W.Frag) : Sp := fun vs H Q _ => ∃ (a : Addr) (ns : List Int) (k : Int), vs = [.ref a, .int k] ∧ SqL K H a (ns.map V.int) ∧ 0 ≤ k ∧ ∀ c, Q (.int c) H
def spWell : Sp := fun vs H Q _ => ∃ (c : Int), vs = [.int c] ∧ ∀ (p : Addr) (x y z : Int), H p = none → Q (.ref p) (upd H p (.lst [.int x, .int y, .int z]))
def spDraw : Sp := fun vs H Q _ => ∃ (w : Addr) (n : Int), vs = [.ref w, .int n] ∧ Well H w ∧ 0 < n ∧ n < 1073741824 ∧ ∀ (d : Int) (H' : Hp), 0 ≤ d → d < n → Aft w H H' → Q (.int d) H'
def spOne (K : PySem.W.Frag) : Sp := fun vs H Q _ => ∃ (w l : Addr) (xs : List V), vs = [.ref w, .ref l] ∧ Well H w ∧ H l = some (.lst xs) ∧ l ≠ w ∧ xs ≠ [] ∧ xs.length < 1073741824 ∧ ∀ v ∈ xs, ∀ H', Aft w H H' → Q v H'
abbrev s_law_cell_at : Stmt := top 26
theorem sc_law_cell_at : FnScope ["script", "k"] ["script", "k"] (defScope s_law_cell_at) := ⟨rfl, rfl, rfl, by decide +kernel, rfl, by decide +kernel, by decide +kernel⟩
abbrev s_law_well : Stmt := top 27
theorem sc_law_well : FnScope ["cell"] ["cell"] (defScope s_law_well) := ⟨rfl, rfl, rfl, by decide +kernel, rfl, by decide +kernel, by decide +kernel⟩
abbrev s_law_draw : Stmt := top 28
theorem sc_law_draw : FnScope ["well", "below", "found", "number"] ["well", "below"] (defScope s_law_draw) := ⟨rfl, rfl, rfl, by decide +kernel, rfl, by decide +kernel, by decide +kernel⟩
abbrev s_law_one : Stmt := top 29
theorem sc_law_one : FnScope ["well", "some"] ["well", "some"] (defScope s_law_one) := ⟨rfl, rfl, rfl, by decide +kernel, rfl, by decide +kernel, by decide +kernel⟩
section
variable {P : Program} {w : World} {K : PySem.W.Frag} {mg : Str → Option Value} {base : Heap} {CN CT : Addr}
theorem ok_cell_at (A : At K mg "_law_cell_at" s_law_cell_at) (T : Txt K mg w CN CT) : Cal P w K mg base CX0 1 "_law_cell_at" ["script", "k"] (spCell K) := by
  obtain ⟨f, fd, F, m⟩ := A
  refine ⟨f, fd, F.ok sc_law_cell_at (fun vs H Q E h => ?_) (fun cdv A outer s H vs Q E hr h => ?_), F.binds (ps := ["script", "k"]) (fun _ _ _ _ _ _ us hl => match us, hl with | [_, _], _ => rfl), F.kp, m⟩
  · obtain ⟨a, ns, k, rfl, _⟩ := h; rfl
  obtain ⟨a, ns, k, rfl, hS, h0, q⟩ := h
  refine ⟨_, (pss_cons (ps_if (pt_cmpR op_lt (pv 1) (pe_callB call_len (by rfl) T.z_len (by decide +kernel) (pa_cons (pv 0) pa_nil)) (nomark _))
   (pss_one (ps_ret (pe_ix ix_B (pv 0) (pv 1) (fun _ _ => rfl))))
   pss_nil)
  (pss_one (ps_ret pe_int))), ?_⟩
  refine ⟨_, rfl, _, rfl, _, _, rfl, .inl ⟨_, hS, rfl⟩, _, _, rfl, rfl, _, rfl, ?_⟩
  rw [List.length_map]
  refine ite2 (fun c => ?_) (fun c => ?_)
  · have c' : k < (ns.length : Int) := of_decide_eq_true c
    obtain ⟨j, rfl⟩ := Int.eq_ofNat_of_zero_le h0
    have hj : j < ns.length := by omega
    refine ⟨_, rfl, _, rfl, .inl (.inl ⟨a, _, _, .int ns[j], rfl, rfl, hS, atI_nat (by rw [List.getElem?_map, List.getElem?_eq_getElem hj]; rfl), q _⟩)⟩
  · exact q 0
theorem ok_well (A : At K mg "_law_well" s_law_well) (T : Txt K mg w CN CT) : Cal P w K mg base CX0 1 "_law_well" ["cell"] spWell := by
  obtain ⟨f, fd, F, m⟩ := A
  refine ⟨f, fd, F.ok sc_law_well (fun vs H Q E h => ?_) (fun cdv A outer s H vs Q E hr h => ?_), F.binds (ps := ["cell"]) (fun _ _ _ _ _ _ us hl => match us, hl with | [_], _ => rfl), F.kp, m⟩
  · obtain ⟨c, rfl, _⟩ := h; rfl
  obtain ⟨c, rfl, q⟩ := h
  refine ⟨_, (pss_one (ps_ret (pe_lst (pa_cons (pe_op op_mulA (pv 0) (pe_callTy call_int1 (by rfl) T.z_int (by decide +kernel) (pa_cons (pe_cmpR op_ge (pv 0) (pe_op op_pow pe_int pe_int) (nomark _)) pa_nil))) (pa_cons (pe_op op_mod (pv 0) pe_int) (pa_cons pe_int pa_nil)))))), ?_⟩
  refine ⟨_, rfl, _, rfl, _, _, rfl, rfl, ⟨by decide, by decide, by decide⟩, _, _, rfl, rfl, .inr ⟨_, rfl, .inl ⟨_, _, rfl, rfl, .inr ?_, ?_⟩⟩⟩
  · split <;> decide
  · exact ⟨_, rfl, _, _, rfl, rfl, (by show (0 : Int) < 2147483629; decide), (by show 3 ≤ sizeLine; decide), fun p hp => q p _ _ _ hp⟩
theorem Well.ix0 {K : PySem.W.Frag} {w : Addr} {H : Hp} {W : World} {Q : VK} {x y z : Int} (e : H w = some (.lst [.int x, .int y, .int z])) (q : Q (.int x) H) : rIxB K W (.ref w) (.int 0) H Q := .inl (.inl ⟨w, _, 0, _, rfl, rfl, .of e, rfl, q⟩)
theorem Well.ix1 {K : PySem.W.Frag} {w : Addr} {H : Hp} {W : World} {Q : VK} {x y z : Int} (e : H w = some (.lst [.int x, .int y, .int z])) (q : Q (.int y) H) : rIxB K W (.ref w) (.int 1) H Q := .inl (.inl ⟨w, _, 1, _, rfl, rfl, .of e, rfl, q⟩)
theorem Well.ix2 {K : PySem.W.Frag} {w : Addr} {H : Hp} {W : World} {Q : VK} {x y z : Int} (e : H w = some (.lst [.int x, .int y, .int z])) (q : Q (.int z) H) : rIxB K W (.ref w) (.int 2) H Q := .inl (.inl ⟨w, _, 2, _, rfl, rfl, .of e, rfl, q⟩)
theorem ok_draw (A : At K mg "_law_draw" s_law_draw) (T : Txt K mg w CN CT) : Cal P w K mg base CX0 1 "_law_draw" ["well", "below"] spDraw := by
  obtain ⟨f, fd, F, m⟩ := A
  refine ⟨f, fd, F.ok sc_law_draw (fun vs H Q E h => ?_) (fun cdv A outer s H vs Q E hr h => ?_), F.binds (ps := ["well", "below"]) (fun _ _ _ _ _ _ us hl => match us, hl with | [_, _], _ => rfl), F.kp, m⟩
  · obtain ⟨w, n, rfl, _⟩ := h; rfl
  obtain ⟨wl, n, rfl, ⟨x, y, z, e⟩, n0, n1, q⟩ := h
  refine ⟨_, (pss_cons (ps_if (pt_cmpR op_gt (pe_ix ix_B (pv 0) pe_int (fun _ _ => rfl)) pe_int (nomark _))
   (pss_cons (ps_set (i := 2) sc_law_draw.nd rfl (by first | exact Or.inl rfl | exact Or.inr rfl) (pe_op op_mod (pe_ix ix_B (pv 0) pe_int (fun _ _ => rfl)) (pv 1)))
  (pss_cons (ps_asg (pe_op op_fdiv (pe_ix ix_B (pv 0) pe_int (fun _ _ => rfl)) (pv 1)) (pg_sub (pv 0) pe_int set_list))
  (pss_one (ps_ret (pv 2)))))
   pss_nil)
  (pss_cons (ps_asg (pe_op op_addA (pe_ix ix_B (pv 0) pe_int (fun _ _ => rfl)) pe_int) (pg_sub (pv 0) pe_int set_list))
  (pss_cons (ps_set (i := 3) sc_law_draw.nd rfl (by first | exact Or.inl rfl | exact Or.inr rfl) (pe_op op_mod (pe_op op_mulA (pe_op op_addA (pe_op op_addA (pe_ix ix_B (pv 0) pe_int (fun _ _ => rfl)) (pe_op op_mulA pe_int (pe_ix ix_B (pv 0) pe_int (fun _ _ => rfl)))) pe_int) pe_int) pe_int))
  (pss_cons (ps_set (i := 3) sc_law_draw.nd rfl (by first | exact Or.inl rfl | exact Or.inr rfl) (pe_op op_mod (pe_op op_mulA (pv 3) (pe_op op_addA (pe_op op_addA (pe_op op_fdiv (pv 3) pe_int) pe_int) (pe_ix ix_B (pv 0) pe_int (fun _ _ => rfl)))) pe_int))
  (pss_one (ps_ret (pe_op op_mod (pe_op op_fdiv (pe_op op_mod (pe_op op_mulA (pv 3) (pe_op op_addA (pe_op op_fdiv (pv 3) pe_int) pe_int)) pe_int) pe_int) (pv 1)))))))), ?_⟩
  refine ⟨_, rfl, Well.ix0 e ⟨_, _, rfl, rfl, _, rfl, ?_⟩⟩
  refine ite2 (fun c => ?_) (fun c => ?_)
  · refine ⟨_, rfl, Well.ix0 e ⟨_, rfl, _, _, rfl, rfl, n0, ?_⟩⟩
    refine ⟨_, rfl, Well.ix0 e ⟨_, rfl, _, _, rfl, rfl, ⟨n0, n1⟩, _, rfl, wl, _, 0, 0, rfl, rfl, e, rfl, ?_⟩⟩
    refine ⟨_, rfl, q _ _ (Int.emod_nonneg _ (by omega)) (Int.emod_lt_of_pos _ n0) ⟨⟨_, _, _, upd_same⟩, out_set _⟩⟩
  · refine ⟨_, rfl, Well.ix2 e (.inl ⟨_, _, rfl, rfl, _, rfl, wl, _, 2, 2, rfl, rfl, e, rfl, ?_⟩)⟩
    have e1 : upd H wl (.lst ([V.int x, V.int y, V.int z].set 2 (.int (z + 1)))) wl = some (.lst [.int x, .int y, .int (z + 1)]) := upd_same
    refine ⟨_, rfl, Well.ix1 e1 ⟨_, rfl, Well.ix2 e1 (.inl ⟨_, _, rfl, rfl, .inl (by decide), .inl ⟨_, _, rfl, rfl, .inl ⟨_, _, rfl, rfl, .inl ⟨_, _, rfl, rfl, .inr (by decide), _, _, rfl, rfl, (by show (0 : Int) < 2147483629; decide), ?_⟩⟩⟩⟩)⟩⟩
    generalize hM : ((y + 86969 * (z + 1) + 1) * 48271) % 2147483629 = M
    have m0 : 0 ≤ M := by rw [← hM]; exact Int.emod_nonneg _ (by decide)
    have m1 : M < 2147483629 := by rw [← hM]; exact Int.emod_lt_of_pos _ (by decide)
    refine ⟨_, rfl, _, rfl, _, _, rfl, rfl, ⟨by decide, by decide⟩, .inl ⟨_, _, rfl, rfl, _, rfl, Well.ix2 e1 (.inl ⟨_, _, rfl, rfl, .inl ⟨_, _, rfl, rfl, .inl ⟨by omega, by omega⟩, _, _, rfl, rfl, (by show (0 : Int) < 2147483587; decide), ?_⟩⟩)⟩⟩
    generalize hN : M * (M / 1013 + 69623 + (z + 1)) % 2147483587 = N
    have k0 : 0 ≤ N := by rw [← hN]; exact Int.emod_nonneg _ (by decide)
    have k1 : N < 2147483587 := by rw [← hN]; exact Int.emod_lt_of_pos _ (by decide)
    refine ⟨_, rfl, _, rfl, _, _, rfl, rfl, ⟨by decide, by decide⟩, .inl ⟨_, _, rfl, rfl, .inl ⟨_, _, rfl, rfl, .inl ⟨by omega, by omega⟩, _, _, rfl, rfl, (by show (0 : Int) < 2147483563; decide), _, _, rfl, rfl, ⟨by decide, by decide⟩, _, rfl, _, _, rfl, rfl, n0, ?_⟩⟩⟩
    exact q _ _ (Int.emod_nonneg _ (by omega)) (Int.emod_lt_of_pos _ n0) ⟨⟨_, _, _, e1⟩, out_set _⟩
theorem ok_one (A : At K mg "_law_one" s_law_one) (T : Txt K mg w CN CT) (C_law_draw : Cal P w K mg base CX0 1 "_law_draw" ["well", "below"] spDraw) : Cal P w K mg base CX0 2 "_law_one" ["well", "some"] (spOne K) := by
  obtain ⟨f, fd, F, m⟩ := A
  refine ⟨f, fd, F.ok sc_law_one (fun vs H Q E h => ?_) (fun cdv A outer s H vs Q E hr h => ?_), F.binds (ps := ["well", "some"]) (fun _ _ _ _ _ _ us hl => match us, hl with | [_, _], _ => rfl), F.kp, m⟩
  · obtain ⟨w, l, xs, rfl, _⟩ := h; rfl
  obtain ⟨wl, l, xs, rfl, hw, hl, hn, hne, hz, q⟩ := h
  refine ⟨_, (pss_one (ps_ret (pe_ix ix_B (pv 1) (pe_calC C_law_draw (hr.mono (by first | decide | omega)) pass0 (pa_cons (pv 0) (pa_cons (pe_callB call_len (by rfl) T.z_len (by decide +kernel) (pa_cons (pv 1) pa_nil)) pa_nil))) (fun _ _ => rfl)))), ?_⟩
  have hpos : 0 < xs.length := List.length_pos_iff.mpr hne
  refine ⟨_, rfl, _, rfl, _, rfl, _, _, rfl, .inl ⟨_, .of hl, rfl⟩, wl, _, rfl, hw, by omega, by omega, fun d H' d0 d1 a => ?_⟩
  obtain ⟨j, rfl⟩ := Int.eq_ofNat_of_zero_le d0
  have hj : j < xs.length := by omega
  exact .inl (.inl ⟨l, xs, _, xs[j], rfl, rfl, .of (a.at_ hn hl), atI_nat (List.getElem?_eq_getElem hj), q _ (List.getElem_mem hj) H' a⟩)
end

/-! ## a drawn kind, as the laws about worths draw it -/
def spDrawn (K : PySem.W.Frag) (N : Nat) : Sp := fun vs H Q _ => ∃ (w : Addr) (n : Int), vs = [.ref w, .int n] ∧ Well H w ∧ 0 ≤ n ∧ n < N ∧ N ≤ 1000 ∧
  ∀ (k : Kd) (v : V) (H' : Hp), k.ok → k.leaves ≤ max 1 n.toNat → Dq K (out w H') v k.dat → Aft w H H' → Q v H'
abbrev s_law_kind : Stmt := top 30
theorem sc_law_kind : FnScope ["well", "leaves", "first", "word"] ["well", "leaves"] (defScope s_law_kind) := ⟨rfl, rfl, rfl, by decide +kernel, rfl, by decide +kernel, by decide +kernel⟩
section
variable {P : Program} {w : World} {K : PySem.W.Frag} {mg : Str → Option Value} {base : Heap} {CN CT : Addr}
theorem base_at {K : PySem.W.Frag} {H : Hp} {p : Addr} {d : Int} (h : H p = some (.tup [.str "base", .int d])) (d0 : 0 ≤ d) : Dq K H (.ref p) (Kd.b d.toNat).dat := by
  have e : ((d.toNat : Nat) : Int) = d := by omega
  refine .tup (.of h) (.cons (.str _) (.cons ?_ .nil))
  show Dq K H (.int d) (.int (d.toNat : Nat))
  rw [e]; exact .int _
theorem unit_at {K : PySem.W.Frag} {H : Hp} {p : Addr} (h : H p = some (.tup [.str "unit"])) : Dq K H (.ref p) Kd.u.dat := .tup (.of h) (.cons (.str _) .nil)
theorem ok_kind1 {N : Nat} (A : At K mg "_law_kind" s_law_kind) (T : Txt K mg w CN CT) (C_law_draw : Cal P w K mg base CX0 1 "_law_draw" ["well", "below"] spDraw) (C_law_one : Cal P w K mg base CX0 2 "_law_one" ["well", "some"] (spOne K))
    (C_law_kind : Cal P w K mg base CX0 (N + 2) "_law_kind" ["well", "leaves"] (spDrawn K N)) : Cal P w K mg base CX0 (N + 3) "_law_kind" ["well", "leaves"] (spDrawn K (N + 1)) := by
  obtain ⟨f, fd, F, m⟩ := A
  refine ⟨f, fd, F.ok sc_law_kind (fun vs H Q E h => ?_) (fun cdv A outer s H vs Q E hr h => ?_), F.binds (ps := ["well", "leaves"]) (fun _ _ _ _ _ _ us hl => match us, hl with | [_, _], _ => rfl), F.kp, m⟩
  · obtain ⟨w, n, rfl, _⟩ := h; rfl
  obtain ⟨wl, n, rfl, hw, n0, n1, hN, q⟩ := h
  refine ⟨_, (pss_cons (ps_if (pt_cmpR op_lt (pv 1) pe_int (nomark _))
   (pss_one (ps_ret (pe_calC C_law_one (hr.mono (by first | decide | omega)) pass0 (pa_cons (pv 0) (pa_cons (pe_lst (pa_cons (pe_tup (pa_cons pe_str (pa_cons (pe_calC C_law_draw (hr.mono (by first | decide | omega)) pass0 (pa_cons (pv 0) (pa_cons pe_int pa_nil))) pa_nil))) (pa_cons (pe_tup (pa_cons pe_str (pa_cons (pe_calC C_law_draw (hr.mono (by first | decide | omega)) pass0 (pa_cons (pv 0) (pa_cons pe_int pa_nil))) pa_nil))) (pa_cons (pe_tup (pa_cons pe_str (pa_cons pe_int pa_nil))) (pa_cons (pe_tup (pa_cons pe_str pa_nil)) pa_nil))))) pa_nil)))))
   pss_nil)
  (pss_cons (ps_set (i := 2) sc_law_kind.nd rfl (by first | exact Or.inl rfl | exact Or.inr rfl) (pe_op op_addA pe_int (pe_calC C_law_draw (hr.mono (by first | decide | omega)) pass0 (pa_cons (pv 0) (pa_cons (pe_op op_sub (pv 1) pe_int) pa_nil)))))
  (pss_cons (ps_set (i := 3) sc_law_kind.nd rfl (by first | exact Or.inl rfl | exact Or.inr rfl) (pe_calC C_law_one (hr.mono (by first | decide | omega)) pass0 (pa_cons (pv 0) (pa_cons (pe_lst (pa_cons pe_str (pa_cons pe_str pa_nil))) pa_nil))))
  (pss_one (ps_ret (pe_tup (pa_cons (pv 3) (pa_cons (pe_calC C_law_kind (hr.mono (by first | decide | omega)) pass0 (pa_cons (pv 0) (pa_cons (pv 2) pa_nil))) (pa_cons (pe_calC C_law_kind (hr.mono (by first | decide | omega)) pass0 (pa_cons (pv 0) (pa_cons (pe_op op_sub (pv 1) (pv 2)) pa_nil))) pa_nil))))))))), ?_⟩
  refine ⟨_, rfl, _, _, rfl, rfl, _, rfl, ?_⟩
  refine ite2 (fun c => ?_) (fun c => ?_)
  · refine ⟨_, rfl, _, rfl, wl, _, rfl, hw, by decide, by decide, fun d1 H1 d10 d1n a1 => ⟨(by show 2 ≤ sizeLine; decide), fun p1 hp1 => ?_⟩⟩
    have e1 := a1.well.laid hp1 (.tup [.str "base", .int d1])
    refine ⟨_, rfl, wl, _, rfl, a1.well.new hp1 _, by decide, by decide, fun d2 H2 d20 d2n a2 => ⟨(by show 2 ≤ sizeLine; decide), fun p2 hp2 => ?_⟩⟩
    have b2 := (a1.new hp1 (.tup [.str "base", .int d1])).trans a2
    have e2 := b2.well.laid hp2 (.tup [.str "base", .int d2])
    refine ⟨(by show 2 ≤ sizeLine; decide), fun p3 hp3 => ?_⟩
    have b3 := b2.new hp2 (.tup [.str "base", .int d2])
    have e3 := b3.well.laid hp3 (.tup [.str "base", .int 7])
    refine ⟨(by show 1 ≤ sizeLine; decide), fun p4 hp4 => ?_⟩
    have b4 := b3.new hp3 (.tup [.str "base", .int 7])
    have e4 := b4.well.laid hp4 (.tup [.str "unit"])
    refine ⟨(by show 4 ≤ sizeLine; decide), fun l hl => ?_⟩
    have b5 := b4.new hp4 (.tup [.str "unit"])
    refine ⟨wl, l, _, rfl, b5.well.new hl _, upd_same, b5.well.ne hl, by simp, by show (4 : Nat) < 1073741824; decide, fun v hv H' a => ?_⟩
    have b6 := (b5.new hl (.lst [.ref p1, .ref p2, .ref p3, .ref p4])).trans a
    have z6 := (out_new hl (.lst [.ref p1, .ref p2, .ref p3, .ref p4])).trans a.but
    have z5 := (out_new hp4 (.tup [.str "unit"])).trans z6
    have z4 := (out_new hp3 (.tup [.str "base", .int 7])).trans z5
    have z3 := (out_new hp2 (.tup [.str "base", .int d2])).trans z4
    have z2 := a2.but.trans z3
    simp only [List.mem_cons, List.not_mem_nil, or_false] at hv
    rcases hv with rfl | rfl | rfl | rfl
    · exact q (.b d1.toNat) _ H' (by show d1.toNat < 8; omega) (by simp only [Kd.leaves]; omega) (base_at (z2 _ _ e1) d10) b6
    · exact q (.b d2.toNat) _ H' (by show d2.toNat < 8; omega) (by simp only [Kd.leaves]; omega) (base_at (z4 _ _ e2) d20) b6
    · exact q (.b 7) _ H' (by show 7 < 8; omega) (by simp only [Kd.leaves]; omega) (base_at (d := 7) (z5 _ _ e3) (by decide)) b6
    · exact q .u _ H' trivial (by simp only [Kd.leaves]; omega) (unit_at (z6 _ _ e4)) b6
  · have c' : ¬ n < 2 := of_decide_eq_false (Bool.eq_false_iff.mpr c)
    refine ⟨_, rfl, _, rfl, _, _, rfl, rfl, wl, n - 1, rfl, hw, by omega, by omega, fun d H1 d0 d1 a1 => .inl ⟨_, _, rfl, rfl, ?_⟩⟩
    refine ⟨_, rfl, (by show 2 ≤ sizeLine; decide), fun l hl => ?_⟩
    have hw1 := a1.well.new hl (.lst [.str "both", .str "from"])
    refine ⟨wl, l, _, rfl, hw1, upd_same, a1.well.ne hl, by simp, by show (2 : Nat) < 1073741824; decide, fun wd hwd H2 a2 => ?_⟩
    have b2 := (a1.new hl (.lst [.str "both", .str "from"])).trans a2
    refine ⟨_, rfl, _, rfl, _, rfl, wl, _, rfl, a2.well, by omega, by omega, by omega, fun k1 v1 H3 ok1 le1 dk1 a3 => ?_⟩
    refine ⟨_, rfl, _, rfl, _, rfl, _, _, rfl, rfl, wl, n - (1 + d), rfl, a3.well, by omega, by omega, by omega, fun k2 v2 H4 ok2 le2 dk2 a4 => ⟨(by show 3 ≤ sizeLine; decide), fun p hp => ?_⟩⟩
    have b4 := ((b2.trans a3).trans a4).new hp (.tup [wd, v1, v2])
    have en := a4.well.laid hp (.tup [wd, v1, v2])
    have s4 := out_new (w := wl) hp (.tup [wd, v1, v2])
    have hle : k1.leaves + k2.leaves ≤ max 1 n.toNat := by omega
    simp only [List.mem_cons, List.not_mem_nil, or_false] at hwd
    rcases hwd with rfl | rfl
    · exact q (.p k1 k2) _ _ ⟨ok1, ok2⟩ hle (.tup (.of en) (.cons (.str _) (.cons (dk1.same (a4.but.trans s4)) (.cons (dk2.same s4) .nil)))) b4
    · exact q (.f k1 k2) _ _ ⟨ok1, ok2⟩ hle (.tup (.of en) (.cons (.str _) (.cons (dk1.same (a4.but.trans s4)) (.cons (dk2.same s4) .nil)))) b4
theorem ok_kind (A : At K mg "_law_kind" s_law_kind) (T : Txt K mg w CN CT) (C_law_draw : Cal P w K mg base CX0 1 "_law_draw" ["well", "below"] spDraw) (C_law_one : Cal P w K mg base CX0 2 "_law_one" ["well", "some"] (spOne K)) :
    ∀ N : Nat, Cal P w K mg base CX0 (N + 2) "_law_kind" ["well", "leaves"] (spDrawn K N)
  | 0 => cal_vac A (fun f fd F => F.binds (ps := ["well", "leaves"]) (fun _ _ _ _ _ _ us hl => match us, hl with | [_, _], _ => rfl)) fun vs H Q E ⟨w, n, _, _, h0, h1, _⟩ => by omega
  | N + 1 => ok_kind1 A T C_law_draw C_law_one (ok_kind A T C_law_draw C_law_one N)
end

/-! ## kinds: is_base_number, is_kind -/
theorem letters8 : ("abcdefgh" : Str).length = 8 := by decide +kernel
theorem letters_fit : ("abcdefgh" : Str).length ≤ sizeLine := by rw [letters8]; decide
def spBn (K : PySem.W.Frag) : Sp := fun vs H Q _ => ∃ v d, vs = [v] ∧ Dq K H v d ∧ Q (.bl (isBn d)) H
def spShp (K : PySem.W.Frag) : Sp := fun vs H Q _ => ∃ v d, vs = [v] ∧ Dq K H v d ∧ Q (.bl (shp d)) H
def spIsKd (K : PySem.W.Frag) : Sp := fun vs H Q _ => ∃ v d, vs = [v] ∧ Dq K H v d ∧ sz d ≤ 1000000 ∧ ∀ H', Same H H' → Q (.bl (isKd d)) H'
abbrev s_is_base_number : Stmt := top 8
theorem sc_is_base_number : FnScope ["thing"] ["thing"] (defScope s_is_base_number) := ⟨rfl, rfl, rfl, by decide +kernel, rfl, by decide +kernel, by decide +kernel⟩
abbrev s_is_kind_but_for_parts : Stmt := top 10
theorem sc_is_kind_but_for_parts : FnScope ["thing", "word"] ["thing"] (defScope s_is_kind_but_for_parts) := ⟨rfl, rfl, rfl, by decide +kernel, rfl, by decide +kernel, by decide +kernel⟩
abbrev s_is_kind : Stmt := top 9
theorem sc_is_kind : FnScope ["thing", "left", "part"] ["thing"] (defScope s_is_kind) := ⟨rfl, rfl, rfl, by decide +kernel, rfl, by decide +kernel, by decide +kernel⟩
section
variable {P : Program} {w : World} {K : PySem.W.Frag} {mg : Str → Option Value} {base : Heap} {CN CT : Addr}
theorem ok_is_base_number (A : At K mg "is_base_number" s_is_base_number) (T : Txt K mg w CN CT) : Cal P w K mg base CX0 1 "is_base_number" ["thing"] (spBn K) := by
  obtain ⟨f, fd, F, m⟩ := A
  refine ⟨f, fd, F.ok sc_is_base_number (fun vs H Q E h => ?_) (fun cdv A outer s H vs Q E hr h => ?_), F.binds (ps := ["thing"]) (fun _ _ _ _ _ _ us hl => match us, hl with | [_], _ => rfl), F.kp, m⟩
  · obtain ⟨v, d, rfl, _⟩ := h; rfl
  obtain ⟨v, d, rfl, hd, q⟩ := h
  refine ⟨_, (pss_one (ps_ret (pe_and (pe_cmpR op_isTyB (pe_callTy call_type1 (by rfl) T.z_type (by decide +kernel) (pa_cons (pv 0) pa_nil)) (pe_bltn (v := .ty "int") (by rfl) T.z_int (by decide +kernel) rfl) (nomark _)) (pe_one (pe_chain op_le op_lt pe_int (pv 0) (pe_callB call_len (by rfl) T.z_len (by decide +kernel) (pa_cons (pe_globS (by rfl) T.g_BASE_LETTERS) pa_nil))))))), ?_⟩
  refine ⟨_, rfl, _, _, rfl, hd.ty, _, _, rfl, rfl, _, rfl, ?_⟩
  refine ite2 (fun c => ?_) (fun c => ?_)
  · have c' := of_decide_eq_true c
    cases hd <;> simp [tyN] at c'
    rename_i n
    refine ⟨_, rfl, _, _, rfl, rfl, _, rfl, ?_⟩
    have q' : Q (.bl (decide (0 ≤ n) && decide (n < 8))) H := q
    refine ite2 (fun c2 => ?_) (fun c2 => ?_)
    · refine ⟨_, _, rfl, ⟨letters_fit, rfl⟩, _, _, rfl, rfl, ?_⟩
      rw [letters8]
      rw [c2, Bool.true_and] at q'
      exact q'
    · rw [Bool.eq_false_iff.mpr c2, Bool.false_and] at q'
      exact q'
  · have c' := of_decide_eq_false (Bool.eq_false_iff.mpr c)
    have e : isBn d = false := by cases d <;> first | rfl | (simp [tyN] at c')
    rw [e] at q
    exact q
/-- the words of SIGN_OF_WORD -/
theorem sow (w : Str) : ([(("both" : Str), V.str "*"), ("from", .str ">")].lookup w).isSome = (decide (w = "both") || decide (w = "from")) := by
  by_cases h : w = "both"
  · subst h; rfl
  · by_cases h2 : w = "from"
    · subst h2; rfl
    · have e1 : (w == ("both" : Str)) = false := beq_eq_false_iff_ne.mpr h
      have e2 : (w == ("from" : Str)) = false := beq_eq_false_iff_ne.mpr h2
      simp [List.lookup, e1, e2, h, h2]
theorem ok_is_kind_but_for_parts (A : At K mg "_is_kind_but_for_parts" s_is_kind_but_for_parts) (T : Txt K mg w CN CT) (C_is_base_number : Cal P w K mg base CX0 1 "is_base_number" ["thing"] (spBn K)) : Cal P w K mg base CX0 2 "_is_kind_but_for_parts" ["thing"] (spShp K) := by
  obtain ⟨f, fd, F, m⟩ := A
  refine ⟨f, fd, F.ok sc_is_kind_but_for_parts (fun vs H Q E h => ?_) (fun cdv A outer s H vs Q E hr h => ?_), F.binds (ps := ["thing"]) (fun _ _ _ _ _ _ us hl => match us, hl with | [_], _ => rfl), F.kp, m⟩
  · obtain ⟨v, d, rfl, _⟩ := h; rfl
  obtain ⟨v, d, rfl, hd, q⟩ := h
  refine ⟨_, (pss_cons (ps_if (PW.pt (pw_or (pt_cmpR op_notTyB (pe_callTy call_type1 (by rfl) T.z_type (by decide +kernel) (pa_cons (pv 0) pa_nil)) (pe_bltn (v := .ty "tuple") (by rfl) T.z_tuple (by decide +kernel) rfl) (nomark _)) (pw_or1 (pt_cmpR (op_eqA (room200 hr)) (pe_callB call_len (by rfl) T.z_len (by decide +kernel) (pa_cons (pv 0) pa_nil)) pe_int (nomark _)))))
   (pss_one (ps_ret pe_bl))
   pss_nil)
  (pss_cons (ps_set (i := 1) sc_is_kind_but_for_parts.nd rfl (by first | exact Or.inl rfl | exact Or.inr rfl) (pe_ix ix_B (pv 0) pe_int (fun _ _ => rfl)))
  (pss_cons (ps_if (pt_cmpR op_notTyB (pe_callTy call_type1 (by rfl) T.z_type (by decide +kernel) (pa_cons (pv 1) pa_nil)) (pe_bltn (v := .ty "str") (by rfl) T.z_str (by decide +kernel) rfl) (nomark _))
   (pss_one (ps_ret pe_bl))
   pss_nil)
  (pss_cons (ps_if (pt_cmpR (op_eqA (room200 hr)) (pv 1) pe_str (nomark _))
   (pss_one (ps_ret (pe_and (pe_cmpR (op_eqA (room200 hr)) (pe_callB call_len (by rfl) T.z_len (by decide +kernel) (pa_cons (pv 0) pa_nil)) pe_int (nomark _)) (pe_one (pe_calC C_is_base_number (hr.mono (by first | decide | omega)) pass0 (pa_cons (pe_ix ix_B (pv 0) pe_int (fun _ _ => rfl)) pa_nil))))))
   pss_nil)
  (pss_cons (ps_if (pt_cmpR (op_eqA (room200 hr)) (pv 1) pe_str (nomark _))
   (pss_one (ps_ret (pe_cmpR (op_eqA (room200 hr)) (pe_callB call_len (by rfl) T.z_len (by decide +kernel) (pa_cons (pv 0) pa_nil)) pe_int (nomark _))))
   pss_nil)
  (pss_one (ps_ret (pe_and (pe_cmpR op_in_DS (pv 1) (pe_globD (by rfl) T.g_SIGN_OF_WORD) rfl) (pe_one (pe_cmpR (op_eqA (room200 hr)) (pe_callB call_len (by rfl) T.z_len (by decide +kernel) (pa_cons (pv 0) pa_nil)) pe_int (nomark _))))))))))), ?_⟩
  refine ⟨_, rfl, _, _, rfl, hd.ty, _, _, rfl, rfl, _, rfl, ?_⟩
  by_cases ht : tyN d = "tuple"
  · rw [ht]
    refine iteF ?_
    cases hd <;> simp [tyN] at ht
    rename_i a xs ds hs ha
    have hlen := ha.length
    refine ⟨_, rfl, _, _, rfl, .inr ⟨_, hs, rfl⟩, .inl ⟨rfl, _, rfl, ?_⟩⟩
    cases ha with
    | nil => exact iteT q
    | cons h1 h2 =>
      rename_i v1 vs1 d1 ds1
      have hlen1 := h2.length
      refine iteF' (decide_eq_false (by intro z; have z' := V.int.inj z; rw [List.length_cons] at z'; omega)) ?_
      refine ⟨_, rfl, .inl (.inr (.inl ⟨a, _, 0, v1, rfl, rfl, hs, at0 _ _, ?_⟩))⟩
      refine ⟨_, rfl, _, _, rfl, h1.ty, _, _, rfl, rfl, _, rfl, ?_⟩
      by_cases ht1 : tyN d1 = "str"
      · rw [ht1]
        refine iteF ?_
        cases h1 <;> simp [tyN] at ht1
        rename_i z
        refine ⟨_, rfl, .inl ⟨rfl, _, rfl, ?_⟩⟩
        by_cases hb : z = "base"
        · subst hb
          refine iteT' (decide_eq_true rfl) ?_
          refine ⟨_, rfl, _, _, rfl, .inr ⟨_, hs, rfl⟩, .inl ⟨rfl, _, rfl, ?_⟩⟩
          cases h2 with
          | nil => exact iteF' (by decide) (qbl q (by simp [shp]))
          | cons h3 h4 =>
            rename_i v2 vs2 d2 ds2
            cases h4 with
            | nil =>
              refine iteT' (decide_eq_true rfl) ?_
              exact ⟨_, rfl, .inl (.inr (.inl ⟨a, _, 1, v2, rfl, rfl, hs, at1 _ _ _, v2, d2, rfl, h3, qbl q (by simp [shp])⟩))⟩
            | cons h5 h6 => exact iteF' (decide_eq_false (by intro z; have z' := V.int.inj z; simp only [List.length_cons] at z'; omega)) (qbl q (by simp [shp]))
        · refine iteF' (decide_eq_false fun z => hb (V.str.inj z)) ?_
          refine ⟨_, rfl, .inl ⟨rfl, _, rfl, ?_⟩⟩
          by_cases hu : z = "unit"
          · subst hu
            refine iteT' (decide_eq_true rfl) ?_
            refine ⟨_, rfl, _, _, rfl, .inr ⟨_, hs, rfl⟩, .inl ⟨rfl, qbl q ?_⟩⟩
            cases ds1 with
            | nil => simp [shp, unit_ne_base, hlen1]
            | cons x r => simp [shp, unit_ne_base, hlen1]; omega
          · refine iteF' (decide_eq_false fun z => hu (V.str.inj z)) ?_
            refine ⟨_, rfl, fun dd hD => ⟨z, dd, _, rfl, rfl, hD, _, rfl, ?_⟩⟩
            rw [if_neg Bool.false_ne_true, sow]
            have e0 : shp (.tuple (.str z :: ds1)) = ((decide (z = "both") || decide (z = "from")) && ds1.length == 2) := by simp [shp, hb, hu]
            rw [e0] at q
            refine ite2 (fun c => ?_) (fun c => ?_)
            · rw [c, Bool.true_and] at q
              refine ⟨_, rfl, _, _, rfl, .inr ⟨_, hs, rfl⟩, .inl ⟨rfl, qbl q ?_⟩⟩
              rw [List.length_cons, hlen1]
              by_cases h2 : ds1.length = 2
              · rw [h2]; rfl
              · rw [beq_eq_false_iff_ne.mpr h2]
                exact (decide_eq_false fun z => h2 (by have z' := V.int.inj z; omega)).symm
            · rw [Bool.eq_false_iff.mpr c, Bool.false_and] at q
              exact q
      · refine iteT' (by simp [ht1]) ?_
        exact qbl q (by cases d1 <;> first | (simp [shp]; done) | (simp [tyN] at ht1))
  · refine iteT' (by simp [ht]) ?_
    exact qbl q (by cases d <;> first | (simp [shp]; done) | (simp [tyN] at ht))
end

section
variable {P : Program} {w : World} {K : PySem.W.Frag} {mg : Str → Option Value} {base : Heap} {CN CT : Addr}
theorem ok_is_kind (A : At K mg "is_kind" s_is_kind) (T : Txt K mg w CN CT) (C_is_kind_but_for_parts : Cal P w K mg base CX0 2 "_is_kind_but_for_parts" ["thing"] (spShp K)) : Cal P w K mg base CX0 3 "is_kind" ["thing"] (spIsKd K) := by
  obtain ⟨f, fd, F, m⟩ := A
  refine ⟨f, fd, F.ok sc_is_kind (fun vs H Q E h => ?_) (fun cdv A outer s H vs Q E hr h => ?_), F.binds (ps := ["thing"]) (fun _ _ _ _ _ _ us hl => match us, hl with | [_], _ => rfl), F.kp, m⟩
  · obtain ⟨v, d, rfl, _⟩ := h; rfl
  obtain ⟨v, d, rfl, hd, hz, q⟩ := h
  refine ⟨_, (pss_cons (ps_set (i := 1) sc_is_kind.nd rfl (by first | exact Or.inl rfl | exact Or.inr rfl) (pe_lst (pa_cons (pv 0) pa_nil)))
  (pss_cons (ps_while PassesOwn.never (pt_truth (pv 1) (by intro _; rfl))
   (pss_cons (ps_set (i := 2) sc_is_kind.nd rfl (by first | exact Or.inl rfl | exact Or.inr rfl) (pe_bm0 PySem.F.plainAttrs_list PySem.F.slot_list_pop PySem.F.type_list_pop mt_pop (pv 1) ))
  (pss_cons (ps_if (pt_not (pt_val (pe_calC C_is_kind_but_for_parts (hr.mono (by first | decide | omega)) pass0 (pa_cons (pv 2) pa_nil))))
   (pss_one (ps_ret pe_bl))
   pss_nil)
  (pss_one (ps_if (pt_cmpR op_in_DS (pe_ix ix_B (pv 2) pe_int (fun _ _ => rfl)) (pe_globD (by rfl) T.g_SIGN_OF_WORD) rfl)
   (pss_one (ps_expr (pe_bm PySem.F.plainAttrs_list PySem.F.slot_list_extend PySem.F.type_list_extend mt_extendT (pv 1) (pa_cons (pe_slice sl_A (pv 2) (po_some pe_int) po_none) pa_nil))))
   pss_nil)))))
  (pss_one (ps_ret pe_bl)))), ?_⟩
  refine ⟨_, rfl, (by show 1 ≤ sizeLine; decide), fun l hl => ?_⟩
  refine ⟨fun n σ H' => ∃ vs ds o, σ = [some v, some (.ref l), o] ∧ H' l = some (.lst vs) ∧ DqAll K (out l H') vs ds ∧ n = szs ds ∧ n ≤ sz d ∧ Same H (out l H') ∧ isKd d = ds.all isKd,
    ⟨sz d, [v], [d], none, rfl, upd_same, .cons (hd.same (same_keepO' hl)) .nil, by simp [szs], Nat.le_refl _, same_keepO' hl, by simp⟩, ?_⟩
  rintro n σ H1 ⟨vs, ds, o, rfl, e1, ha, rfl, hn, sm, hk⟩
  refine ⟨_, rfl, _, .inl ⟨vs, .of e1, rfl⟩, ?_⟩
  have hlen := ha.length
  rcases List.eq_nil_or_concat ds with hds | ⟨ds', x, hds⟩
  · subst hds
    cases ha
    exact iteF' rfl (qbl (q _ (of_out sm)) (by rw [hk]; rfl))
  · rw [List.concat_eq_append] at hds
    subst hds
    obtain ⟨us, y, rfl, ha1, hx⟩ := ha.last
    refine iteT' (by simp) ⟨_, fun _ _ z => z, ?_⟩
    refine ⟨_, rfl, .inl ⟨rfl, _, .of e1⟩, l, us ++ [y], y, rfl, rfl, e1, last_at us y, ?_⟩
    rw [dl_append]
    have hx' : Dq K (upd H1 l (.lst us)) y x := hx.same out_upd
    have hsz : szs (ds' ++ [x]) = szs ds' + sz x := by rw [szs_append]; simp [szs]
    have hk' : isKd d = (ds'.all isKd && isKd x) := by rw [hk, List.all_append]; simp
    have hsm : Same H (out l (upd H1 l (.lst us))) := same_keepO sm _
    refine ⟨_, rfl, y, x, rfl, hx', _, rfl, ?_⟩
    by_cases hs : shp x = true
    · refine iteF' (by rw [hs]; rfl) ?_
      obtain ⟨wd, r, rfl⟩ := shp_is x hs
      have hturn := isKd_turn (.tuple (.str wd :: r))
      rw [hs, Bool.true_and] at hturn
      have hkz := kids_sz (.tuple (.str wd :: r))
      cases hx with
      | tup hS hA =>
        rename_i a xs
        cases hA with
        | cons h1 h2 =>
          rename_i v1 vs1
          cases h1
          have hS2 : SqT K (upd H1 l (.lst us)) a (V.str wd :: vs1) := KB.Same.tup out_upd hS
          refine ⟨_, rfl, .inl (.inr (.inl ⟨a, _, 0, _, rfl, rfl, hS2, at0 _ _, ?_⟩))⟩
          refine fun dd hD => ⟨wd, dd, _, rfl, rfl, hD, _, rfl, ?_⟩
          rw [if_neg Bool.false_ne_true, sow]
          refine ite2 (fun c => ?_) (fun c => ?_)
          · have ek : kids (.tuple (.str wd :: r)) = r := by
              simp only [kids]
              rw [if_pos (by simpa using c)]
            rw [ek] at hturn hkz
            refine ⟨_, rfl, .inl ⟨rfl, _, .of upd_same⟩, _, rfl, 1, rfl, .inr (.inl ⟨a, _, rfl, hS2, cut1_not _ _, fun p hp => ?_⟩)⟩
            rw [cut1]
            have npl : l ≠ p := ne_of_none upd_same hp
            have hl1 := ha1.length
            have hl2 := h2.length
            have hb1 := len_szs ds'
            have hb2 := len_szs r
            refine ⟨l, p, us, vs1, rfl, rfl, by rw [upd_ne npl]; exact upd_same, .of upd_same, fits (by omega), ?_⟩
            have s1 : Same (out l H1) (out l (upd (upd (upd H1 l (.lst us)) p (.tup vs1)) l (.lst (us ++ vs1)))) := (out_set _).trans ((out_new hp _).trans (out_set _))
            exact ⟨szs (ds' ++ r), by rw [hsz, szs_append]; omega, us ++ vs1, ds' ++ r, _, rfl, upd_same, (ha1.same s1).append (h2.same s1), rfl, by rw [szs_append]; omega, sm.trans s1, by rw [hk', hturn, List.all_append]⟩
          · have ek : kids (.tuple (.str wd :: r)) = [] := by
              simp only [kids]
              rw [if_neg (by simpa using c)]
            rw [ek] at hturn
            have s1 : Same (out l H1) (out l (upd H1 l (.lst us))) := out_set _
            exact ⟨szs ds', by have := sz_pos (.tuple (.str wd :: r)); omega, us, ds', _, rfl, upd_same, ha1.same s1, rfl, by omega, hsm, by rw [hk', hturn]; simp⟩
    · have hs' : shp x = false := Bool.eq_false_iff.mpr hs
      refine iteT' (by rw [hs']; rfl) ?_
      exact qbl (q _ (of_out hsm)) (by rw [hk', isKd_turn x, hs']; simp)
end

/-! ## need_kind -/
def spNeed (K : PySem.W.Frag) (CN : Addr) : Sp := fun vs H Q E => ∃ v d, vs = [v] ∧ Dq K H v d ∧ sz d ≤ 1000000 ∧
  (isKd d = true → ∀ H', Same H H' → Q .non H') ∧ (isKd d = false → ∀ H', Same H H' → E (.ref CN) none H')
abbrev s_need_kind : Stmt := top 11
theorem sc_need_kind : FnScope ["thing"] ["thing"] (defScope s_need_kind) := ⟨rfl, rfl, rfl, by decide +kernel, rfl, by decide +kernel, by decide +kernel⟩
section
variable {P : Program} {w : World} {K : PySem.W.Frag} {mg : Str → Option Value} {base : Heap} {CN CT : Addr}
theorem ok_need_kind (A : At K mg "need_kind" s_need_kind) (T : Txt K mg w CN CT) (C_is_kind : Cal P w K mg base CX0 3 "is_kind" ["thing"] (spIsKd K)) : Cal P w K mg base (L2.CX P w) 4 "need_kind" ["thing"] (spNeed K CN) := by
  obtain ⟨f, fd, F, m⟩ := A
  refine ⟨f, fd, F.okX sc_need_kind (fun vs H Q E h => ?_) (fun cdv A outer s H vs Q E hr h => ?_), F.binds (ps := ["thing"]) (fun _ _ _ _ _ _ us hl => match us, hl with | [_], _ => rfl), F.kp, m⟩
  · obtain ⟨v, d, rfl, _⟩ := h; rfl
  obtain ⟨v, d, rfl, hd, hz, q1, q2⟩ := h
  refine ⟨_, (pss_one (ps_if (pt_not (pt_val (pe_calC C_is_kind (hr.mono (by first | decide | omega)) pass0 (pa_cons (pv 0) pa_nil))))
   (pss_one (ps_raiseO rfl (takes_of rfl rfl rfl rfl) T.e_NoKind))
   pss_nil)), ?_⟩
  refine ⟨_, rfl, v, d, rfl, hd, hz, fun H' sm => ⟨_, rfl, ?_⟩⟩
  by_cases hk : isKd d = true
  · exact iteF' (by rw [hk]; rfl) (q1 hk H' sm)
  · have hk' : isKd d = false := Bool.eq_false_iff.mpr hk
    exact iteT' (by rw [hk']; rfl) (q2 hk' H' sm)
end

/-! ## an object of a kind by sizes is made -/
/-- of a base or the unit, of a pair, of a function -/
def spSz (CZ : Addr) : Sp := fun vs H Q _ => ∃ (a dx : Addr) (wd : Str) (o t : V) (m k : Nat), vs = [.ref a, .str wd, o, t, .int m] ∧ H a = some (.ins CZ dx []) ∧
  ((o = .non ∧ wd ≠ "from" ∧ k = 0) ∨
    ∃ (ao at_ : Addr) (w1 w2 : Str) (o1 t1 o2 t2 : V) (m1 k1 m2 k2 : Nat), o = .ref ao ∧ t = .ref at_ ∧ SzO H CZ ao w1 o1 t1 m1 k1 ∧ SzO H CZ at_ w2 o2 t2 m2 k2 ∧ k = if wd = "from" then max (max k1 k2) m1 else max k1 k2) ∧
  Q .non (upd H a (.ins CZ dx (szF wd o t m k)))
section
variable {P : Program} {w : World} {K : PySem.W.Frag} {mg : Str → Option Value} {base : Heap} {CZ CS CM : Addr}
theorem ok_sz (T : TxS K mg CZ CS CM) : ∃ fI fd, FnOk P w K mg base CX0 1 fI fd ["self", "word", "one", "other", "many"] (spSz CZ) ∧ Fun K "__init__" "Sized.__init__" s_Sized___init__ fI fd ∧ Mk K CZ fI := by
  obtain ⟨fI, fd, F, M⟩ := T.makes
  refine ⟨fI, fd, F.ok sc_Sized___init__ (fun vs H Q E h => ?_) (fun cdv A outer s H vs Q E hr h => ?_), F, M⟩
  · obtain ⟨a, dx, wd, o, t, m, k, rfl, _⟩ := h; rfl
  obtain ⟨a, dx, wd, o, t, m, k, rfl, e, hk, q⟩ := h
  refine ⟨_, (pss_cons (ps_fld (pv 0) (pv 1) rfl)
  (pss_cons (ps_fld (pv 0) (pv 2) rfl)
  (pss_cons (ps_fld (pv 0) (pv 3) rfl)
  (pss_cons (ps_fld (pv 0) (pv 4) rfl)
  (pss_cons (ps_fld (pv 0) pe_int rfl)
  (pss_cons (ps_if (pt_cmpR op_notN (pv 2) pe_non (nomark _))
   (pss_one (ps_fld (pv 0) (pe_callB (call_max2 rfl) (by rfl) T.z_max (by decide +kernel) (pa_cons (pe_fld (pv 2) rfl) (pa_cons (pe_fld (pv 3) rfl) pa_nil))) rfl))
   pss_nil)
  (pss_one (ps_if (pt_cmpR (op_eqA (room200 hr)) (pv 1) pe_str (nomark _))
   (pss_one (ps_fld (pv 0) (pe_callB (call_max2 rfl) (by rfl) T.z_max (by decide +kernel) (pa_cons (pe_fld (pv 0) rfl) (pa_cons (pe_fld (pv 2) rfl) pa_nil))) rfl))
   pss_nil)))))))), ?_⟩
  have l1 := putF_le (f := "word") (v := .str wd) (fs := [])
  have l2 := putF_le (f := "one") (v := o) (fs := putF "word" (.str wd) [])
  have l3 := putF_le (f := "other") (v := t) (fs := putF "one" o (putF "word" (.str wd) []))
  have l4 := putF_le (f := "many") (v := .int m) (fs := putF "other" t (putF "one" o (putF "word" (.str wd) [])))
  rw [List.length_nil] at l1
  refine ⟨_, rfl, _, rfl, a, CZ, dx, [], rfl, e, T.cls, T.no_word, by decide, ?_⟩
  refine ⟨_, rfl, _, rfl, a, CZ, dx, _, rfl, upd_same, T.cls, T.no_one, by omega, ?_⟩
  refine ⟨_, rfl, _, rfl, a, CZ, dx, _, rfl, upd_same, T.cls, T.no_other, by omega, ?_⟩
  refine ⟨_, rfl, _, rfl, a, CZ, dx, _, rfl, upd_same, T.cls, T.no_many, by omega, ?_⟩
  refine ⟨_, rfl, a, CZ, dx, _, rfl, upd_same, T.cls, T.no_most, by omega, ?_⟩
  rw [upd_twice, upd_twice, upd_twice, upd_twice, szF_made]
  have lz : ∀ {j : Nat}, (szF wd o t m j).length < 1000 := fun {j} => by show 5 < 1000; decide
  rcases hk with ⟨rfl, hw, rfl⟩ | ⟨ao, at_, w1, w2, o1, t1, o2, t2, m1, k1, m2, k2, rfl, rfl, ⟨d1, g1⟩, ⟨d2, g2⟩, rfl⟩
  · refine ⟨_, rfl, rfl, _, rfl, iteF' (by simp) ?_⟩
    refine ⟨_, rfl, .inl ⟨rfl, _, rfl, iteF' (by simpa using hw) q⟩⟩
  · have n1 : ao ≠ a := fun z => by rw [z, e] at g1; cases g1
    have n2 : at_ ≠ a := fun z => by rw [z, e] at g2; cases g2
    refine ⟨_, rfl, rfl, _, rfl, iteT' (by simp) ?_⟩
    refine ⟨_, rfl, ao, CZ, d1, _, _, rfl, (upd_ne n1).trans g1, T.cls, T.no_most, szF_most, _, rfl, at_, CZ, d2, _, _, rfl, (upd_ne n2).trans g2, T.cls, T.no_most, szF_most, _, _, rfl, _, rfl, a, CZ, dx, _, rfl, upd_same, T.cls, T.no_most, lz, ?_⟩
    rw [max_int, szF_put, upd_twice]
    refine ⟨_, rfl, .inl ⟨rfl, _, rfl, ite2 (fun c => ?_) (fun c => ?_)⟩⟩
    · have hw : wd = "from" := by simpa using c
      refine ⟨_, rfl, a, CZ, dx, _, _, rfl, upd_same, T.cls, T.no_most, szF_most, _, rfl, ao, CZ, d1, _, _, rfl, (upd_ne n1).trans g1, T.cls, T.no_many, szF_many, _, _, rfl, _, rfl, a, CZ, dx, _, rfl, upd_same, T.cls, T.no_most, lz, ?_⟩
      rw [max_int, szF_put, upd_twice]
      rw [if_pos hw] at q
      exact q
    · have hw : ¬ wd = "from" := by simpa using c
      rw [if_neg hw] at q
      exact q
end

/-! ## a power, or what is too great -/
def spPow : Sp := fun vs H Q _ => ∃ n t : Nat, vs = [.int n, .int t] ∧ 1 ≤ n ∧ n ≤ tooGreat ∧ Q (.int (pw n t : Nat)) H
abbrev s_power : Stmt := top 21
theorem sc_power : FnScope ["number", "times", "whole"] ["number", "times"] (defScope s_power) := ⟨rfl, rfl, rfl, by decide +kernel, rfl, by decide +kernel, by decide +kernel⟩
section
variable {P : Program} {w : World} {K : PySem.W.Frag} {mg : Str → Option Value} {base : Heap} {CZ CS CM : Addr}
theorem ok_power (A : At K mg "_power" s_power) (T : TxS K mg CZ CS CM) : Cal P w K mg base CX0 1 "_power" ["number", "times"] spPow := by
  obtain ⟨f, fd, F, m⟩ := A
  refine ⟨f, fd, F.ok sc_power (fun vs H Q E h => ?_) (fun cdv A outer s H vs Q E hr h => ?_), F.binds (ps := ["number", "times"]) (fun _ _ _ _ _ _ us hl => match us, hl with | [_, _], _ => rfl), F.kp, m⟩
  · obtain ⟨n, t, rfl, _⟩ := h; rfl
  obtain ⟨n, t, rfl, n1, n2, q⟩ := h
  refine ⟨_, (pss_cons (ps_if (pt_cmpR (op_eqA (room200 hr)) (pv 0) pe_int (nomark _))
   (pss_one (ps_ret pe_int))
   pss_nil)
  (pss_cons (ps_set (i := 2) sc_power.nd rfl (by first | exact Or.inl rfl | exact Or.inr rfl) pe_int)
  (pss_cons (ps_while PassesOwn.never (PW.pt (pw_and (pt_cmpR op_gt (pv 1) pe_int (nomark _)) (pw_and1 (pt_cmpR op_lt (pv 2) (pe_globN (by rfl) T.g_TOO_GREAT) (nomark _)))))
   (pss_cons (ps_set (i := 2) sc_power.nd rfl (by first | exact Or.inl rfl | exact Or.inr rfl) (pe_op op_mulW (pv 2) (pv 0)))
  (pss_one (ps_aug (i := 1) sc_power.nd rfl (by first | exact Or.inl rfl | exact Or.inr rfl) pe_int ip_sub))))
  (pss_one (ps_ret (pe_callB (call_min2 rfl) (by rfl) T.z_min (by decide +kernel) (pa_cons (pv 2) (pa_cons (pe_globN (by rfl) T.g_TOO_GREAT) pa_nil)))))))), ?_⟩
  refine ⟨_, rfl, .inl ⟨rfl, _, rfl, ite2 (fun c => ?_) (fun c => ?_)⟩⟩
  · have e : n = 1 := by have z : V.int n = V.int 1 := of_decide_eq_true c; have z2 := V.int.inj z; omega
    rw [e, pw_one] at q
    exact q
  · refine ⟨fun m σ H' => ∃ j : Nat, j ≤ t ∧ m = t - j ∧ H' = H ∧ σ = [some (.int n), some (.int (t - j : Nat)), some (.int (n ^ j : Nat))], ⟨t, 0, Nat.zero_le _, rfl, rfl, rfl⟩, ?_⟩
    rintro m σ H' ⟨j, hj, rfl, rfl, rfl⟩
    refine ⟨_, rfl, _, _, rfl, rfl, _, rfl, ite2 (fun c1 => ?_) (fun c1 => ?_)⟩
    · have p1 : 0 < t - j := by have := of_decide_eq_true c1; omega
      refine ⟨_, rfl, _, _, rfl, rfl, decide (n ^ j < tooGreat), congrArg V.bl (by rw [← tooGreat_int]; exact decide_eq_decide.mpr Int.ofNat_lt), ite2 (fun c2 => ?_) (fun c2 => ?_)⟩
      · have p2 : n ^ j < tooGreat := of_decide_eq_true c2
        refine ⟨fun σ H2 => H2 = H' ∧ σ = [some (.int n), some (.int (t - (j + 1) : Nat)), some (.int (n ^ (j + 1) : Nat))], ?_, ?_⟩
        · rintro σ H' ⟨rfl, rfl⟩
          exact ⟨t - (j + 1), by omega, j + 1, by omega, rfl, rfl, rfl⟩
        · refine ⟨_, rfl, _, rfl, _, _, rfl, rfl, pow_mul_ok n2 p2, ?_⟩
          refine ⟨_, rfl, _, _, rfl, rfl, rfl, ?_⟩
          have e1 : ((t - j : Nat) : Int) - 1 = ((t - (j + 1) : Nat) : Int) := by omega
          have e2 : ((n ^ j : Nat) : Int) * (n : Int) = ((n ^ (j + 1) : Nat) : Int) := by rw [Nat.pow_succ]; exact (Int.natCast_mul _ _).symm
          show [some (V.int n), some (V.int (((t - j : Nat) : Int) - 1)), some (V.int (((n ^ j : Nat) : Int) * (n : Int)))] = _
          rw [e1, e2]
      · have p2 : tooGreat ≤ n ^ j := Nat.le_of_not_lt fun z => c2 (decide_eq_true z)
        have e := pw_stop n1 hj (.inr p2)
        refine ⟨_, rfl, _, _, rfl, ?_⟩
        rw [← tooGreat_int, min_nat, e]
        exact q
    · simp only [Bool.false_eq_true, if_false]
      have p1 : t - j = 0 := by
        have h : ¬ ((t - j : Nat) : Int) > 0 := fun z => c1 (decide_eq_true z)
        omega
      have e := pw_stop n1 hj (.inl p1)
      refine ⟨_, rfl, _, _, rfl, ?_⟩
      rw [← tooGreat_int, min_nat, e]
      exact q
end

/-! ## a kind by sizes -/
def spBy (K : PySem.W.Frag) (CZ : Addr) (N : Nat) : Sp := fun vs H Q _ => ∃ (v : V) (k : Kd) (sa : Addr) (ss : List Int) (s : Nat → Nat), vs = [v, .ref sa] ∧ Dq K H v k.dat ∧ k.ok ∧ k.deep < N ∧ SqL K H sa (ss.map V.int) ∧
  (∀ i, i < 8 → ss[i]? = some ((s i : Nat) : Int)) ∧ (∀ i, 1 ≤ s i ∧ s i ≤ 999) ∧ ∀ (v' : V) (H' : Hp), Same H H' → Szd CZ s H' k v' → Q v' H'
theorem num_mul_ok {i j : Nat} (h1 : i ≤ tooGreat) (h2 : j ≤ tooGreat) : CMulW (i : Int) (j : Int) := by
  have b := tooGreat_bits
  exact wide_mul (a := 140) (b := 140) (by rw [Int.natAbs_natCast]; omega) (by rw [Int.natAbs_natCast]; omega) (by decide) (by decide) (by decide)
theorem same_made {H : Hp} {x dx C : Addr} {fs : List (Str × V)} (hx : H x = none) (hd : H dx = none) : Same H (upd (upd (upd H dx (.own x)) x (.ins C dx [])) x (.ins C dx fs)) := fun b o e => by
  have n1 : b ≠ x := ne_of_none e hx
  have n2 : b ≠ dx := ne_of_none e hd
  rw [upd_ne n1, upd_ne n1, upd_ne n2]
  exact e
abbrev s_by_sizes : Stmt := top 20
theorem sc_by_sizes : FnScope ["kind", "sizes", "word", "one", "other"] ["kind", "sizes"] (defScope s_by_sizes) := ⟨rfl, rfl, rfl, by decide +kernel, rfl, by decide +kernel, by decide +kernel⟩
section
variable {P : Program} {w : World} {K : PySem.W.Frag} {mg : Str → Option Value} {base : Heap} {CZ CS CM : Addr}
theorem ok_by1 {N : Nat} (A : At K mg "by_sizes" s_by_sizes) (T : TxS K mg CZ CS CM) (C_power : Cal P w K mg base CX0 1 "_power" ["number", "times"] spPow) (C_by_sizes : Cal P w K mg base CX0 (N + 2) "by_sizes" ["kind", "sizes"] (spBy K CZ N)) : Cal P w K mg base CX0 (N + 3) "by_sizes" ["kind", "sizes"] (spBy K CZ (N + 1)) := by
  obtain ⟨f, fd, F, m⟩ := A
  obtain ⟨fI, fdI, FI, GI, M⟩ := ok_sz (P := P) (base := base) T
  have bI : Binds K fdI ["self", "word", "one", "other", "many"] [] := GI.binds (ps := ["self", "word", "one", "other", "many"]) (fun _ _ _ _ _ _ us hl => match us, hl with | [_, _, _, _, _], _ => rfl)
  refine ⟨f, fd, F.ok sc_by_sizes (fun vs H Q E h => ?_) (fun cdv A outer s H vs Q E hr h => ?_), F.binds (ps := ["kind", "sizes"]) (fun _ _ _ _ _ _ us hl => match us, hl with | [_, _], _ => rfl), F.kp, m⟩
  · obtain ⟨v, k, sa, ss, s, rfl, _⟩ := h; rfl
  obtain ⟨v, k, sa, ss, s, rfl, hd, ok, dp, hS, hs, hb, q⟩ := h
  refine ⟨_, (pss_cons (ps_set (i := 2) sc_by_sizes.nd rfl (by first | exact Or.inl rfl | exact Or.inr rfl) (pe_ix ix_B (pv 0) pe_int (fun _ _ => rfl)))
  (pss_cons (ps_if (pt_cmpR (op_eqA (room200 hr)) (pv 2) pe_str (nomark _))
   (pss_one (ps_ret (pe_make M FI (hr.mono (by first | decide | omega)) (by rfl) T.g_Sized bI .nil pass0 (pa_cons (pv 2) (pa_cons pe_non (pa_cons pe_non (pa_cons (pe_ix ix_B (pv 1) (pe_ix ix_B (pv 0) pe_int (fun _ _ => rfl)) (fun _ _ => rfl)) pa_nil)))))))
   pss_nil)
  (pss_cons (ps_if (pt_cmpR (op_eqA (room200 hr)) (pv 2) pe_str (nomark _))
   (pss_one (ps_ret (pe_make M FI (hr.mono (by first | decide | omega)) (by rfl) T.g_Sized bI .nil pass0 (pa_cons (pv 2) (pa_cons pe_non (pa_cons pe_non (pa_cons pe_int pa_nil)))))))
   pss_nil)
  (pss_cons (ps_set (i := 3) sc_by_sizes.nd rfl (by first | exact Or.inl rfl | exact Or.inr rfl) (pe_calC C_by_sizes (hr.mono (by first | decide | omega)) pass0 (pa_cons (pe_ix ix_B (pv 0) pe_int (fun _ _ => rfl)) (pa_cons (pv 1) pa_nil))))
  (pss_cons (ps_set (i := 4) sc_by_sizes.nd rfl (by first | exact Or.inl rfl | exact Or.inr rfl) (pe_calC C_by_sizes (hr.mono (by first | decide | omega)) pass0 (pa_cons (pe_ix ix_B (pv 0) pe_int (fun _ _ => rfl)) (pa_cons (pv 1) pa_nil))))
  (pss_cons (ps_if (pt_cmpR (op_eqA (room200 hr)) (pv 2) pe_str (nomark _))
   (pss_one (ps_ret (pe_make M FI (hr.mono (by first | decide | omega)) (by rfl) T.g_Sized bI .nil pass0 (pa_cons (pv 2) (pa_cons (pv 3) (pa_cons (pv 4) (pa_cons (pe_callB (call_min2 rfl) (by rfl) T.z_min (by decide +kernel) (pa_cons (pe_op op_mulW (pe_fld (pv 3) rfl) (pe_fld (pv 4) rfl)) (pa_cons (pe_globN (by rfl) T.g_TOO_GREAT) pa_nil))) pa_nil)))))))
   pss_nil)
  (pss_one (ps_ret (pe_make M FI (hr.mono (by first | decide | omega)) (by rfl) T.g_Sized bI .nil pass0 (pa_cons (pv 2) (pa_cons (pv 3) (pa_cons (pv 4) (pa_cons (pe_calC C_power (hr.mono (by first | decide | omega)) pass0 (pa_cons (pe_fld (pv 4) rfl) (pa_cons (pe_fld (pv 3) rfl) pa_nil))) pa_nil))))))))))))), ?_⟩
  cases k with
  | b i =>
    cases hd with
    | tup hT hA =>
      cases hA with
      | cons h1 h2 =>
        cases h1
        cases h2 with
        | cons h3 h4 =>
          cases h3
          cases h4
          have i8 : i < 8 := ok
          refine ⟨_, rfl, .inl (.inr (.inl ⟨_, _, 0, _, rfl, rfl, hT, rfl, ?_⟩))⟩
          refine ⟨_, rfl, .inl ⟨rfl, _, rfl, iteT' (by decide) ?_⟩⟩
          refine ⟨_, rfl, _, rfl, _, rfl, .inl (.inr (.inl ⟨_, _, 1, _, rfl, rfl, hT, rfl, .inl (.inl ⟨sa, _, (i : Int), .int (s i), rfl, rfl, hS, atI_nat (by rw [List.getElem?_map, hs i i8]; rfl), fun x dx hx hd ne => ?_⟩)⟩))⟩
          exact ⟨x, dx, "base", .non, .non, s i, 0, rfl, upd_same, .inl ⟨rfl, by decide, rfl⟩, rfl, q _ _ (same_made hx hd) ⟨x, rfl, dx, upd_same⟩⟩
  | u =>
    cases hd with
    | tup hT hA =>
      cases hA with
      | cons h1 h2 =>
        cases h1
        cases h2
        refine ⟨_, rfl, .inl (.inr (.inl ⟨_, _, 0, _, rfl, rfl, hT, rfl, ?_⟩))⟩
        refine ⟨_, rfl, .inl ⟨rfl, _, rfl, iteF' (by decide) ?_⟩⟩
        refine ⟨_, rfl, .inl ⟨rfl, _, rfl, iteT' (by decide) ?_⟩⟩
        refine ⟨_, rfl, fun x dx hx hd ne => ?_⟩
        exact ⟨x, dx, "unit", .non, .non, 1, 0, rfl, upd_same, .inl ⟨rfl, by decide, rfl⟩, rfl, q _ _ (same_made hx hd) ⟨x, rfl, dx, upd_same⟩⟩
  | p x y =>
    have n1 := Kd.num_le (fun i => (hb i).2) x
    have n2 := Kd.num_le (fun i => (hb i).2) y
    have dpx : x.deep < N := by have z : 1 + max x.deep y.deep < N + 1 := dp; omega
    have dpy : y.deep < N := by have z : 1 + max x.deep y.deep < N + 1 := dp; omega
    cases hd with
    | tup hT hA =>
      cases hA with
      | cons h1 h2 =>
        cases h1
        cases h2 with
        | cons h3 h4 =>
          cases h4 with
          | cons h5 h6 =>
            cases h6
            refine ⟨_, rfl, .inl (.inr (.inl ⟨_, _, 0, _, rfl, rfl, hT, rfl, ?_⟩))⟩
            refine ⟨_, rfl, .inl ⟨rfl, _, rfl, iteF' (by decide) ?_⟩⟩
            refine ⟨_, rfl, .inl ⟨rfl, _, rfl, iteF' (by decide) ?_⟩⟩
            refine ⟨_, rfl, .inl (.inr (.inl ⟨_, _, 1, _, rfl, rfl, hT, rfl, _, rfl, _, x, sa, ss, s, rfl, h3, ok.1, dpx, hS, hs, hb, fun v1 H1 s1 z1 => ?_⟩))⟩
            refine ⟨_, rfl, .inl (.inr (.inl ⟨_, _, 2, _, rfl, rfl, Same.tup s1 hT, rfl, _, rfl, _, y, sa, ss, s, rfl, h5.same s1, ok.2, dpy, L2.Same.seq s1 hS, hs, hb, fun v2 H2 s2 z2 => ?_⟩))⟩
            have z1 := z1.same s2
            obtain ⟨a1, w1, o1, t1, rfl, d1, g1⟩ := z1.obj
            obtain ⟨a2, w2, o2, t2, rfl, d2, g2⟩ := z2.obj
            refine ⟨_, rfl, .inl ⟨rfl, _, rfl, iteT' (by decide) ?_⟩⟩
            refine ⟨_, rfl, _, rfl, _, rfl, _, rfl, a1, CZ, d1, _, _, rfl, g1, T.cls, T.no_many, szF_many, _, rfl, a2, CZ, d2, _, _, rfl, g2, T.cls, T.no_many, szF_many, _, _, rfl, rfl, num_mul_ok n1 n2, _, _, rfl, ?_⟩
            rw [← tooGreat_int, ← Int.natCast_mul, min_nat]
            intro xa dx hx hd ne
            refine ⟨xa, dx, "both", .ref a1, .ref a2, (Kd.p x y).num s, (Kd.p x y).took s, rfl, upd_same, .inr ⟨a1, a2, w1, w2, o1, t1, o2, t2, x.num s, x.took s, y.num s, y.took s, rfl, rfl, ⟨d1, (upd_ne (ne_of_none g1 hx)).trans ((upd_ne (ne_of_none g1 hd)).trans g1)⟩, ⟨d2, (upd_ne (ne_of_none g2 hx)).trans ((upd_ne (ne_of_none g2 hd)).trans g2)⟩, (if_neg (by decide)).symm⟩, rfl, ?_⟩
            have sm := same_made (C := CZ) (fs := szF "both" (.ref a1) (.ref a2) ((Kd.p x y).num s) ((Kd.p x y).took s)) hx hd
            exact q _ _ (s1.trans (s2.trans sm)) ⟨xa, _, _, rfl, ⟨dx, upd_same⟩, z1.same sm, z2.same sm⟩
  | f x y =>
    have n1 := Kd.num_le (fun i => (hb i).2) x
    have n2 := Kd.num_le (fun i => (hb i).2) y
    have dpx : x.deep < N := by have z : 1 + max x.deep y.deep < N + 1 := dp; omega
    have dpy : y.deep < N := by have z : 1 + max x.deep y.deep < N + 1 := dp; omega
    cases hd with
    | tup hT hA =>
      cases hA with
      | cons h1 h2 =>
        cases h1
        cases h2 with
        | cons h3 h4 =>
          cases h4 with
          | cons h5 h6 =>
            cases h6
            refine ⟨_, rfl, .inl (.inr (.inl ⟨_, _, 0, _, rfl, rfl, hT, rfl, ?_⟩))⟩
            refine ⟨_, rfl, .inl ⟨rfl, _, rfl, iteF' (by decide) ?_⟩⟩
            refine ⟨_, rfl, .inl ⟨rfl, _, rfl, iteF' (by decide) ?_⟩⟩
            refine ⟨_, rfl, .inl (.inr (.inl ⟨_, _, 1, _, rfl, rfl, hT, rfl, _, rfl, _, x, sa, ss, s, rfl, h3, ok.1, dpx, hS, hs, hb, fun v1 H1 s1 z1 => ?_⟩))⟩
            refine ⟨_, rfl, .inl (.inr (.inl ⟨_, _, 2, _, rfl, rfl, Same.tup s1 hT, rfl, _, rfl, _, y, sa, ss, s, rfl, h5.same s1, ok.2, dpy, L2.Same.seq s1 hS, hs, hb, fun v2 H2 s2 z2 => ?_⟩))⟩
            have z1 := z1.same s2
            obtain ⟨a1, w1, o1, t1, rfl, d1, g1⟩ := z1.obj
            obtain ⟨a2, w2, o2, t2, rfl, d2, g2⟩ := z2.obj
            refine ⟨_, rfl, .inl ⟨rfl, _, rfl, iteF' (by decide) ?_⟩⟩
            refine ⟨_, rfl, _, rfl, _, rfl, _, rfl, a2, CZ, d2, _, _, rfl, g2, T.cls, T.no_many, szF_many, _, rfl, a1, CZ, d1, _, _, rfl, g1, T.cls, T.no_many, szF_many, y.num s, x.num s, rfl, Kd.num_pos (fun i => (hb i).1) y, n2, ?_⟩
            intro xa dx hx hd ne
            refine ⟨xa, dx, "from", .ref a1, .ref a2, (Kd.f x y).num s, (Kd.f x y).took s, rfl, upd_same, .inr ⟨a1, a2, w1, w2, o1, t1, o2, t2, x.num s, x.took s, y.num s, y.took s, rfl, rfl, ⟨d1, (upd_ne (ne_of_none g1 hx)).trans ((upd_ne (ne_of_none g1 hd)).trans g1)⟩, ⟨d2, (upd_ne (ne_of_none g2 hx)).trans ((upd_ne (ne_of_none g2 hd)).trans g2)⟩, (if_pos rfl).symm⟩, rfl, ?_⟩
            have sm := same_made (C := CZ) (fs := szF "from" (.ref a1) (.ref a2) ((Kd.f x y).num s) ((Kd.f x y).took s)) hx hd
            exact q _ _ (s1.trans (s2.trans sm)) ⟨xa, _, _, rfl, ⟨dx, upd_same⟩, z1.same sm, z2.same sm⟩
theorem ok_by (A : At K mg "by_sizes" s_by_sizes) (T : TxS K mg CZ CS CM) (C_power : Cal P w K mg base CX0 1 "_power" ["number", "times"] spPow) : ∀ N : Nat, Cal P w K mg base CX0 (N + 2) "by_sizes" ["kind", "sizes"] (spBy K CZ N)
  | 0 => cal_vac A (fun f fd F => F.binds (ps := ["kind", "sizes"]) (fun _ _ _ _ _ _ us hl => match us, hl with | [_, _], _ => rfl)) fun vs H Q E ⟨v, k, sa, ss, s, _, _, _, h, _⟩ => absurd h (Nat.not_lt_zero _)
  | N + 1 => ok_by1 A T C_power (ok_by A T C_power N)
end

/-! ## sizes: is_sizes, need_sizes, sized_kind -/
/-- the def stands under its name; cc is its code -/
def AtC (K : PySem.W.Frag) (mg : Str → Option Value) (x : Str) (st : Stmt) (cc : Addr) : Prop := ∃ f fd, Fun K x x st f fd ∧ mg x = some (.ref f) ∧ fd.code = .ref cc
def spIsSz (K : PySem.W.Frag) (PT : Addr) : Sp := fun vs H Q _ => ∃ v d, vs = [v] ∧ Dq K H v d ∧ GxR.TabG H PT ∧ ∀ H', Stay PT H H' → Q (.bl (isSz d)) H'
abbrev s_is_sizes : Stmt := top 18
theorem sc_is_sizes : FnScope ["thing", "size"] ["thing"] (defScope s_is_sizes) := ⟨rfl, rfl, rfl, by decide +kernel, rfl, by decide +kernel, by decide +kernel⟩
theorem letters8s : ("abcdefgh" : Str).length = 8 := by decide +kernel
theorem gens_of {env : Env} {scope : Scope} {x : Str} (h1 : scope.kind = .function) (h2 : scope.isCoroutine = false) (h3 : (scope.names.all fun y => decide (y.2 ≠ .cell) && decide (y.2 ≠ .free)) = true) (h4 : scope.names.lookup (".0" : Str) = some NameKind.local) (h5 : scope.names.lookup x = some .local) : GxR.GenS env scope x where
  kind := h1
  co := h2
  cell := fun y hy => by
    have h := List.all_eq_true.mp h3 y hy
    rw [Bool.and_eq_true] at h
    exact of_decide_eq_true h.1
  dot := h4
  loc := h5
  free := fun y hy e => by
    have h := List.all_eq_true.mp h3 y hy
    rw [Bool.and_eq_true] at h
    exact absurd e (of_decide_eq_true h.2)
section
variable {P : Program} {w : World} {K : PySem.W.Frag} {mg : Str → Option Value} {base : Heap} {CZ CS CM : Addr}
theorem ok_is_sizes {cc PT : Addr} (A : AtC K mg "is_sizes" s_is_sizes cc) (TB : GxR.TabB base mg cc PT) (T : TxS K mg CZ CS CM) : Cal P w K mg base CX0 1 "is_sizes" ["thing"] (spIsSz K PT) := by
  obtain ⟨f, fd, F, m, hcode⟩ := A
  have bI : Binds K fd ["thing"] [] := F.binds (ps := ["thing"]) (fun _ _ _ _ _ _ us hl => match us, hl with | [_], _ => rfl)
  have kp := F.kp
  obtain ⟨oc, od, kV, doc, pm, an, cdv, ct, osl, rfl, lk, hcd⟩ := F.ex
  have hcc : cdv = .ref cc := hcode
  subst hcc
  obtain ⟨tg, hg9⟩ := T.g_GREATEST_SIZE
  refine ⟨f, _, fn_of lk hcd sc_is_sizes (fun vs H Q E h => ?_) (fun A outer s H vs Q E hr h => ?_), bI, kp, m⟩
  · obtain ⟨v, d, rfl, _⟩ := h; rfl
  obtain ⟨v, d, rfl, hd, hT, q⟩ := h
  refine ⟨_, (pss_cons (ps_if (PW.pt (pw_or (pt_cmpR op_notTyB (pe_callTy call_type1 (by rfl) T.z_type (by decide +kernel) (pa_cons (pv 0) pa_nil)) (pe_bltn (v := .ty "list") (by rfl) T.z_list (by decide +kernel) rfl) (nomark _)) (pw_or1 (pt_cmpR (op_neA (room200 hr)) (pe_callB call_len (by rfl) T.z_len (by decide +kernel) (pa_cons (pv 0) pa_nil)) (pe_callB call_len (by rfl) T.z_len (by decide +kernel) (pa_cons (pe_globS (by rfl) T.g_BASE_LETTERS) pa_nil)) (nomark _)))))
   (pss_one (ps_ret pe_bl))
   pss_nil)
  (pss_one (ps_ret (pe_allL hr (by rfl) T.z_all (by decide +kernel) TB rfl (gens_of rfl rfl (by decide +kernel) rfl rfl) (pv 0) (elt_size rfl rfl rfl rfl rfl T.z_type T.z_int hg9) (fun _ => rfl))))), ?_⟩
  refine ⟨_, rfl, _, _, rfl, hd.ty, _, _, rfl, rfl, _, rfl, ?_⟩
  by_cases ht : tyN d = "list"
  · rw [ht]
    refine iteF ?_
    cases hd <;> simp [tyN] at ht
    rename_i a xs ds hs ha
    refine ⟨_, rfl, _, _, rfl, .inl ⟨_, hs, rfl⟩, _, _, rfl, ⟨letters_fit, rfl⟩, .inl ⟨rfl, _, rfl, ?_⟩⟩
    rw [letters8, ha.length]
    by_cases h8 : ds.length = 8
    · refine iteF' (by rw [h8]; rfl) ?_
      refine ⟨_, rfl, a, xs, rfl, hs, ha.tys, hT, fun H2 t2 => ?_⟩
      rw [ha.szV]
      have q2 := q H2 (.of_tab hT t2)
      have e : isSz (.list ds) = ds.all szD := by simp [isSz, h8]
      rw [e] at q2
      exact q2
    · refine iteT' (by simp; omega) ?_
      have e : isSz (.list ds) = false := by simp [isSz, h8]
      have q2 := q H (.refl hT)
      rw [e] at q2
      exact q2
  · refine iteT' (by simp [ht]) ?_
    have e : isSz d = false := by cases d <;> first | rfl | (simp [tyN] at ht)
    have q2 := q H (.refl hT)
    rw [e] at q2
    exact q2
end
def spNeedSz (K : PySem.W.Frag) (PT CS : Addr) : Sp := fun vs H Q E => ∃ v d, vs = [v] ∧ Dq K H v d ∧ GxR.TabG H PT ∧ (isSz d = true → ∀ H', Stay PT H H' → Q .non H') ∧ (isSz d = false → ∀ H', Stay PT H H' → E (.ref CS) none H')
abbrev s_need_sizes : Stmt := top 19
theorem sc_need_sizes : FnScope ["thing"] ["thing"] (defScope s_need_sizes) := ⟨rfl, rfl, rfl, by decide +kernel, rfl, by decide +kernel, by decide +kernel⟩
/-- the kind by sizes, or the refusals in their order -/
def spSk (K : PySem.W.Frag) (CN CS CZ PT : Addr) (N : Nat) : Sp := fun vs H Q E => ∃ v u d e, vs = [v, u] ∧ Dq K H v d ∧ Dq K H u e ∧ sz d ≤ 1000000 ∧ GxR.TabG H PT ∧
  (isKd d = false → ∀ H', Stay PT H H' → E (.ref CN) none H') ∧ (isKd d = true → isSz e = false → ∀ H', Stay PT H H' → E (.ref CS) none H') ∧
  (∀ k ds, d = k.dat → k.ok → e = .list ds → isSz e = true → k.deep < N ∧ ∀ v' H', Stay PT H H' → Szd CZ (sOf ds) H' k v' → Q v' H')
abbrev s_sized_kind : Stmt := top 17
theorem sc_sized_kind : FnScope ["kind", "sizes"] ["kind", "sizes"] (defScope s_sized_kind) := ⟨rfl, rfl, rfl, by decide +kernel, rfl, by decide +kernel, by decide +kernel⟩
section
variable {P : Program} {w : World} {K : PySem.W.Frag} {mg : Str → Option Value} {base : Heap} {CN CZ CS CM : Addr}
theorem ok_need_sizes {PT : Addr} (A : At K mg "need_sizes" s_need_sizes) (T : TxS K mg CZ CS CM) (C_is_sizes : Cal P w K mg base CX0 1 "is_sizes" ["thing"] (spIsSz K PT)) : Cal P w K mg base (L2.CX P w) 2 "need_sizes" ["thing"] (spNeedSz K PT CS) := by
  obtain ⟨f, fd, F, m⟩ := A
  refine ⟨f, fd, F.okX sc_need_sizes (fun vs H Q E h => ?_) (fun cdv A outer s H vs Q E hr h => ?_), F.binds (ps := ["thing"]) (fun _ _ _ _ _ _ us hl => match us, hl with | [_], _ => rfl), F.kp, m⟩
  · obtain ⟨v, d, rfl, _⟩ := h; rfl
  obtain ⟨v, d, rfl, hd, hT, q1, q2⟩ := h
  refine ⟨_, (pss_one (ps_if (pt_not (pt_val (pe_calC C_is_sizes (hr.mono (by first | decide | omega)) pass0 (pa_cons (pv 0) pa_nil))))
   (pss_one (ps_raiseO rfl (takes_of rfl rfl rfl rfl) T.e_NoSizes))
   pss_nil)), ?_⟩
  refine ⟨_, rfl, v, d, rfl, hd, hT, fun H' sm => ⟨_, rfl, ?_⟩⟩
  by_cases hk : isSz d = true
  · exact iteF' (by rw [hk]; rfl) (q1 hk H' sm)
  · have hk' : isSz d = false := Bool.eq_false_iff.mpr hk
    exact iteT' (by rw [hk']; rfl) (q2 hk' H' sm)
theorem ok_sized_kind {PT : Addr} {N : Nat} (A : At K mg "sized_kind" s_sized_kind) (T : TxS K mg CZ CS CM) (C_need_kind : Cal P w K mg base (L2.CX P w) 4 "need_kind" ["thing"] (spNeed K CN)) (C_need_sizes : Cal P w K mg base (L2.CX P w) 2 "need_sizes" ["thing"] (spNeedSz K PT CS)) (C_by_sizes : Cal P w K mg base CX0 (N + 2) "by_sizes" ["kind", "sizes"] (spBy K CZ N)) :
    Cal P w K mg base (L2.CX P w) (N + 5) "sized_kind" ["kind", "sizes"] (spSk K CN CS CZ PT N) := by
  obtain ⟨f, fd, F, m⟩ := A
  refine ⟨f, fd, F.okX sc_sized_kind (fun vs H Q E h => ?_) (fun cdv A outer s H vs Q E hr h => ?_), F.binds (ps := ["kind", "sizes"]) (fun _ _ _ _ _ _ us hl => match us, hl with | [_, _], _ => rfl), F.kp, m⟩
  · obtain ⟨v, u, d, e, rfl, _⟩ := h; rfl
  obtain ⟨v, u, d, e, rfl, hd, he, hz, hT, q1, q2, q3⟩ := h
  refine ⟨_, (pss_cons (ps_expr (pe_calC C_need_kind (hr.mono (by first | decide | omega)) (passes_call (takes_of rfl rfl rfl rfl) (fun _ _ _ _ h => h)) (pa_cons (pv 0) pa_nil)))
  (pss_cons (ps_expr (pe_calC C_need_sizes (hr.mono (by first | decide | omega)) (passes_call (takes_of rfl rfl rfl rfl) (fun _ _ _ _ h => h)) (pa_cons (pv 1) pa_nil)))
  (pss_one (ps_ret (pe_calC C_by_sizes (hr.mono (by first | decide | omega)) pass0 (pa_cons (pv 0) (pa_cons (pv 1) pa_nil))))))), ?_⟩
  refine ⟨_, rfl, v, d, rfl, hd, hz, fun hk H1 s1 => ?_, fun hk H1 s1 => q1 hk H1 (.of_same hT s1)⟩
  have t1 := Stay.of_same hT s1
  refine ⟨_, rfl, u, e, rfl, he.same s1, t1.tab, fun hs H2 t2 => ?_, fun hs H2 t2 => q2 hk hs H2 (t1.trans t2)⟩
  obtain ⟨k, ok, rfl⟩ := kd_of d hk
  obtain ⟨ds, rfl, hl, ha⟩ := isSz_is hs
  obtain ⟨dp, q3⟩ := q3 k ds rfl ok rfl hs
  have t12 := t1.trans t2
  have he2 := t12.dq he
  cases he2 with
  | lst hS hA =>
    have ei := hA.ints ha
    subst ei
    refine ⟨_, rfl, _, rfl, v, k, _, ds.map KB.intD, sOf ds, rfl, t12.dq hd, ok, dp, hS, fun i hi => ints_at hl ha hi, sOf_ok hl ha, fun v' H3 s3 z3 => ?_⟩
    exact q3 v' H3 (t12.same s3) z3
end

/-! ## all worths -/
def spAw (K : PySem.W.Frag) (CZ : Addr) (N : Nat) : Sp := fun vs H Q _ => ∃ v k s, vs = [v] ∧ Szd CZ s H k v ∧ (∀ i, 1 ≤ s i ∧ s i ≤ 999) ∧ k.num s ≤ 5000 ∧ k.took s ≤ 5000 ∧ k.deep < N ∧
  ∀ us p H', H p = none → Same H H' → H' p = some (.lst us) → DqAll K (out p H') us (k.wl s) → Q (.ref p) H'
abbrev s_all_worths : Stmt := top 22
theorem sc_all_worths : FnScope ["kind", "others", "one", "other", "rows", "_", "row"] ["kind"] (defScope s_all_worths) := ⟨rfl, rfl, rfl, by decide +kernel, rfl, by decide +kernel, by decide +kernel⟩
/-- between two turns in which the rows are made longer -/
def RwW (K : PySem.W.Frag) (v : V) (p2 : Addr) (H H2 : Hp) (ws : List PyData) (j : Nat) (σ : L2.St) (H' : Hp) : Prop :=
  ∃ (r : Addr) (us : List V) (o2 o3 o5 o6 : Option V), σ = [some v, some (.ref p2), o2, o3, some (.ref r), o5, o6] ∧ H r = none ∧ H' r = some (.lst us) ∧ DqAll K (out r H') us ((rowsN ws j).map .tuple) ∧ Same H2 H'
section
variable {P : Program} {w : World} {K : PySem.W.Frag} {mg : Str → Option Value} {base : Heap} {CZ CS CM : Addr}
theorem ok_aw1 {N : Nat} (A : At K mg "all_worths" s_all_worths) (T : TxS K mg CZ CS CM) (C_all_worths : Cal P w K mg base CX0 (N + 1) "all_worths" ["kind"] (spAw K CZ N)) : Cal P w K mg base CX0 (N + 2) "all_worths" ["kind"] (spAw K CZ (N + 1)) := by
  obtain ⟨f, fd, F, m⟩ := A
  refine ⟨f, fd, F.ok sc_all_worths (fun vs H Q E h => ?_) (fun cdv A outer s H vs Q E hr h => ?_), F.binds (ps := ["kind"]) (fun _ _ _ _ _ _ us hl => match us, hl with | [_], _ => rfl), F.kp, m⟩
  · obtain ⟨v, k, s, rfl, _⟩ := h; rfl
  obtain ⟨v, k, s, rfl, z, hs, few, tk, dp, q⟩ := h
  refine ⟨_, (pss_cons (ps_if (pt_cmpR (op_eqA (room200 hr)) (pe_fld (pv 0) rfl) pe_str (nomark _))
   (pss_one (ps_ret (pe_listRg rfl (by rfl) T.z_list (prg_1 (by rfl) T.z_range (pe_fld (pv 0) rfl)))))
   pss_nil)
  (pss_cons (ps_if (pt_cmpR (op_eqA (room200 hr)) (pe_fld (pv 0) rfl) pe_str (nomark _))
   (pss_one (ps_ret (pe_lst (pa_cons (pe_tup pa_nil) pa_nil))))
   pss_nil)
  (pss_cons (ps_set (i := 1) sc_all_worths.nd rfl (by first | exact Or.inl rfl | exact Or.inr rfl) (pe_calC C_all_worths (hr.mono (by first | decide | omega)) pass0 (pa_cons (pe_fld (pv 0) rfl) pa_nil)))
  (pss_cons (ps_if (pt_cmpR (op_eqA (room200 hr)) (pe_fld (pv 0) rfl) pe_str (nomark _))
   (pss_one (ps_ret (pe_lc2 (own := [("one", 2), ("other", 3)]) (vs1 := [3]) (g := gName 2) (tt := tYes) (g1 := gName 3) (tt1 := tYes) (by rfl) sc_all_worths.nd (pi_list (pe_calC C_all_worths (hr.mono (by first | decide | omega)) pass0 (pa_cons (pe_fld (pv 0) rfl) pa_nil))) (blkOk_by (own := [("one", 2), ("other", 3)]) (N := ["kind", "others", "one", "other", "rows", "_", "row"]) (sc := defScope s_all_worths) (by decide +kernel)) (by decide) (fun _ _ _ _ _ => (pg_name (i := 2) sc_all_worths.nd rfl (by first | exact Or.inl rfl | exact Or.inr rfl))) (fun _ _ _ _ _ => pts_nil) (fun _ _ _ _ _ => (pi_listK (K := K) rfl (pv 1))) (fun _ _ _ _ _ => (pg_name (i := 3) sc_all_worths.nd rfl (by first | exact Or.inl rfl | exact Or.inr rfl))) (fun _ _ _ _ _ => pts_nil) (fun _ _ _ _ _ => (pe_tup (pa_cons (pv 2) (pa_cons (pv 3) pa_nil)))))))
   pss_nil)
  (pss_cons (ps_if (pt_cmpR (op_eqA (room200 hr)) (pe_callB call_len (by rfl) T.z_len (by decide +kernel) (pa_cons (pv 1) pa_nil)) pe_int (nomark _))
   (pss_one (ps_ret (pe_lst (pa_cons (pe_op op_repTA (pe_tup (pa_cons (pe_ix ix_B (pv 1) pe_int (fun _ _ => rfl)) pa_nil)) (pe_fld (pe_fld (pv 0) rfl) rfl)) pa_nil))))
   pss_nil)
  (pss_cons (ps_set (i := 4) sc_all_worths.nd rfl (by first | exact Or.inl rfl | exact Or.inr rfl) (pe_lst (pa_cons (pe_tup pa_nil) pa_nil)))
  (pss_cons (ps_for PassesOwn.never rfl (pi_range1 (by rfl) T.z_range (pa_cons (pe_fld (pe_fld (pv 0) rfl) rfl) pa_nil)) (pg_name (i := 5) sc_all_worths.nd rfl (by first | exact Or.inl rfl | exact Or.inr rfl))
   (pss_one (ps_setLc2 (i := 4) (own := [("row", 6), ("other", 3)]) (vs1 := [3]) (g := gName 6) (tt := tYes) (g1 := gName 3) (tt1 := tYes) (by rfl) sc_all_worths.nd rfl rfl (sw_true rfl rfl rfl (by decide +kernel)) (pi_list (pv 4)) (blkOk_by (own := [("row", 6), ("other", 3)]) (N := ["kind", "others", "one", "other", "rows", "_", "row"]) (sc := defScope s_all_worths) (by decide +kernel)) (by decide) (fun _ _ _ _ _ => (pg_name (i := 6) sc_all_worths.nd rfl (by first | exact Or.inl rfl | exact Or.inr rfl))) (fun _ _ _ _ _ => pts_nil) (fun _ _ _ _ _ => (pi_listK (K := K) rfl (pv 1))) (fun _ _ _ _ _ => (pg_name (i := 3) sc_all_worths.nd rfl (by first | exact Or.inl rfl | exact Or.inr rfl))) (fun _ _ _ _ _ => pts_nil) (fun _ _ _ _ _ => (pe_op (r := rAddB K) op_addB (pv 6) (pe_tup (pa_cons (pv 3) pa_nil)))))))
  (pss_one (ps_ret (pv 4)))))))))), ?_⟩
  cases k with
  | b i =>
    obtain ⟨a, rfl, dx, g⟩ := z
    refine ⟨_, rfl, a, CZ, dx, _, _, rfl, g, T.cls, T.no_word, szF_word, .inl ⟨rfl, _, rfl, iteT' (by decide) ?_⟩⟩
    have b := hs i
    refine ⟨_, rfl, a, CZ, dx, _, _, rfl, g, T.cls, T.no_many, szF_many, _, rfl, RgOk.of_le (by omega) (by omega) (by omega) (by omega), fun p hp => ?_⟩
    exact q _ _ _ hp (same_new hp _) upd_same (dq_range (s i))
  | u =>
    obtain ⟨a, rfl, dx, g⟩ := z
    refine ⟨_, rfl, a, CZ, dx, _, _, rfl, g, T.cls, T.no_word, szF_word, .inl ⟨rfl, _, rfl, iteF' (by decide) ?_⟩⟩
    refine ⟨_, rfl, a, CZ, dx, _, _, rfl, g, T.cls, T.no_word, szF_word, .inl ⟨rfl, _, rfl, iteT' (by decide) ?_⟩⟩
    refine ⟨Nat.zero_le _, fun t ht => ⟨(by show 1 ≤ sizeLine; decide), fun p hp => ?_⟩⟩
    have npt : t ≠ p := ne_of_none upd_same hp
    have hp0 : H p = none := by rw [upd_ne npt.symm] at hp; exact hp
    exact q _ _ _ hp0 ((same_new ht _).trans (same_new hp _)) upd_same (.cons (.tup (.of (out_at npt ((upd_ne npt).trans upd_same))) .nil) .nil)
  | p x y =>
    obtain ⟨a, o, t, rfl, ⟨dx, g⟩, z1, z2⟩ := z
    obtain ⟨n1, n2, n12⟩ := few_p hs few
    have dpx : x.deep < N := by have z : 1 + max x.deep y.deep < N + 1 := dp; omega
    have dpy : y.deep < N := by have z : 1 + max x.deep y.deep < N + 1 := dp; omega
    have tkx : x.took s ≤ 5000 ∧ y.took s ≤ 5000 := by have z : max (x.took s) (y.took s) ≤ 5000 := tk; omega
    have l1 := Kd.wl_length hs x (few_lt n1)
    have l2 := Kd.wl_length hs y (few_lt n2)
    refine ⟨_, rfl, a, CZ, dx, _, _, rfl, g, T.cls, T.no_word, szF_word, .inl ⟨rfl, _, rfl, iteF' (by decide) ?_⟩⟩
    refine ⟨_, rfl, a, CZ, dx, _, _, rfl, g, T.cls, T.no_word, szF_word, .inl ⟨rfl, _, rfl, iteF' (by decide) ?_⟩⟩
    refine ⟨_, rfl, a, CZ, dx, _, _, rfl, g, T.cls, T.no_other, szF_other, t, y, s, rfl, z2, hs, n2, tkx.2, dpy, fun us2 p2 H2 f2 s2 e2 d2 => ?_⟩
    have g2 := s2 _ _ g
    refine ⟨_, rfl, a, CZ, dx, _, _, rfl, g2, T.cls, T.no_word, szF_word, .inl ⟨rfl, _, rfl, iteT' (by decide) ?_⟩⟩
    refine ⟨_, rfl, a, CZ, dx, _, _, rfl, g2, T.cls, T.no_one, szF_one, o, x, s, rfl, z1.same s2, hs, n1, tkx.1, dpx, fun us1 p1 H3 f3 s3 e3 d3 => ?_⟩
    have e2' := s3 _ _ e2
    have dd2 : DqAll K H3 us2 (y.wl s) := (d2.same (out_sub _ _)).same s3
    have dd1 : DqAll K H3 us1 (x.wl s) := d3.same (out_sub _ _)
    have ln1 := dd1.length
    have ln2 := dd2.length
    refine ⟨p1, rfl, ⟨_, .of e3⟩, fun D hD => ?_⟩
    refine lc_out (K := K) (a := p1) (xs := us1) (fun i => Pr2 K D H3 (((x.wl s).take i).flatMap fun c => (y.wl s).map fun d => .tuple [c, d])) (Pr2.start hD) (fun i H4 _ ⟨_, _, _, s4⟩ => .of (s4 _ _ e3)) ?_ ?_
    · intro i xv H4 hx p4
      obtain ⟨c, hc, hdc⟩ := dd1.get hx
      refine ⟨rfl, _, rfl, p2, rfl, ⟨us2, .of (by obtain ⟨_, _, _, s4⟩ := p4; exact s4 _ _ e2')⟩, ?_⟩
      refine lc_out (K := K) (a := p2) (xs := us2) (fun j => Pr2 K D H3 (mid (x.wl s) (y.wl s) (fun c d => .tuple [c, d]) i c j)) (by rw [mid_zero]; exact p4) (fun j H5 _ ⟨_, _, _, s5⟩ => .of (s5 _ _ e2')) ?_ ?_
      · rintro j yv H5 hy ⟨acc, ea, da, s5⟩
        obtain ⟨d, hd, hdd⟩ := dd2.get hy
        have la := da.length
        have lm := mid_length (f := fun c d => .tuple [c, d]) (c := c) (List.getElem?_eq_some_iff.mp hc).1 (List.getElem?_eq_some_iff.mp hd).1 (by rw [l1, l2]; exact n12)
        refine ⟨rfl, _, rfl, _, rfl, (by show 2 ≤ sizeLine; decide), fun tt htt => ?_⟩
        have ntD : tt ≠ D := (ne_of_none ea htt).symm
        refine ⟨acc, (upd_ne ntD.symm).trans ea, fits_lt (by omega), ?_⟩
        rw [mid_succ hd]
        have sD : Same H3 (out D (upd H5 tt (.tup [xv, yv]))) := same_out hD (s5.trans (same_new htt _))
        exact Pr2.step hD ea da s5 (same_new htt _) (.tup (.of (out_at ntD upd_same)) (.cons (hdc.same sD) (.cons (hdd.same sD) .nil)))
      · intro H5 p5
        rw [ln2] at p5
        rw [mid_end hc] at p5
        exact p5
    · rintro H4 ⟨acc, ea, da, s4⟩
      rw [ln1, List.take_length] at da
      have nD : H D = none := by
        cases e : H D with
        | none => rfl
        | some o => rw [s3 _ _ (s2 _ _ e)] at hD; cases hD
      exact q acc D H4 nD (s2.trans (s3.trans s4)) ea da
  | f x y =>
    obtain ⟨a, o, t, rfl, ⟨dx, g⟩, z1, z2⟩ := z
    obtain ⟨a1, w1, o1, t1, rfl, d1, g1⟩ := z1.obj
    obtain ⟨n2, n12⟩ := few_f hs few
    have tkx : x.num s ≤ 5000 ∧ y.took s ≤ 5000 := by have z : max (max (x.took s) (y.took s)) (x.num s) ≤ 5000 := tk; omega
    have px := Kd.num_pos (fun i => (hs i).1) x
    have dpy : y.deep < N := by have z : 1 + max x.deep y.deep < N + 1 := dp; omega
    have l2 := Kd.wl_length hs y (few_lt n2)
    refine ⟨_, rfl, a, CZ, dx, _, _, rfl, g, T.cls, T.no_word, szF_word, .inl ⟨rfl, _, rfl, iteF' (by decide) ?_⟩⟩
    refine ⟨_, rfl, a, CZ, dx, _, _, rfl, g, T.cls, T.no_word, szF_word, .inl ⟨rfl, _, rfl, iteF' (by decide) ?_⟩⟩
    refine ⟨_, rfl, a, CZ, dx, _, _, rfl, g, T.cls, T.no_other, szF_other, t, y, s, rfl, z2, hs, n2, tkx.2, dpy, fun us2 p2 H2 f2 s2 e2 d2 => ?_⟩
    have g2 := s2 _ _ g
    have g12 := s2 _ _ g1
    have dd2 : DqAll K H2 us2 (y.wl s) := d2.same (out_sub _ _)
    have ln2 := dd2.length
    refine ⟨_, rfl, a, CZ, dx, _, _, rfl, g2, T.cls, T.no_word, szF_word, .inl ⟨rfl, _, rfl, iteF' (by decide) ?_⟩⟩
    refine ⟨_, rfl, _, _, rfl, .inl ⟨_, .of e2, rfl⟩, .inl ⟨rfl, _, rfl, ite2 (fun c => ?_) (fun c => ?_)⟩⟩
    · have c1 : us2.length = 1 := by have z := V.int.inj (of_decide_eq_true c); omega
      obtain ⟨u0, rfl⟩ := len_pos_of c1
      obtain ⟨e0, he0⟩ := len_pos_of (ln2.symm.trans c1)
      rw [he0] at dd2
      cases dd2 with
      | cons h0 _ =>
        refine ⟨_, rfl, .inl (.inl ⟨p2, _, 0, u0, rfl, rfl, .of e2, rfl, ?_⟩)⟩
        refine ⟨(by show 1 ≤ sizeLine; decide), fun tt htt => ?_⟩
        have stt := same_new htt (.tup [u0])
        refine ⟨_, rfl, a, CZ, dx, _, _, rfl, stt _ _ g2, T.cls, T.no_one, szF_one, a1, CZ, d1, _, _, rfl, stt _ _ g12, T.cls, T.no_many, szF_many, ?_⟩
        have ew : (Kd.f x y).wl s = [.tuple (List.replicate (x.num s) e0)] := by
          show (rowsN (y.wl s) (x.num s)).map PyData.tuple = _
          rw [he0, rowsN_one]; rfl
        have reps : ∀ (H9 : Hp) (n : Nat), Dq K H9 u0 e0 → DqAll K H9 (List.replicate n [u0]).flatten (List.replicate n e0) := fun H9 n h => by
          induction n with
          | zero => exact .nil
          | succ n ih => rw [List.replicate_succ, List.replicate_succ, List.flatten_cons]; exact .cons h ih
        by_cases k1 : x.num s = 1
        · refine .inl ⟨tt, [u0], rfl, by rw [k1]; rfl, .of upd_same, (by show 1 ≤ sizeLine; decide), fun p hp => ?_⟩
          have npt : tt ≠ p := ne_of_none upd_same hp
          have hp2 : H2 p = none := by rw [upd_ne npt.symm] at hp; exact hp
          have nD : H p = none := by
            cases e : H p with
            | none => rfl
            | some o => rw [s2 _ _ e] at hp2; cases hp2
          have s9 := (same_new htt (.tup [u0])).trans (same_new hp (.lst [.ref tt]))
          refine q _ _ _ nD (s2.trans s9) upd_same ?_
          rw [ew, k1]
          exact .cons (.tup (.of (out_at npt ((upd_ne npt).trans upd_same))) (.cons (h0.same (same_out hp2 s9)) .nil)) .nil
        · refine .inr ⟨tt, _, [u0], rfl, rfl, .of upd_same, by simp, by omega, by simp; omega, fun pt hpt => ⟨(by show 1 ≤ sizeLine; decide), fun p hp => ?_⟩⟩
          have npt : pt ≠ p := ne_of_none upd_same hp
          have s8 := (same_new htt (.tup [u0])).trans (same_new hpt (.tup (List.replicate ((x.num s : Nat) : Int).toNat [u0]).flatten))
          have hp2 : H2 p = none := by
            cases e : H2 p with
            | none => rfl
            | some o => rw [s8 _ _ e] at hp; cases hp
          have nD : H p = none := by
            cases e : H p with
            | none => rfl
            | some o => rw [s2 _ _ e] at hp2; cases hp2
          have s9 := s8.trans (same_new hp (.lst [.ref pt]))
          refine q _ _ _ nD (s2.trans s9) upd_same ?_
          rw [ew]
          exact .cons (.tup (.of (out_at npt ((upd_ne npt).trans upd_same))) (by rw [Int.toNat_natCast]; exact reps _ _ (h0.same (same_out hp2 s9)))) .nil
    · have c1 : us2.length ≠ 1 := fun z => c (decide_eq_true (by rw [z]; rfl))
      refine ⟨Nat.zero_le _, fun t0 ht0 => ⟨(by show 1 ≤ sizeLine; decide), fun r0 hr0 => ?_⟩⟩
      have nt0 : t0 ≠ r0 := ne_of_none upd_same hr0
      have hr2 : H2 r0 = none := by rw [upd_ne nt0.symm] at hr0; exact hr0
      have back : ∀ {p : Addr}, H2 p = none → H p = none := fun {p} hp2 => by
        cases e : H p with
        | none => rfl
        | some o => rw [s2 _ _ e] at hp2; cases hp2
      have s20 := (same_new ht0 (.tup [])).trans (same_new hr0 (.lst [.ref t0]))
      refine ⟨_, rfl, a, CZ, dx, _, _, rfl, s20 _ _ g2, T.cls, T.no_one, szF_one, a1, CZ, d1, _, _, rfl, s20 _ _ g12, T.cls, T.no_many, szF_many, _, rfl, by omega, by omega, ?_⟩
      refine for_range (n := x.num s) (RwW K (.ref a) p2 H H2 (y.wl s)) ⟨r0, _, _, _, _, _, rfl, back hr2, upd_same, .cons (.tup (.of (out_at nt0 ((upd_ne nt0).trans upd_same))) .nil) .nil, s20⟩ ?_ ?_
      · rintro j σ H4 hj ⟨r, us, o2, o3, o5, o6, rfl, nr, er, dr, s4⟩
        have lr : (rowsN (y.wl s) j).length * (y.wl s).length ≤ 5000 := by
          rw [rowsN_length, ← Nat.pow_succ, l2]
          exact Nat.le_trans (Nat.pow_le_pow_right (Kd.num_pos (fun i => (hs i).1) y) hj) n12
        have e2' := s4 _ _ e2
        have ddr : DqAll K H4 us ((rowsN (y.wl s) j).map .tuple) := dr.same (out_sub _ _)
        have dd4 := dd2.same s4
        have lnr := ddr.length
        refine ⟨_, rfl, r, rfl, ⟨us, .of er⟩, fun D hD => ?_⟩
        refine lc_out (K := K) (a := r) (xs := us) (fun i => Pr2 K D H4 ((((rowsN (y.wl s) j).map PyData.tuple).take i).flatMap fun c => (y.wl s).map fun d => catT c d)) (Pr2.start hD) (fun i H5 _ ⟨_, _, _, s5⟩ => .of (s5 _ _ er)) ?_ ?_
        · intro i xv H5 hx p5
          obtain ⟨c, hc, hdc⟩ := ddr.get hx
          obtain ⟨rd, hrd, rfl⟩ : ∃ rd, rd ∈ rowsN (y.wl s) j ∧ c = .tuple rd := by
            obtain ⟨rd, h1, h2⟩ := List.mem_map.mp (List.mem_of_getElem? hc)
            exact ⟨rd, h1, h2.symm⟩
          have lrd := (rowsN_each hrd).1
          refine ⟨rfl, _, rfl, p2, rfl, ⟨us2, .of (by obtain ⟨_, _, _, s5⟩ := p5; exact s5 _ _ e2')⟩, ?_⟩
          refine lc_out (K := K) (a := p2) (xs := us2) (fun n => Pr2 K D H4 (mid ((rowsN (y.wl s) j).map PyData.tuple) (y.wl s) catT i (.tuple rd) n)) (by rw [mid_zero]; exact p5) (fun n H6 _ ⟨_, _, _, s6⟩ => .of (s6 _ _ e2')) ?_ ?_
          · rintro n yv H6 hy ⟨acc, ea, da, s6⟩
            obtain ⟨d, hd, hdd⟩ := dd4.get hy
            have la := da.length
            have lm := mid_length (f := catT) (c := .tuple rd) (List.getElem?_eq_some_iff.mp hc).1 (List.getElem?_eq_some_iff.mp hd).1 (by rw [List.length_map]; exact lr)
            cases hdc with
            | tup hS hA =>
              rename_i ra rs
              have lrs := hA.length
              refine ⟨rfl, _, rfl, _, rfl, (by show 1 ≤ sizeLine; decide), fun tt htt => ?_⟩
              have ntD : tt ≠ D := (ne_of_none ea htt).symm
              have s7 := same_new htt (.tup [yv])
              have sD : Same H4 (out D (upd H6 tt (.tup [yv]))) := same_out hD (s6.trans s7)
              cases rs with
              | nil =>
                cases hA
                refine .inr ⟨ra, tt, [yv], rfl, rfl, KB.Same.tup (s6.trans s7) hS, .of upd_same, acc, (upd_ne ntD.symm).trans ea, fits_lt (by omega), ?_⟩
                rw [mid_succ hd]
                exact Pr2.step hD ea da s6 s7 (.tup (.of (out_at ntD upd_same)) (.cons (hdd.same sD) .nil))
              | cons r1 rr =>
                refine .inl (.inr (.inr (.inr ⟨ra, tt, r1 :: rr, [yv], rfl, rfl, KB.Same.tup (s6.trans s7) hS, .of upd_same, by simp, fits ?_, fun z => (by cases z), fun _ pp hpp => ?_⟩)))
                · rw [lrs, lrd]
                  show j + 1 ≤ 10000000
                  omega
                · have npD : pp ≠ D := (ne_of_none ((upd_ne ntD.symm).trans ea) hpp).symm
                  have s8 := s7.trans (same_new hpp (.tup (r1 :: rr ++ [yv])))
                  have sD2 : Same H4 (out D (upd (upd H6 tt (.tup [yv])) pp (.tup (r1 :: rr ++ [yv])))) := same_out hD (s6.trans s8)
                  refine ⟨acc, s8 _ _ ea, fits_lt (by omega), ?_⟩
                  rw [mid_succ hd]
                  exact Pr2.step hD ea da s6 s8 (.tup (.of (out_at npD upd_same)) ((hA.same sD2).snoc (hdd.same sD2)))
          · intro H6 p6
            rw [ln2] at p6
            rw [mid_end hc] at p6
            exact p6
        · rintro H5 ⟨acc, ea, da, s5⟩
          have nD : H D = none := back (by
            cases e : H2 D with
            | none => rfl
            | some o => rw [s4 _ _ e] at hD; cases hD)
          rw [lnr, List.take_length, rows_cat] at da
          exact ⟨D, acc, _, _, _, _, rfl, nD, ea, da, s4.trans s5⟩
      · rintro σ H4 ⟨r, us, o2, o3, o5, o6, rfl, nr, er, dr, s4⟩
        exact ⟨_, rfl, q us r H4 nr (s2.trans s4) er dr⟩
theorem ok_aw (A : At K mg "all_worths" s_all_worths) (T : TxS K mg CZ CS CM) : ∀ N : Nat, Cal P w K mg base CX0 (N + 1) "all_worths" ["kind"] (spAw K CZ N)
  | 0 => cal_vac A (fun f fd F => F.binds (ps := ["kind"]) (fun _ _ _ _ _ _ us hl => match us, hl with | [_], _ => rfl)) fun vs H Q E ⟨v, k, s, _, _, _, _, _, h, _⟩ => absurd h (Nat.not_lt_zero _)
  | N + 1 => ok_aw1 A T (ok_aw A T N)
end

/-! ## worths, is_worth -/
/-- what is asked of kind and sizes, and the refusals in their order -/
def SkAsk (CN CS CM PT : Addr) (d e : PyData) (H : Hp) (E : XK) : Prop := (isKd d = false → ∀ H', Stay PT H H' → E (.ref CN) none H') ∧ (isKd d = true → isSz e = false → ∀ H', Stay PT H H' → E (.ref CS) none H')
def spWorths (K : PySem.W.Frag) (CN CS CM PT : Addr) (N : Nat) : Sp := fun vs H Q E => ∃ v u d e, vs = [v, u] ∧ Dq K H v d ∧ Dq K H u e ∧ sz d ≤ 1000000 ∧ GxR.TabG H PT ∧
  (isKd d = false → ∀ H', Stay PT H H' → E (.ref CN) none H') ∧ (isKd d = true → isSz e = false → ∀ H', Stay PT H H' → E (.ref CS) none H') ∧
  (∀ (k : Kd) (ds : List PyData), d = k.dat → k.ok → e = .list ds → isSz e = true → k.deep < N ∧ ((5000 < k.num (sOf ds) ∨ 5000 < k.took (sOf ds)) → ∀ H', Stay PT H H' → E (.ref CM) none H') ∧
    (k.num (sOf ds) ≤ 5000 → k.took (sOf ds) ≤ 5000 → ∀ us p H', Stay PT H H' → Nw H p → H' p = some (.lst us) → DqAll K (out p H') us (k.wl (sOf ds)) → Q (.ref p) H'))
abbrev s_worths : Stmt := top 24
theorem sc_worths : FnScope ["kind", "sizes", "whole"] ["kind", "sizes"] (defScope s_worths) := ⟨rfl, rfl, rfl, by decide +kernel, rfl, by decide +kernel, by decide +kernel⟩
section
variable {P : Program} {w : World} {K : PySem.W.Frag} {mg : Str → Option Value} {base : Heap} {CN CZ CS CM : Addr}
theorem iteGt {a b : Nat} {A B : Prop} (h1 : b < a → A) (h2 : a ≤ b → B) : if decide (((b : Nat) : Int) < ((a : Nat) : Int)) = true then A else B :=
  ite2 (fun c => h1 (Int.ofNat_lt.mp (of_decide_eq_true c))) (fun c => h2 (Nat.le_of_not_lt fun z => c (decide_eq_true (Int.ofNat_lt.mpr z))))
theorem ok_worths {PT : Addr} {N : Nat} (A : At K mg "worths" s_worths) (T : TxS K mg CZ CS CM) (C_sized_kind : Cal P w K mg base (L2.CX P w) (N + 5) "sized_kind" ["kind", "sizes"] (spSk K CN CS CZ PT N)) (C_all_worths : Cal P w K mg base CX0 (N + 1) "all_worths" ["kind"] (spAw K CZ N)) : Cal P w K mg base (L2.CX P w) (N + 6) "worths" ["kind", "sizes"] (spWorths K CN CS CM PT N) := by
  obtain ⟨f, fd, F, m⟩ := A
  refine ⟨f, fd, F.okX sc_worths (fun vs H Q E h => ?_) (fun cdv A outer s H vs Q E hr h => ?_), F.binds (ps := ["kind", "sizes"]) (fun _ _ _ _ _ _ us hl => match us, hl with | [_, _], _ => rfl), F.kp, m⟩
  · obtain ⟨v, u, d, e, rfl, _⟩ := h; rfl
  obtain ⟨v, u, d, e, rfl, hd, he, hz, hT, q1, q2, q3⟩ := h
  refine ⟨_, (pss_cons (ps_set (i := 2) sc_worths.nd rfl (by first | exact Or.inl rfl | exact Or.inr rfl) (pe_calC C_sized_kind (hr.mono (by first | decide | omega)) (passes_call (takes_of rfl rfl rfl rfl) (fun _ _ _ _ h => h)) (pa_cons (pv 0) (pa_cons (pv 1) pa_nil))))
  (pss_cons (ps_if (PW.pt (pw_or (pt_cmpR op_gt (pe_fld (pv 2) rfl) (pe_globN (by rfl) T.g_MOST_TOLD) (nomark _)) (pw_or1 (pt_cmpR op_gt (pe_fld (pv 2) rfl) (pe_globN (by rfl) T.g_MOST_TOLD) (nomark _)))))
   (pss_one (ps_raiseO rfl (takes_of rfl rfl rfl rfl) T.e_TooMany))
   pss_nil)
  (pss_one (ps_ret (pe_calC C_all_worths (hr.mono (by first | decide | omega)) pass0 (pa_cons (pv 2) pa_nil)))))), ?_⟩
  refine ⟨_, rfl, _, rfl, v, u, d, e, rfl, hd, he, hz, hT, q1, q2, fun k ds ed ok ee es => ?_⟩
  obtain ⟨dp, q4, q5⟩ := q3 k ds ed ok ee es
  refine ⟨dp, fun v' H1 t1 z1 => ?_⟩
  obtain ⟨dl, hl⟩ : ds.length = 8 ∧ ∀ x ∈ ds, szD x = true := by
    obtain ⟨ds', e1, h1, h2⟩ := isSz_is es
    rw [ee] at e1
    cases e1
    exact ⟨h1, h2⟩
  have hs := sOf_ok dl hl
  obtain ⟨a, wd, o, t, rfl, dx, g⟩ := z1.obj
  refine ⟨_, rfl, a, CZ, dx, _, _, rfl, g, T.cls, T.no_many, szF_many, _, _, rfl, rfl, _, rfl, ?_⟩
  refine iteGt (b := 5000) (fun c => q4 (.inl c) H1 t1) (fun c1 => ?_)
  refine ⟨_, rfl, a, CZ, dx, _, _, rfl, g, T.cls, T.no_most, szF_most, _, _, rfl, rfl, _, rfl, ?_⟩
  refine iteGt (b := 5000) (fun c => q4 (.inr c) H1 t1) (fun c2 => ?_)
  refine ⟨_, rfl, _, k, sOf ds, rfl, z1, hs, c1, c2, dp, fun us p H2 np s2 ep dq => ?_⟩
  exact q5 c1 c2 us p H2 (t1.same s2) (Nw.back t1.ext (.of np)) ep dq
end

/-! ## how many worths, no more than 5001 told; how many a function takes at most -/
def few (n : Nat) : Nat := min n 5001
theorem few_le (n : Nat) : few n ≤ 5001 := Nat.min_le_right _ _
theorem few_pos {n : Nat} (h : 1 ≤ n) : 1 ≤ few n := by unfold few; omega
theorem few_id {n : Nat} (h : n ≤ 5001) : few n = n := Nat.min_eq_left h
theorem few_great (n : Nat) : few (min n tooGreat) = few n := by
  unfold few
  have : 5001 ≤ tooGreat := by decide +kernel
  omega
theorem few_mul {a b : Nat} (ha : 1 ≤ a) (hb : 1 ≤ b) : few (few a * few b) = few (a * b) := by
  unfold few
  by_cases c : a ≤ 5001
  · by_cases d : b ≤ 5001
    · rw [Nat.min_eq_left c, Nat.min_eq_left d]
    · have h1 : 1 * b ≤ a * b := Nat.mul_le_mul ha (Nat.le_refl _)
      rw [Nat.min_eq_right (by omega : 5001 ≤ b)]
      have h2 : 1 * 5001 ≤ min a 5001 * 5001 := Nat.mul_le_mul (by omega) (Nat.le_refl _)
      rw [Nat.min_eq_right (by omega), Nat.min_eq_right (by omega)]
  · have h1 : a * 1 ≤ a * b := Nat.mul_le_mul (Nat.le_refl _) hb
    rw [Nat.min_eq_right (by omega : 5001 ≤ a)]
    have h2 : 5001 * 1 ≤ 5001 * min b 5001 := Nat.mul_le_mul (Nat.le_refl _) (by omega)
    rw [Nat.min_eq_right (by omega), Nat.min_eq_right (by omega)]
theorem few_pow {a b : Nat} (ha : 1 ≤ a) (hb : 1 ≤ b) : few (few a ^ min (few b) 13) = few (a ^ b) := by
  by_cases c1 : a = 1
  · rw [c1]
    have e : few 1 = 1 := by decide
    rw [e, Nat.one_pow, Nat.one_pow]
  · have a2 : 2 ≤ a := by omega
    have f2 : 2 ≤ few a := by unfold few; omega
    by_cases c : b ≤ 13
    · have e : min (few b) 13 = b := by unfold few; omega
      rw [e]
      by_cases d : a ≤ 5001
      · rw [few_id d]
      · have e1 : few a = 5001 := Nat.min_eq_right (by omega)
        have h1 : 5001 ^ 1 ≤ 5001 ^ b := Nat.pow_le_pow_right (by decide) hb
        have h2 : a ^ 1 ≤ a ^ b := Nat.pow_le_pow_right (by omega) hb
        rw [Nat.pow_one] at h1 h2
        rw [e1]
        unfold few
        rw [Nat.min_eq_right (by omega), Nat.min_eq_right (by omega)]
    · have e : min (few b) 13 = 13 := by unfold few; omega
      rw [e]
      have h1 : 2 ^ 13 ≤ few a ^ 13 := Nat.pow_le_pow_left f2 13
      have h2 : 2 ^ 13 ≤ a ^ 13 := Nat.pow_le_pow_left a2 13
      have h3 : a ^ 13 ≤ a ^ b := Nat.pow_le_pow_right (by omega) (by omega)
      have e13 : (2 : Nat) ^ 13 = 8192 := by decide
      have e5 : few (few a ^ 13) = 5001 := Nat.min_eq_right (by omega)
      have e6 : few (a ^ b) = 5001 := Nat.min_eq_right (by omega)
      rw [e5, e6]
theorem few_turn {a j : Nat} (ha : 1 ≤ a) : few (few (a ^ j) * a) = few (a ^ (j + 1)) := by
  by_cases c : a ≤ 5001
  · have h := few_mul (a := a ^ j) (b := a) (Nat.one_le_pow _ _ ha) ha
    rw [few_id c] at h
    rw [h, Nat.pow_succ]
  · have h1 : 1 ≤ few (a ^ j) := few_pos (Nat.one_le_pow _ _ ha)
    have h2 : 1 * a ≤ few (a ^ j) * a := Nat.mul_le_mul h1 (Nat.le_refl _)
    have h3 : a ^ 1 ≤ a ^ (j + 1) := Nat.pow_le_pow_right ha (by omega)
    rw [Nat.pow_one] at h3
    unfold few
    rw [Nat.min_eq_right (by unfold few at h2; omega), Nat.min_eq_right (by omega)]
theorem kd_b {K : PySem.W.Frag} {H : Hp} {v : V} {i : Nat} (h : Dq K H v (Kd.b i).dat) : ∃ a, v = .ref a ∧ SqT K H a [.str "base", .int (i : Nat)] := by
  cases h with
  | tup hT hA =>
    cases hA with
    | cons h1 h2 =>
      cases h1
      cases h2 with
      | cons h3 h4 =>
        cases h3
        cases h4
        exact ⟨_, rfl, hT⟩
theorem kd_u {K : PySem.W.Frag} {H : Hp} {v : V} (h : Dq K H v Kd.u.dat) : ∃ a, v = .ref a ∧ SqT K H a [.str "unit"] := by
  cases h with
  | tup hT hA =>
    cases hA with
    | cons h1 h2 =>
      cases h1
      cases h2
      exact ⟨_, rfl, hT⟩
theorem kd_p {K : PySem.W.Frag} {H : Hp} {v : V} {x y : Kd} (h : Dq K H v (Kd.p x y).dat) : ∃ a u t, v = .ref a ∧ SqT K H a [.str "both", u, t] ∧ Dq K H u x.dat ∧ Dq K H t y.dat := by
  cases h with
  | tup hT hA =>
    cases hA with
    | cons h1 h2 =>
      cases h1
      cases h2 with
      | cons h3 h4 =>
        cases h4 with
        | cons h5 h6 =>
          cases h6
          exact ⟨_, _, _, rfl, hT, h3, h5⟩
theorem kd_f {K : PySem.W.Frag} {H : Hp} {v : V} {x y : Kd} (h : Dq K H v (Kd.f x y).dat) : ∃ a u t, v = .ref a ∧ SqT K H a [.str "from", u, t] ∧ Dq K H u x.dat ∧ Dq K H t y.dat := by
  cases h with
  | tup hT hA =>
    cases hA with
    | cons h1 h2 =>
      cases h1
      cases h2 with
      | cons h3 h4 =>
        cases h4 with
        | cons h5 h6 =>
          cases h6
          exact ⟨_, _, _, rfl, hT, h3, h5⟩
/-- a thing of a tuple -/
theorem ixT {K : PySem.W.Frag} {W : World} {a : Addr} {xs : List V} {j : Nat} {x : V} {H : Hp} {Q : VK} (hT : SqT K H a xs) (hj : xs[j]? = some x) (q : Q x H) : rIxB K W (.ref a) (.int (j : Nat)) H Q := .inl (.inr (.inl ⟨_, _, (j : Int), _, rfl, rfl, hT, atI_nat hj, q⟩))
theorem ixL {K : PySem.W.Frag} {W : World} {a : Addr} {xs : List V} {j : Nat} {x : V} {H : Hp} {Q : VK} (hT : SqL K H a xs) (hj : xs[j]? = some x) (q : Q x H) : rIxB K W (.ref a) (.int (j : Nat)) H Q := .inl (.inl ⟨a, xs, (j : Int), x, rfl, rfl, hT, atI_nat hj, q⟩)
theorem tak_max (a b : Nat) : (if ((few b : Nat) : Int) > ((few a : Nat) : Int) then ((few b : Nat) : Int) else ((few a : Nat) : Int)) = ((few (max a b) : Nat) : Int) := by
  unfold few
  split <;> omega
theorem tak_p {Q : VK} {H : Hp} {x y : Kd} {s : Nat → Nat} (q : Q (V.int (few ((Kd.p x y).took s) : Nat)) H) : Q (V.int (if ((few (x.num s) : Nat) : Int) * (if decide (V.str "both" = V.str "from") = true then 1 else 0) > ((few (max (x.took s) (y.took s)) : Nat) : Int) then ((few (x.num s) : Nat) : Int) * (if decide (V.str "both" = V.str "from") = true then 1 else 0) else ((few (max (x.took s) (y.took s)) : Nat) : Int))) H := by
  have e : (if decide (V.str "both" = V.str "from") = true then (1 : Int) else 0) = 0 := by decide
  rw [e, Int.mul_zero, if_neg (by omega)]
  exact q
theorem tak_f {Q : VK} {H : Hp} {x y : Kd} {s : Nat → Nat} (q : Q (V.int (few ((Kd.f x y).took s) : Nat)) H) : Q (V.int (if ((few (x.num s) : Nat) : Int) * (if decide (V.str "from" = V.str "from") = true then 1 else 0) > ((few (max (x.took s) (y.took s)) : Nat) : Int) then ((few (x.num s) : Nat) : Int) * (if decide (V.str "from" = V.str "from") = true then 1 else 0) else ((few (max (x.took s) (y.took s)) : Nat) : Int))) H := by
  rw [if_pos (decide_eq_true (rfl : V.str "from" = V.str "from")), Int.mul_one, tak_max]
  exact q
def spSizes : Sp := fun vs H Q _ => ∃ (w : Addr), vs = [.ref w] ∧ Well H w ∧ ∀ (p : Addr) (ns : List Int) (H' : Hp), H' p = some (.lst (ns.map V.int)) → ns.length = 8 → (∀ n ∈ ns, 1 ≤ n ∧ n ≤ 5) → p ≠ w → (∀ o, H p ≠ some o) → Aft w H H' → Q (.ref p) H'
abbrev s_law_sizes : Stmt := top 31
theorem sc_law_sizes : FnScope ["well", "most", "k"] ["well"] (defScope s_law_sizes) := ⟨rfl, rfl, rfl, by decide +kernel, rfl, by decide +kernel, by decide +kernel⟩
def spPow40 : Sp := fun vs H Q _ => ∃ a b : Nat, vs = [.int (few a : Nat), .int (few b : Nat)] ∧ 1 ≤ a ∧ 1 ≤ b ∧ Q (.int (few (a ^ b) : Nat)) H
abbrev s_law_power : Stmt := top 32
theorem sc_law_power : FnScope ["base", "times", "found", "k"] ["base", "times"] (defScope s_law_power) := ⟨rfl, rfl, rfl, by decide +kernel, rfl, by decide +kernel, by decide +kernel⟩
/-- what is asked of a kind and of sizes: that they stand -/
def AskN (K : PySem.W.Frag) (N : Nat) (v : V) (sa : Addr) (k : Kd) (ss : List Int) (s : Nat → Nat) (H : Hp) : Prop := Dq K H v k.dat ∧ k.ok ∧ k.deep < N ∧ SqL K H sa (ss.map V.int) ∧ (∀ i, i < 8 → ss[i]? = some ((s i : Nat) : Int)) ∧ ∀ i, 1 ≤ s i ∧ s i ≤ 999
theorem AskN.same {K : PySem.W.Frag} {N : Nat} {v : V} {sa : Addr} {k : Kd} {ss : List Int} {s : Nat → Nat} {H H' : Hp} (h : AskN K N v sa k ss s H) (e : Same H H') : AskN K N v sa k ss s H' := ⟨h.1.same e, h.2.1, h.2.2.1, L2.Same.seq e h.2.2.2.1, h.2.2.2.2⟩
theorem AskN.part {K : PySem.W.Frag} {N : Nat} {v u : V} {sa : Addr} {k x : Kd} {ss : List Int} {s : Nat → Nat} {H : Hp} (h : AskN K (N + 1) v sa k ss s H) (d : Dq K H u x.dat) (ok : x.ok) (dp : x.deep < N) : AskN K N u sa x ss s H := ⟨d, ok, dp, h.2.2.2⟩
theorem AskN.atS {K : PySem.W.Frag} {N : Nat} {v : V} {sa : Addr} {k : Kd} {ss : List Int} {s : Nat → Nat} {H : Hp} (h : AskN K N v sa k ss s H) {i : Nat} (hi : i < 8) : (ss.map V.int)[i]? = some (.int (s i : Nat)) := by rw [List.getElem?_map, h.2.2.2.2.1 i hi]; rfl
def spNum (K : PySem.W.Frag) (N : Nat) : Sp := fun vs H Q _ => ∃ (v : V) (sa : Addr) (k : Kd) (ss : List Int) (s : Nat → Nat), vs = [v, .ref sa] ∧ AskN K N v sa k ss s H ∧ ∀ H', Same H H' → Q (.int (few (k.num s) : Nat)) H'
def spTak (K : PySem.W.Frag) (N : Nat) : Sp := fun vs H Q _ => ∃ (v : V) (sa : Addr) (k : Kd) (ss : List Int) (s : Nat → Nat), vs = [v, .ref sa] ∧ AskN K N v sa k ss s H ∧ ∀ H', Same H H' → Q (.int (few (k.took s) : Nat)) H'
abbrev s_law_number : Stmt := top 33
theorem sc_law_number : FnScope ["kind", "sizes", "one", "other"] ["kind", "sizes"] (defScope s_law_number) := ⟨rfl, rfl, rfl, by decide +kernel, rfl, by decide +kernel, by decide +kernel⟩
abbrev s_law_taken : Stmt := top 34
theorem sc_law_taken : FnScope ["kind", "sizes", "most"] ["kind", "sizes"] (defScope s_law_taken) := ⟨rfl, rfl, rfl, by decide +kernel, rfl, by decide +kernel, by decide +kernel⟩
section
variable {P : Program} {w : World} {K : PySem.W.Frag} {mg : Str → Option Value} {base : Heap} {CN CT : Addr}
theorem ok_pow40 (A : At K mg "_law_power" s_law_power) (T : Txt K mg w CN CT) : Cal P w K mg base CX0 1 "_law_power" ["base", "times"] spPow40 := by
  obtain ⟨f, fd, F, m⟩ := A
  refine ⟨f, fd, F.ok sc_law_power (fun vs H Q E h => ?_) (fun cdv A outer s H vs Q E hr h => ?_), F.binds (ps := ["base", "times"]) (fun _ _ _ _ _ _ us hl => match us, hl with | [_, _], _ => rfl), F.kp, m⟩
  · obtain ⟨a, b, rfl, _⟩ := h; rfl
  obtain ⟨a, b, rfl, a1, b1, q⟩ := h
  refine ⟨_, (pss_cons (ps_set (i := 2) sc_law_power.nd rfl (by first | exact Or.inl rfl | exact Or.inr rfl) pe_int)
  (pss_cons (ps_for PassesOwn.never rfl (pi_range1 (by rfl) T.z_range (pa_cons (pe_callB (call_min2 rfl) (by rfl) T.z_min (by decide +kernel) (pa_cons (pv 1) (pa_cons pe_int pa_nil))) pa_nil)) (pg_name (i := 3) sc_law_power.nd rfl (by first | exact Or.inl rfl | exact Or.inr rfl))
   (pss_one (ps_set (i := 2) sc_law_power.nd rfl (by first | exact Or.inl rfl | exact Or.inr rfl) (pe_callB (call_min2 rfl) (by rfl) T.z_min (by decide +kernel) (pa_cons (pe_op op_mulA (pv 2) (pv 0)) (pa_cons pe_int pa_nil))))))
  (pss_one (ps_ret (pv 2))))), ?_⟩
  refine ⟨_, rfl, (few b : Int), 13, rfl, ?_⟩
  have e13 : (if (13 : Int) < (few b : Int) then (13 : Int) else (few b : Int)) = ((min (few b) 13 : Nat) : Int) := by split <;> omega
  rw [e13]
  refine ⟨_, rfl, by omega, by omega, ?_⟩
  refine for_range (lo := 0) (n := min (few b) 13) (fun j σ H' => H' = H ∧ ∃ o3 : Option V, σ = [some (.int (few a : Nat)), some (.int (few b : Nat)), some (.int (few (few a ^ j) : Nat)), o3]) ⟨rfl, _, rfl⟩ ?_ ?_
  · rintro j σ H1 hj ⟨rfl, o3, rfl⟩
    have b1 := few_le (few a ^ j)
    refine ⟨_, rfl, _, rfl, .inl ⟨_, _, rfl, rfl, .inl ⟨by omega, by omega⟩, _, _, rfl, ?_⟩⟩
    refine ⟨rfl, some (.int (0 + (j : Int))), ?_⟩
    have e1 : (if (5001 : Int) < ((few (few a ^ j) : Nat) : Int) * ((few a : Nat) : Int) then (5001 : Int) else ((few (few a ^ j) : Nat) : Int) * ((few a : Nat) : Int)) = ((few (few a ^ (j + 1)) : Nat) : Int) := by
      rw [← few_turn (j := j) (few_pos a1)]
      have e0 : ((few (few a ^ j) : Nat) : Int) * ((few a : Nat) : Int) = ((few (few a ^ j) * few a : Nat) : Int) := (Int.natCast_mul _ _).symm
      rw [e0]
      generalize few (few a ^ j) * few a = m
      unfold few
      split <;> omega
    exact congrArg (fun z => [some (V.int (few a : Nat)), some (V.int (few b : Nat)), some (V.int z), some (V.int (0 + (j : Int)))]) e1
  · rintro σ H1 ⟨rfl, o3, rfl⟩
    exact ⟨_, rfl, by rw [few_pow a1 b1]; exact q⟩
theorem ok_num1 {N : Nat} (A : At K mg "_law_number" s_law_number) (T : Txt K mg w CN CT) (C_law_power : Cal P w K mg base CX0 1 "_law_power" ["base", "times"] spPow40) (C_law_number : Cal P w K mg base CX0 (N + 1) "_law_number" ["kind", "sizes"] (spNum K N)) : Cal P w K mg base CX0 (N + 2) "_law_number" ["kind", "sizes"] (spNum K (N + 1)) := by
  obtain ⟨f, fd, F, m⟩ := A
  refine ⟨f, fd, F.ok sc_law_number (fun vs H Q E h => ?_) (fun cdv A outer s H vs Q E hr h => ?_), F.binds (ps := ["kind", "sizes"]) (fun _ _ _ _ _ _ us hl => match us, hl with | [_, _], _ => rfl), F.kp, m⟩
  · obtain ⟨v, sa, k, ss, s, rfl, _⟩ := h; rfl
  obtain ⟨v, sa, k, ss, s, rfl, ask, q⟩ := h
  refine ⟨_, (pss_cons (ps_if (pt_cmpR (op_eqA (room200 hr)) (pe_ix ix_B (pv 0) pe_int (fun _ _ => rfl)) pe_str (nomark _))
   (pss_one (ps_ret (pe_ix ix_B (pv 1) (pe_ix ix_B (pv 0) pe_int (fun _ _ => rfl)) (fun _ _ => rfl))))
   pss_nil)
  (pss_cons (ps_if (pt_cmpR (op_eqA (room200 hr)) (pe_ix ix_B (pv 0) pe_int (fun _ _ => rfl)) pe_str (nomark _))
   (pss_one (ps_ret pe_int))
   pss_nil)
  (pss_cons (ps_par (i := 2) (j := 3) (by rfl) sc_law_number.nd rfl rfl (by decide) rfl rfl (pa_cons (pe_calC C_law_number (hr.mono (by first | decide | omega)) pass0 (pa_cons (pe_ix ix_B (pv 0) pe_int (fun _ _ => rfl)) (pa_cons (pv 1) pa_nil))) (pa_cons (pe_calC C_law_number (hr.mono (by first | decide | omega)) pass0 (pa_cons (pe_ix ix_B (pv 0) pe_int (fun _ _ => rfl)) (pa_cons (pv 1) pa_nil))) pa_nil)) (by rfl))
  (pss_cons (ps_if (pt_cmpR (op_eqA (room200 hr)) (pe_ix ix_B (pv 0) pe_int (fun _ _ => rfl)) pe_str (nomark _))
   (pss_one (ps_ret (pe_callB (call_min2 rfl) (by rfl) T.z_min (by decide +kernel) (pa_cons (pe_op op_mulA (pv 2) (pv 3)) (pa_cons pe_int pa_nil)))))
   pss_nil)
  (pss_one (ps_ret (pe_calC C_law_power (hr.mono (by first | decide | omega)) pass0 (pa_cons (pv 3) (pa_cons (pv 2) pa_nil))))))))), ?_⟩
  have hd := ask.1
  have ok := ask.2.1
  have dp := ask.2.2.1
  have hb := ask.2.2.2.2.2
  cases k with
  | b i =>
    obtain ⟨a, rfl, hT⟩ := kd_b hd
    have i8 : i < 8 := ok
    have q1 := q H (Same.refl _)
    rw [show (Kd.b i).num s = s i from rfl, few_id (by have := hb i; omega)] at q1
    exact ⟨_, rfl, ixT (j := 0) hT rfl (.inl ⟨rfl, _, rfl, iteT' (by decide) ⟨_, rfl, _, rfl, ixT (j := 1) hT rfl (ixL ask.2.2.2.1 (ask.atS i8) q1)⟩⟩)⟩
  | u =>
    obtain ⟨a, rfl, hT⟩ := kd_u hd
    exact ⟨_, rfl, ixT (j := 0) hT rfl (.inl ⟨rfl, _, rfl, iteF' (by decide) ⟨_, rfl, ixT (j := 0) hT rfl (.inl ⟨rfl, _, rfl, iteT' (by decide) (q H (Same.refl _))⟩)⟩⟩)⟩
  | p x y =>
    have nx := Kd.num_pos (fun i => (hb i).1) x
    have ny := Kd.num_pos (fun i => (hb i).1) y
    have dpx : x.deep < N := by have z : 1 + max x.deep y.deep < N + 1 := dp; omega
    have dpy : y.deep < N := by have z : 1 + max x.deep y.deep < N + 1 := dp; omega
    obtain ⟨a, u, t, rfl, hT, d1, d2⟩ := kd_p hd
    refine ⟨_, rfl, ixT (j := 0) hT rfl (.inl ⟨rfl, _, rfl, iteF' (by decide) ⟨_, rfl, ixT (j := 0) hT rfl (.inl ⟨rfl, _, rfl, iteF' (by decide) ?_⟩)⟩⟩)⟩
    refine ⟨_, rfl, ixT (j := 1) hT rfl ⟨_, rfl, u, sa, x, ss, s, rfl, ask.part d1 ok.1 dpx, fun H1 s1 => ?_⟩⟩
    refine ⟨_, rfl, ixT (j := 2) (KB.Same.tup s1 hT) rfl ⟨_, rfl, t, sa, y, ss, s, rfl, (ask.same s1).part (d2.same s1) ok.2 dpy, fun H2 s2 => ?_⟩⟩
    have s12 := s1.trans s2
    have q1 := q H2 s12
    have en : few ((Kd.p x y).num s) = few (few (x.num s) * few (y.num s)) := by rw [few_mul nx ny]; exact few_great _
    rw [en] at q1
    refine ⟨_, _, rfl, ?_⟩
    have bx := few_le (x.num s)
    refine ⟨_, rfl, ixT (j := 0) (KB.Same.tup s12 hT) rfl (.inl ⟨rfl, _, rfl, iteT' (by decide) ⟨_, rfl, _, rfl, .inl ⟨_, _, rfl, rfl, .inl ⟨by omega, by omega⟩, _, _, rfl, ?_⟩⟩⟩)⟩
    have e1 : (if (5001 : Int) < ((few (x.num s) : Nat) : Int) * ((few (y.num s) : Nat) : Int) then (5001 : Int) else ((few (x.num s) : Nat) : Int) * ((few (y.num s) : Nat) : Int)) = ((few (few (x.num s) * few (y.num s)) : Nat) : Int) := by
      have e0 : ((few (x.num s) : Nat) : Int) * ((few (y.num s) : Nat) : Int) = ((few (x.num s) * few (y.num s) : Nat) : Int) := (Int.natCast_mul _ _).symm
      rw [e0]
      generalize few (x.num s) * few (y.num s) = m
      unfold few
      split <;> omega
    show Q (V.int (if (5001 : Int) < ((few (x.num s) : Nat) : Int) * ((few (y.num s) : Nat) : Int) then (5001 : Int) else ((few (x.num s) : Nat) : Int) * ((few (y.num s) : Nat) : Int))) H2
    rw [e1]
    exact q1
  | f x y =>
    have nx := Kd.num_pos (fun i => (hb i).1) x
    have ny := Kd.num_pos (fun i => (hb i).1) y
    have dpx : x.deep < N := by have z : 1 + max x.deep y.deep < N + 1 := dp; omega
    have dpy : y.deep < N := by have z : 1 + max x.deep y.deep < N + 1 := dp; omega
    obtain ⟨a, u, t, rfl, hT, d1, d2⟩ := kd_f hd
    refine ⟨_, rfl, ixT (j := 0) hT rfl (.inl ⟨rfl, _, rfl, iteF' (by decide) ⟨_, rfl, ixT (j := 0) hT rfl (.inl ⟨rfl, _, rfl, iteF' (by decide) ?_⟩)⟩⟩)⟩
    refine ⟨_, rfl, ixT (j := 1) hT rfl ⟨_, rfl, u, sa, x, ss, s, rfl, ask.part d1 ok.1 dpx, fun H1 s1 => ?_⟩⟩
    refine ⟨_, rfl, ixT (j := 2) (KB.Same.tup s1 hT) rfl ⟨_, rfl, t, sa, y, ss, s, rfl, (ask.same s1).part (d2.same s1) ok.2 dpy, fun H2 s2 => ?_⟩⟩
    have s12 := s1.trans s2
    have q1 := q H2 s12
    have en : few ((Kd.f x y).num s) = few (y.num s ^ x.num s) := few_great _
    rw [en] at q1
    refine ⟨_, _, rfl, ?_⟩
    refine ⟨_, rfl, ixT (j := 0) (KB.Same.tup s12 hT) rfl (.inl ⟨rfl, _, rfl, iteF' (by decide) ?_⟩)⟩
    exact ⟨_, rfl, _, rfl, y.num s, x.num s, rfl, ny, nx, q1⟩
theorem ok_num (A : At K mg "_law_number" s_law_number) (T : Txt K mg w CN CT) (C_law_power : Cal P w K mg base CX0 1 "_law_power" ["base", "times"] spPow40) : ∀ N : Nat, Cal P w K mg base CX0 (N + 1) "_law_number" ["kind", "sizes"] (spNum K N)
  | 0 => cal_vac A (fun f fd F => F.binds (ps := ["kind", "sizes"]) (fun _ _ _ _ _ _ us hl => match us, hl with | [_, _], _ => rfl)) fun vs H Q E ⟨v, sa, k, ss, s, _, h, _⟩ => absurd h.2.2.1 (Nat.not_lt_zero _)
  | N + 1 => ok_num1 A T C_law_power (ok_num A T C_law_power N)
theorem ok_tak1 {N : Nat} (A : At K mg "_law_taken" s_law_taken) (T : Txt K mg w CN CT) (C_law_number : Cal P w K mg base CX0 (N + 1) "_law_number" ["kind", "sizes"] (spNum K N)) (C_law_taken : Cal P w K mg base CX0 (N + 2) "_law_taken" ["kind", "sizes"] (spTak K N)) : Cal P w K mg base CX0 (N + 3) "_law_taken" ["kind", "sizes"] (spTak K (N + 1)) := by
  obtain ⟨f, fd, F, m⟩ := A
  refine ⟨f, fd, F.ok sc_law_taken (fun vs H Q E h => ?_) (fun cdv A outer s H vs Q E hr h => ?_), F.binds (ps := ["kind", "sizes"]) (fun _ _ _ _ _ _ us hl => match us, hl with | [_, _], _ => rfl), F.kp, m⟩
  · obtain ⟨v, sa, k, ss, s, rfl, _⟩ := h; rfl
  obtain ⟨v, sa, k, ss, s, rfl, ask, q⟩ := h
  refine ⟨_, (pss_cons (ps_if (pt_cmpR op_lt (pe_callB call_len (by rfl) T.z_len (by decide +kernel) (pa_cons (pv 0) pa_nil)) pe_int (nomark _))
   (pss_one (ps_ret pe_int))
   pss_nil)
  (pss_cons (ps_set (i := 2) sc_law_taken.nd rfl (by first | exact Or.inl rfl | exact Or.inr rfl) (pe_callB (call_max2 rfl) (by rfl) T.z_max (by decide +kernel) (pa_cons (pe_calC C_law_taken (hr.mono (by first | decide | omega)) pass0 (pa_cons (pe_ix ix_B (pv 0) pe_int (fun _ _ => rfl)) (pa_cons (pv 1) pa_nil))) (pa_cons (pe_calC C_law_taken (hr.mono (by first | decide | omega)) pass0 (pa_cons (pe_ix ix_B (pv 0) pe_int (fun _ _ => rfl)) (pa_cons (pv 1) pa_nil))) pa_nil))))
  (pss_one (ps_ret (pe_callB (call_max2 rfl) (by rfl) T.z_max (by decide +kernel) (pa_cons (pv 2) (pa_cons (pe_op op_mulA (pe_calC C_law_number (hr.mono (by first | decide | omega)) pass0 (pa_cons (pe_ix ix_B (pv 0) pe_int (fun _ _ => rfl)) (pa_cons (pv 1) pa_nil))) (pe_callTy call_int1 (by rfl) T.z_int (by decide +kernel) (pa_cons (pe_cmpR (op_eqA (room200 hr)) (pe_ix ix_B (pv 0) pe_int (fun _ _ => rfl)) pe_str (nomark _)) pa_nil))) pa_nil))))))), ?_⟩
  have hd := ask.1
  have ok := ask.2.1
  have dp := ask.2.2.1
  have hb := ask.2.2.2.2.2
  cases k with
  | b i =>
    obtain ⟨a, rfl, hT⟩ := kd_b hd
    exact ⟨_, rfl, _, _, rfl, .inr ⟨_, hT, rfl⟩, _, _, rfl, rfl, _, rfl, iteT' (by rfl) (q H (Same.refl _))⟩
  | u =>
    obtain ⟨a, rfl, hT⟩ := kd_u hd
    exact ⟨_, rfl, _, _, rfl, .inr ⟨_, hT, rfl⟩, _, _, rfl, rfl, _, rfl, iteT' (by rfl) (q H (Same.refl _))⟩
  | p x y =>
    have dpx : x.deep < N := by have z : 1 + max x.deep y.deep < N + 1 := dp; omega
    have dpy : y.deep < N := by have z : 1 + max x.deep y.deep < N + 1 := dp; omega
    obtain ⟨a, u, t, rfl, hT, d1, d2⟩ := kd_p hd
    refine ⟨_, rfl, _, _, rfl, .inr ⟨_, hT, rfl⟩, _, _, rfl, rfl, _, rfl, iteF' (by rfl) ?_⟩
    refine ⟨_, rfl, ixT (j := 1) hT rfl ⟨_, rfl, u, sa, x, ss, s, rfl, ask.part d1 ok.1 dpx, fun H1 s1 => ?_⟩⟩
    refine ⟨_, rfl, ixT (j := 2) (KB.Same.tup s1 hT) rfl ⟨_, rfl, t, sa, y, ss, s, rfl, (ask.same s1).part (d2.same s1) ok.2 dpy, fun H2 s2 => ⟨_, _, rfl, ?_⟩⟩⟩
    have s12 := s1.trans s2
    rw [tak_max]
    refine ⟨_, rfl, _, rfl, ixT (j := 1) (KB.Same.tup s12 hT) rfl ⟨_, rfl, u, sa, x, ss, s, rfl, (ask.same s12).part (d1.same s12) ok.1 dpx, fun H3 s3 => ?_⟩⟩
    have s13 := s12.trans s3
    have q1 := q H3 s13
    have bx := few_le (x.num s)
    refine ⟨_, rfl, ixT (j := 0) (KB.Same.tup s13 hT) rfl (.inl ⟨rfl, .inr ⟨_, rfl, .inl ⟨_, _, rfl, rfl, .inl ⟨by omega, by omega⟩, _, _, rfl, ?_⟩⟩⟩)⟩
    exact tak_p q1
  | f x y =>
    have dpx : x.deep < N := by have z : 1 + max x.deep y.deep < N + 1 := dp; omega
    have dpy : y.deep < N := by have z : 1 + max x.deep y.deep < N + 1 := dp; omega
    obtain ⟨a, u, t, rfl, hT, d1, d2⟩ := kd_f hd
    refine ⟨_, rfl, _, _, rfl, .inr ⟨_, hT, rfl⟩, _, _, rfl, rfl, _, rfl, iteF' (by rfl) ?_⟩
    refine ⟨_, rfl, ixT (j := 1) hT rfl ⟨_, rfl, u, sa, x, ss, s, rfl, ask.part d1 ok.1 dpx, fun H1 s1 => ?_⟩⟩
    refine ⟨_, rfl, ixT (j := 2) (KB.Same.tup s1 hT) rfl ⟨_, rfl, t, sa, y, ss, s, rfl, (ask.same s1).part (d2.same s1) ok.2 dpy, fun H2 s2 => ⟨_, _, rfl, ?_⟩⟩⟩
    have s12 := s1.trans s2
    rw [tak_max]
    refine ⟨_, rfl, _, rfl, ixT (j := 1) (KB.Same.tup s12 hT) rfl ⟨_, rfl, u, sa, x, ss, s, rfl, (ask.same s12).part (d1.same s12) ok.1 dpx, fun H3 s3 => ?_⟩⟩
    have s13 := s12.trans s3
    have q1 := q H3 s13
    have bx := few_le (x.num s)
    refine ⟨_, rfl, ixT (j := 0) (KB.Same.tup s13 hT) rfl (.inl ⟨rfl, .inr ⟨_, rfl, .inl ⟨_, _, rfl, rfl, .inl ⟨by omega, by omega⟩, _, _, rfl, ?_⟩⟩⟩)⟩
    exact tak_f q1
theorem ok_tak (A : At K mg "_law_taken" s_law_taken) (T : Txt K mg w CN CT) (C : ∀ N : Nat, Cal P w K mg base CX0 (N + 1) "_law_number" ["kind", "sizes"] (spNum K N)) : ∀ N : Nat, Cal P w K mg base CX0 (N + 2) "_law_taken" ["kind", "sizes"] (spTak K N)
  | 0 => cal_vac A (fun f fd F => F.binds (ps := ["kind", "sizes"]) (fun _ _ _ _ _ _ us hl => match us, hl with | [_, _], _ => rfl)) fun vs H Q E ⟨v, sa, k, ss, s, _, h, _⟩ => absurd h.2.2.1 (Nat.not_lt_zero _)
  | N + 1 => ok_tak1 A T (C N) (ok_tak A T C N)
end

/-! ## sizes that are drawn -/
/-- the sizes drawn so far -/
def ScW (wl D : Addr) (H0 : Hp) (i : Nat) (H' : Hp) : Prop := ∃ ns : List Int, H' D = some (.lst (ns.map V.int)) ∧ ns.length = i ∧ (∀ n ∈ ns, 1 ≤ n ∧ n ≤ 5) ∧ Aft wl H0 H'
section
variable {P : Program} {w : World} {K : PySem.W.Frag} {mg : Str → Option Value} {base : Heap} {CN CT : Addr}
theorem ok_sizes40 (A : At K mg "_law_sizes" s_law_sizes) (T : Txt K mg w CN CT) (C_law_draw : Cal P w K mg base CX0 1 "_law_draw" ["well", "below"] spDraw) (C_law_one : Cal P w K mg base CX0 2 "_law_one" ["well", "some"] (spOne K)) : Cal P w K mg base CX0 3 "_law_sizes" ["well"] spSizes := by
  obtain ⟨f, fd, F, m⟩ := A
  refine ⟨f, fd, F.ok sc_law_sizes (fun vs H Q E h => ?_) (fun cdv A outer s H vs Q E hr h => ?_), F.binds (ps := ["well"]) (fun _ _ _ _ _ _ us hl => match us, hl with | [_], _ => rfl), F.kp, m⟩
  · obtain ⟨w, rfl, _⟩ := h; rfl
  obtain ⟨wl, rfl, hw, q⟩ := h
  refine ⟨_, (pss_cons (ps_set (i := 1) sc_law_sizes.nd rfl (by first | exact Or.inl rfl | exact Or.inr rfl) (pe_calC C_law_one (hr.mono (by first | decide | omega)) pass0 (pa_cons (pv 0) (pa_cons (pe_lst (pa_cons pe_int (pa_cons pe_int (pa_cons pe_int (pa_cons pe_int (pa_cons pe_int pa_nil)))))) pa_nil))))
  (pss_one (ps_ret (pe_lc (own := [("k", 2)]) (g := gName 2) (tt := tYes) (by rfl) sc_law_sizes.nd (pi_range1 (by rfl) T.z_range (pa_cons pe_int pa_nil)) (blkOk_by (own := [("k", 2)]) (N := ["well", "most", "k"]) (sc := defScope s_law_sizes) (by decide +kernel)) (fun _ _ _ _ _ => (pg_name (i := 2) sc_law_sizes.nd rfl (by first | exact Or.inl rfl | exact Or.inr rfl))) (fun _ _ _ _ _ => pts_nil) (fun _ _ _ _ _ => (pe_op (r := rAddB K) op_addB pe_int (pe_calC C_law_draw (hr.mono (by first | decide | omega)) pass0 (pa_cons (pv 0) (pa_cons (pv 1) pa_nil))))))))), ?_⟩
  refine ⟨_, rfl, (by show 5 ≤ sizeLine; decide), fun p hp => ?_⟩
  have c1 := (Aft.refl hw).new hp (.lst [.int 1, .int 2, .int 3, .int 3, .int 5])
  refine ⟨wl, p, _, rfl, c1.well, upd_same, hw.ne hp, by simp, by show (5 : Nat) < 1073741824; decide, fun hv hhv H2 a2 => ?_⟩
  obtain ⟨hi, rfl, hi0, hi1⟩ : ∃ z : Int, hv = .int z ∧ 0 < z ∧ z ≤ 5 := by
    simp only [List.mem_cons, List.not_mem_nil, or_false] at hhv
    rcases hhv with rfl | rfl | rfl | rfl | rfl
    · exact ⟨1, rfl, by decide, by decide⟩
    · exact ⟨2, rfl, by decide, by decide⟩
    · exact ⟨3, rfl, by decide, by decide⟩
    · exact ⟨3, rfl, by decide, by decide⟩
    · exact ⟨5, rfl, by decide, by decide⟩
  have c2 := c1.trans a2
  clear c1 hhv
  refine ⟨8, rfl, by decide, by decide, fun sa hsa => ?_⟩
  have w2 := c2.well
  have hDw := w2.ne hsa
  refine lc_range (lo := 0) (n := 8) (ScW wl sa H2) ⟨[], upd_same, rfl, (fun n h => by cases h), (Aft.refl w2).new hsa _⟩ ?_ ?_
  · rintro j H7 hj ⟨ns, e7, l7, h7, a7⟩
    refine ⟨rfl, _, rfl, _, rfl, wl, hi, rfl, a7.well, hi0, by omega, fun d H8 d0 d1 a8 => .inl (.inl ⟨_, _, rfl, rfl, _, a8.at_ hDw e7, fits_lt (by rw [List.length_map]; omega), ?_⟩)⟩
    have a9 := a7.trans a8
    refine ⟨ns ++ [1 + d], by rw [upd_same, List.map_append]; rfl, by rw [List.length_append, l7]; rfl, fun n hn => ?_, ⟨?_, ?_⟩⟩
    · rcases List.mem_append.mp hn with hn | hn
      · exact h7 n hn
      · have e : n = 1 + d := by simpa using hn
        omega
    · obtain ⟨x, y, z, e⟩ := a9.well
      exact ⟨x, y, z, (upd_ne hDw.symm).trans e⟩
    · intro b o e
      have nb : b ≠ sa := ne_of_none (out_some e).2 hsa
      have e2 := out_some (a9.but b o e)
      exact out_at e2.1 ((upd_ne nb).trans e2.2)
  rintro H3 ⟨ns, e3, l3, h3, a3⟩
  refine q sa ns H3 e3 l3 h3 hDw (fun o e => ?_) (c2.trans a3)
  have e2 := (out_some (c2.but sa o (out_at hDw e))).2
  rw [hsa] at e2
  cases e2
end

/-! ## all worths, as the law puts them together -/
def spAll (K : PySem.W.Frag) (N : Nat) : Sp := fun vs H Q _ => ∃ (v : V) (sa : Addr) (k : Kd) (ss : List Int) (s : Nat → Nat), vs = [v, .ref sa] ∧ AskN K N v sa k ss s H ∧ k.num s ≤ 5000 ∧ k.took s ≤ 5000 ∧ ∀ us p H', Same H H' → H' p = some (.lst us) → DqAll K H' us (k.wl s) → Q (.ref p) H'
abbrev s_law_all : Stmt := top 35
theorem sc_law_all : FnScope ["kind", "sizes", "some", "found", "one", "other", "k", "longer", "row"] ["kind", "sizes"] (defScope s_law_all) := ⟨rfl, rfl, rfl, by decide +kernel, rfl, by decide +kernel, by decide +kernel⟩
/-- row + (other,) -/
theorem cat_q {K : PySem.W.Frag} {H : Hp} {tt : Addr} {xv yv : V} {rd : List PyData} {d : PyData} {Q : VK} (hx : Dq K H xv (.tuple rd)) (e : H tt = some (.tup [yv])) (hy : Dq K H yv d) (len : rd.length ≤ 5000) (q : ∀ v H', Same H H' → Dq K H' v (.tuple (rd ++ [d])) → Q v H') : rAddB K xv (.ref tt) H Q := by
  cases hx with
  | tup hS hA =>
    rename_i ra rs
    have lrs := hA.length
    cases rs with
    | nil =>
      cases hA
      exact .inr ⟨ra, tt, [yv], rfl, rfl, hS, .of e, q _ H (Same.refl _) (.tup (.of e) (.cons hy .nil))⟩
    | cons r1 rr =>
      refine .inl (.inr (.inr (.inr ⟨ra, tt, r1 :: rr, [yv], rfl, rfl, hS, .of e, by simp, fits (by simp only [List.length_cons, List.length_nil] at lrs ⊢; omega), fun z => (by cases z), fun _ pp hpp => ?_⟩)))
      have s8 := same_new hpp (.tup (r1 :: rr ++ [yv]))
      exact q _ _ s8 (.tup (.of upd_same) ((hA.same s8).snoc (hy.same s8)))
/-- one more thing is put to the list; it does not hang on it -/
theorem Pr2.put {K : PySem.W.Frag} {D : Addr} {H3 H H' : Hp} {data : List PyData} {acc : List V} {v : V} {d : PyData} (n : H3 D = none) (e : H D = some (.lst acc)) (a : DqAll K (out D H) acc data) (s : Same H3 H) (s2 : Same H H') (dv : Dq K H' v d) (p : pureT d = true) : Pr2 K D H3 (data ++ [d]) (upd H' D (.lst (acc ++ [v]))) := Pr2.step n e a s s2 (Dq.outp (s2 _ _ e) p dv)
/-- what the turns of a walk have put together -/
def FoW (K : PySem.W.Frag) (v : V) (sa p2 : Addr) (H3 : Hp) (data : List PyData) (σ : L2.St) (H' : Hp) : Prop :=
  ∃ (r : Addr) (us : List V) (o4 o5 o6 o7 o8 : Option V), σ = [some v, some (.ref sa), some (.ref p2), some (.ref r), o4, o5, o6, o7, o8] ∧ H' r = some (.lst us) ∧ DqAll K H' us data ∧ Same H3 H'
def LoW (K : PySem.W.Frag) (v : V) (sa p2 r : Addr) (k : Int) (H3 : Hp) (data : List PyData) (σ : L2.St) (H' : Hp) : Prop :=
  ∃ (l : Addr) (us : List V) (o4 o5 o8 : Option V), σ = [some v, some (.ref sa), some (.ref p2), some (.ref r), o4, o5, some (.int k), some (.ref l), o8] ∧ H' l = some (.lst us) ∧ DqAll K H' us data ∧ Same H3 H'
section
variable {P : Program} {w : World} {K : PySem.W.Frag} {mg : Str → Option Value} {base : Heap} {CN CT : Addr}
theorem ok_all1 {N : Nat} (A : At K mg "_law_all" s_law_all) (T : Txt K mg w CN CT) (C_law_number : Cal P w K mg base CX0 (N + 1) "_law_number" ["kind", "sizes"] (spNum K N)) (C_law_all : Cal P w K mg base CX0 (N + 2) "_law_all" ["kind", "sizes"] (spAll K N)) : Cal P w K mg base CX0 (N + 3) "_law_all" ["kind", "sizes"] (spAll K (N + 1)) := by
  obtain ⟨f, fd, F, m⟩ := A
  refine ⟨f, fd, F.ok sc_law_all (fun vs H Q E h => ?_) (fun cdv A outer s H vs Q E hr h => ?_), F.binds (ps := ["kind", "sizes"]) (fun _ _ _ _ _ _ us hl => match us, hl with | [_, _], _ => rfl), F.kp, m⟩
  · obtain ⟨v, sa, k, ss, s, rfl, _⟩ := h; rfl
  obtain ⟨v, sa, k, ss, s, rfl, a, few, tk, q⟩ := h
  refine ⟨_, (pss_cons (ps_if (pt_cmpR (op_eqA (room200 hr)) (pe_ix ix_B (pv 0) pe_int (fun _ _ => rfl)) pe_str (nomark _))
   (pss_one (ps_ret (pe_listRg rfl (by rfl) T.z_list (prg_1 (by rfl) T.z_range (pe_ix ix_B (pv 1) (pe_ix ix_B (pv 0) pe_int (fun _ _ => rfl)) (fun _ _ => rfl))))))
   pss_nil)
  (pss_cons (ps_if (pt_cmpR (op_eqA (room200 hr)) (pe_ix ix_B (pv 0) pe_int (fun _ _ => rfl)) pe_str (nomark _))
   (pss_one (ps_ret (pe_lst (pa_cons (pe_tup pa_nil) pa_nil))))
   pss_nil)
  (pss_cons (ps_set (i := 2) sc_law_all.nd rfl (by first | exact Or.inl rfl | exact Or.inr rfl) (pe_calC C_law_all (hr.mono (by first | decide | omega)) pass0 (pa_cons (pe_ix ix_B (pv 0) pe_int (fun _ _ => rfl)) (pa_cons (pv 1) pa_nil))))
  (pss_cons (ps_if (pt_cmpR (op_eqA (room200 hr)) (pe_ix ix_B (pv 0) pe_int (fun _ _ => rfl)) pe_str (nomark _))
   (pss_cons (ps_set (i := 3) sc_law_all.nd rfl (by first | exact Or.inl rfl | exact Or.inr rfl) (pe_lst pa_nil))
  (pss_cons (ps_for PassesOwn.never rfl (pi_list (pe_calC C_law_all (hr.mono (by first | decide | omega)) pass0 (pa_cons (pe_ix ix_B (pv 0) pe_int (fun _ _ => rfl)) (pa_cons (pv 1) pa_nil)))) (pg_name (i := 4) sc_law_all.nd rfl (by first | exact Or.inl rfl | exact Or.inr rfl))
   (pss_one (ps_set (i := 3) sc_law_all.nd rfl (by first | exact Or.inl rfl | exact Or.inr rfl) (pe_op op_addA (pv 3) (pe_lc (own := [("other", 5)]) (g := gName 5) (tt := tYes) (by rfl) sc_law_all.nd (pi_listK (K := K) rfl (pv 2)) (blkOk_by (own := [("other", 5)]) (N := ["kind", "sizes", "some", "found", "one", "other", "k", "longer", "row"]) (sc := defScope s_law_all) (by decide +kernel)) (fun _ _ _ _ _ => (pg_name (i := 5) sc_law_all.nd rfl (by first | exact Or.inl rfl | exact Or.inr rfl))) (fun _ _ _ _ _ => pts_nil) (fun _ _ _ _ _ => (pe_tup (pa_cons (pv 4) (pa_cons (pv 5) pa_nil)))))))))
  (pss_one (ps_ret (pv 3)))))
   pss_nil)
  (pss_cons (ps_set (i := 3) sc_law_all.nd rfl (by first | exact Or.inl rfl | exact Or.inr rfl) (pe_lst (pa_cons (pe_tup pa_nil) pa_nil)))
  (pss_cons (ps_for PassesOwn.never rfl (pi_range1 (by rfl) T.z_range (pa_cons (pe_calC C_law_number (hr.mono (by first | decide | omega)) pass0 (pa_cons (pe_ix ix_B (pv 0) pe_int (fun _ _ => rfl)) (pa_cons (pv 1) pa_nil))) pa_nil)) (pg_name (i := 6) sc_law_all.nd rfl (by first | exact Or.inl rfl | exact Or.inr rfl))
   (pss_cons (ps_set (i := 7) sc_law_all.nd rfl (by first | exact Or.inl rfl | exact Or.inr rfl) (pe_lst pa_nil))
  (pss_cons (ps_for PassesOwn.never rfl (pi_list (pv 3)) (pg_name (i := 8) sc_law_all.nd rfl (by first | exact Or.inl rfl | exact Or.inr rfl))
   (pss_one (ps_set (i := 7) sc_law_all.nd rfl (by first | exact Or.inl rfl | exact Or.inr rfl) (pe_op op_addA (pv 7) (pe_lc (own := [("other", 5)]) (g := gName 5) (tt := tYes) (by rfl) sc_law_all.nd (pi_listK (K := K) rfl (pv 2)) (blkOk_by (own := [("other", 5)]) (N := ["kind", "sizes", "some", "found", "one", "other", "k", "longer", "row"]) (sc := defScope s_law_all) (by decide +kernel)) (fun _ _ _ _ _ => (pg_name (i := 5) sc_law_all.nd rfl (by first | exact Or.inl rfl | exact Or.inr rfl))) (fun _ _ _ _ _ => pts_nil) (fun _ _ _ _ _ => (pe_op (r := rAddB K) op_addB (pv 8) (pe_tup (pa_cons (pv 5) pa_nil)))))))))
  (pss_one (ps_set (i := 3) sc_law_all.nd rfl (by first | exact Or.inl rfl | exact Or.inr rfl) (pv 7))))))
  (pss_one (ps_ret (pv 3))))))))), ?_⟩
  have hs := a.2.2.2.2.2
  have hs1 := fun i => (hs i).1
  have ok := a.2.1
  cases k with
  | b i =>
    obtain ⟨pa, rfl, hT⟩ := kd_b a.1
    have b := hs i
    refine ⟨_, rfl, ixT (j := 0) hT rfl (.inl ⟨rfl, _, rfl, iteT' (by decide) ?_⟩)⟩
    refine ⟨_, rfl, _, rfl, ixT (j := 1) hT rfl (ixL (j := i) a.2.2.2.1 (a.atS ok) ⟨_, rfl, RgOk.of_le (by omega) (by omega) (by omega) (by omega), fun p hp => ?_⟩)⟩
    exact q _ _ _ (same_new hp _) upd_same (dq_range (s i))
  | u =>
    obtain ⟨pa, rfl, hT⟩ := kd_u a.1
    refine ⟨_, rfl, ixT (j := 0) hT rfl (.inl ⟨rfl, _, rfl, iteF' (by decide) ?_⟩)⟩
    refine ⟨_, rfl, ixT (j := 0) hT rfl (.inl ⟨rfl, _, rfl, iteT' (by decide) ?_⟩)⟩
    refine ⟨Nat.zero_le _, fun t ht => ⟨(by show 1 ≤ sizeLine; decide), fun p hp => ?_⟩⟩
    have s2 := same_new hp (.lst [.ref t])
    exact q _ p _ ((same_new ht _).trans s2) upd_same (.cons (.tup (.of (s2 _ _ upd_same)) .nil) .nil)
  | p x y =>
    obtain ⟨pa, u1, u2, rfl, hT, d1, d2⟩ := kd_p a.1
    obtain ⟨n1, n2, n12⟩ := few_p hs few
    have dp : 1 + max x.deep y.deep < N + 1 := a.2.2.1
    have tkx : max (x.took s) (y.took s) ≤ 5000 := tk
    have l1 := Kd.wl_length hs x (few_lt n1)
    have l2 := Kd.wl_length hs y (few_lt n2)
    refine ⟨_, rfl, ixT (j := 0) hT rfl (.inl ⟨rfl, _, rfl, iteF' (by decide) ?_⟩)⟩
    refine ⟨_, rfl, ixT (j := 0) hT rfl (.inl ⟨rfl, _, rfl, iteF' (by decide) ?_⟩)⟩
    refine ⟨_, rfl, ixT (j := 2) hT rfl ⟨_, rfl, u2, sa, y, ss, s, rfl, a.part d2 ok.2 (by omega), n2, by omega, fun us2 p2 H2 s2 e2 dd2 => ?_⟩⟩
    have hT2 := KB.Same.tup s2 hT
    refine ⟨_, rfl, ixT (j := 0) hT2 rfl (.inl ⟨rfl, _, rfl, iteT' (by decide) ?_⟩)⟩
    refine ⟨Nat.zero_le _, fun r0 h0 => ?_⟩
    have s0 := same_new h0 (.lst [])
    have er0 := upd_same (H := H2) (a := r0) (o := .lst [])
    have e20 := s0 _ _ e2
    have hT0 := KB.Same.tup s0 hT2
    generalize upd H2 r0 (.lst []) = H20 at s0 er0 e20 hT0 ⊢
    refine ⟨_, rfl, ixT (j := 1) hT0 rfl ⟨_, rfl, u1, sa, x, ss, s, rfl, (a.part d1 ok.1 (by omega)).same (s2.trans s0), n1, by omega, fun us1 p1 H3 s3 e3 dd1 => ?_⟩⟩
    have e23 := s3 _ _ e20
    have dd2 := dd2.same (s0.trans s3)
    have ln1 := dd1.length
    have ln2 := dd2.length
    refine ⟨p1, rfl, ⟨us1, .of e3⟩, ?_⟩
    refine for_list (K := K) (a := p1) (xs := us1) (fun i => FoW K (.ref pa) sa p2 H3 (((x.wl s).take i).flatMap fun c => (y.wl s).map fun d => .tuple [c, d])) ⟨r0, [], _, _, _, _, _, rfl, s3 _ _ er0, .nil, Same.refl _⟩ ?_ ?_ ?_
    · rintro i σ H4 _ ⟨_, _, _, _, _, _, _, rfl, _, _, s4⟩
      exact .of (s4 _ _ e3)
    · rintro i xv σ H4 hx ⟨r, us, o4, o5, o6, o7, o8, rfl, er, dr, s4⟩
      obtain ⟨c, hc, hdc⟩ := dd1.get hx
      have pc := Kd.wl_pure x c (List.mem_of_getElem? hc)
      have lr := dr.length
      have lr5 : us.length ≤ 5000 := by
        rw [lr, flat_length (f := fun c d => PyData.tuple [c, d])]
        have := List.length_take_le' i (x.wl s)
        exact Nat.le_trans (Nat.mul_le_mul (by omega) (Nat.le_of_eq l2)) n12
      refine ⟨_, rfl, _, rfl, p2, rfl, ⟨us2, .of (s4 _ _ e23)⟩, fun D hD => ?_⟩
      refine lc_list (K := K) (a := p2) (xs := us2) (fun j => Pr2 K D H4 (((y.wl s).take j).map fun d => PyData.tuple [c, d])) (Pr2.start hD) (fun j H5 _ ⟨_, _, _, s5⟩ => .of (s5 _ _ (s4 _ _ e23))) ?_ ?_
      · rintro j yv H5 hy ⟨acc, ea, da, s5⟩
        obtain ⟨d, hd, hdd⟩ := dd2.get hy
        have pd := Kd.wl_pure y d (List.mem_of_getElem? hd)
        have la := da.length
        rw [List.length_map] at la
        have := List.length_take_le' j (y.wl s)
        refine ⟨rfl, _, rfl, _, rfl, (by show 2 ≤ sizeLine; decide), fun tt htt => ?_⟩
        have ntD : tt ≠ D := (ne_of_none ea htt).symm
        have s6 := same_new htt (.tup [xv, yv])
        refine ⟨acc, s6 _ _ ea, fits_lt (by omega), ?_⟩
        rw [take_succ hd, List.map_append]
        exact Pr2.put hD ea da s5 s6 (.tup (.of upd_same) (.cons (hdc.same ((s4.trans s5).trans s6)) (.cons (hdd.same ((s4.trans s5).trans s6)) .nil))) (by simp [pureT, pureTs, pc, pd])
      · rintro H5 ⟨acc, ea, da, s5⟩
        rw [ln2, List.take_length] at da
        have la := da.length
        rw [List.length_map] at la
        refine .inr (.inr (.inl ⟨r, D, us, acc, rfl, rfl, s5 _ _ er, ea, fits (by omega), fun pn hpn => ?_⟩))
        have s6 := s5.trans (same_new hpn (.lst (us ++ acc)))
        refine ⟨pn, us ++ acc, _, _, _, _, _, rfl, upd_same, ?_, s4.trans s6⟩
        rw [flat_take hc]
        exact (dr.same s6).append ((da.same (out_sub D H5)).same (same_new hpn _))
    · rintro σ H4 ⟨r, us, o4, o5, o6, o7, o8, rfl, er, dr, s4⟩
      rw [ln1, List.take_length] at dr
      exact ⟨_, rfl, q us r H4 ((s2.trans s0).trans (s3.trans s4)) er dr⟩
  | f x y =>
    obtain ⟨pa, u1, u2, rfl, hT, d1, d2⟩ := kd_f a.1
    obtain ⟨n2, n12⟩ := few_f hs few
    have dp : 1 + max x.deep y.deep < N + 1 := a.2.2.1
    have tkx : max (max (x.took s) (y.took s)) (x.num s) ≤ 5000 := tk
    have l2 := Kd.wl_length hs y (few_lt n2)
    have px := Kd.num_pos hs1 x
    refine ⟨_, rfl, ixT (j := 0) hT rfl (.inl ⟨rfl, _, rfl, iteF' (by decide) ?_⟩)⟩
    refine ⟨_, rfl, ixT (j := 0) hT rfl (.inl ⟨rfl, _, rfl, iteF' (by decide) ?_⟩)⟩
    refine ⟨_, rfl, ixT (j := 2) hT rfl ⟨_, rfl, u2, sa, y, ss, s, rfl, a.part d2 ok.2 (by omega), n2, by omega, fun us2 p2 H2 s2 e2 dd2 => ?_⟩⟩
    have hT2 := KB.Same.tup s2 hT
    refine ⟨_, rfl, ixT (j := 0) hT2 rfl (.inl ⟨rfl, _, rfl, iteF' (by decide) ?_⟩)⟩
    refine ⟨Nat.zero_le _, fun t0 ht0 => ⟨(by show 1 ≤ sizeLine; decide), fun r0 h0 => ?_⟩⟩
    have s0 := (same_new ht0 (.tup [])).trans (same_new h0 (.lst [.ref t0]))
    have er0 := upd_same (H := upd H2 t0 (.tup [])) (a := r0) (o := .lst [.ref t0])
    have et0 := same_new h0 (.lst [.ref t0]) _ _ (upd_same (H := H2) (a := t0) (o := .tup []))
    have e20 := s0 _ _ e2
    have hT0 := KB.Same.tup s0 hT2
    have dd2 := dd2.same s0
    have ln2 := dd2.length
    generalize upd (upd H2 t0 (.tup [])) r0 (.lst [.ref t0]) = H20 at s0 er0 et0 e20 hT0 dd2 ⊢
    refine ⟨_, rfl, ixT (j := 1) hT0 rfl ⟨_, rfl, u1, sa, x, ss, s, rfl, (a.part d1 ok.1 (by omega)).same (s2.trans s0), fun H3 s3 => ?_⟩⟩
    rw [few_id (show x.num s ≤ 5001 by omega)]
    have dd2 := dd2.same s3
    have e23 := s3 _ _ e20
    refine ⟨_, rfl, by omega, by omega, ?_⟩
    refine for_range (n := x.num s) (fun j => FoW K (.ref pa) sa p2 H3 ((rowsN (y.wl s) j).map .tuple)) ⟨r0, _, _, _, _, _, _, rfl, s3 _ _ er0, .cons (.tup (.of (s3 _ _ et0)) .nil) .nil, Same.refl _⟩ ?_ ?_
    · rintro j σ H4 hj ⟨r, us, o4, o5, o6, o7, o8, rfl, er, dr, s4⟩
      have lr : (rowsN (y.wl s) j).length * (y.wl s).length ≤ 5000 := by
        rw [rowsN_length, ← Nat.pow_succ, l2]
        exact Nat.le_trans (Nat.pow_le_pow_right (Kd.num_pos hs1 y) hj) n12
      have lnr := dr.length
      rw [List.length_map] at lnr
      refine ⟨Nat.zero_le _, fun lo hlo => ?_⟩
      have s5 := same_new hlo (.lst [])
      have elo := upd_same (H := H4) (a := lo) (o := .lst [])
      generalize upd H4 lo (.lst []) = H5 at s5 elo ⊢
      refine ⟨_, rfl, r, rfl, ⟨us, .of (s5 _ _ er)⟩, ?_⟩
      have ddr := dr.same s5
      refine for_list (K := K) (a := r) (xs := us) (fun i => LoW K (.ref pa) sa p2 r (0 + ((j : Nat) : Int)) H5 ((((rowsN (y.wl s) j).map PyData.tuple).take i).flatMap fun c => (y.wl s).map fun d => catT c d)) ⟨lo, [], _, _, _, rfl, elo, .nil, Same.refl _⟩ ?_ ?_ ?_
      · rintro i σ H6 _ ⟨_, _, _, _, _, rfl, _, _, s6⟩
        exact .of (s6 _ _ (s5 _ _ er))
      · rintro i xv σ H6 hx ⟨l, vs, o4, o5, o8, rfl, el, dl, s6⟩
        obtain ⟨c, hc, hdc⟩ := ddr.get hx
        obtain ⟨rd, hrd, rfl⟩ : ∃ rd, rd ∈ rowsN (y.wl s) j ∧ c = .tuple rd := by
          obtain ⟨rd, h1, h2⟩ := List.mem_map.mp (List.mem_of_getElem? hc)
          exact ⟨rd, h1, h2.symm⟩
        have lrd := (rowsN_each hrd).1
        have pr : ∀ z ∈ rd, pureT z = true := fun z hz => Kd.wl_pure y z ((rowsN_each hrd).2 z hz)
        have lv5 : vs.length ≤ 5000 := by
          rw [dl.length, flat_length (f := catT)]
          have := List.length_take_le' i ((rowsN (y.wl s) j).map PyData.tuple)
          rw [List.length_map] at this
          exact Nat.le_trans (Nat.mul_le_mul (by omega) (Nat.le_refl _)) lr
        have e26 := s6 _ _ (s5 _ _ (s4 _ _ e23))
        have dd6 := dd2.same (s4.trans (s5.trans s6))
        have hd6 := hdc.same s6
        refine ⟨_, rfl, _, rfl, p2, rfl, ⟨us2, .of e26⟩, fun D hD => ?_⟩
        refine lc_list (K := K) (a := p2) (xs := us2) (fun n => Pr2 K D H6 (((y.wl s).take n).map fun d => catT (.tuple rd) d)) (Pr2.start hD) (fun n H7 _ ⟨_, _, _, s7⟩ => .of (s7 _ _ e26)) ?_ ?_
        · rintro n yv H7 hy ⟨acc, ea, da, s7⟩
          obtain ⟨d, hd, hdd⟩ := dd6.get hy
          have pd := Kd.wl_pure y d (List.mem_of_getElem? hd)
          have la := da.length
          rw [List.length_map] at la
          have := List.length_take_le' n (y.wl s)
          refine ⟨rfl, _, rfl, _, rfl, (by show 1 ≤ sizeLine; decide), fun tt htt => ?_⟩
          have s8 := same_new htt (.tup [yv])
          refine cat_q (hd6.same (s7.trans s8)) upd_same (hdd.same (s7.trans s8)) (by omega) fun v H8 s9 dv => ?_
          refine ⟨acc, s9 _ _ (s8 _ _ ea), fits_lt (by omega), ?_⟩
          rw [take_succ hd, List.map_append]
          have pt : pureT (.tuple (rd ++ [d])) = true := by
            rw [pureT]
            refine pures_of fun z hz => ?_
            rcases List.mem_append.mp hz with hz | hz
            · exact pr z hz
            · rw [List.mem_singleton.mp hz]; exact pd
          exact Pr2.put hD ea da s7 (s8.trans s9) dv pt
        · rintro H7 ⟨acc, ea, da, s7⟩
          rw [ln2, List.take_length] at da
          have la := da.length
          rw [List.length_map] at la
          refine .inr (.inr (.inl ⟨l, D, vs, acc, rfl, rfl, s7 _ _ el, ea, fits (by omega), fun pn hpn => ?_⟩))
          have s8 := s7.trans (same_new hpn (.lst (vs ++ acc)))
          refine ⟨pn, vs ++ acc, _, _, _, rfl, upd_same, ?_, s6.trans s8⟩
          rw [flat_take hc]
          exact (dl.same s8).append ((da.same (out_sub D H7)).same (same_new hpn _))
      · rintro σ H6 ⟨l, vs, o4, o5, o8, rfl, el, dl, s6⟩
        rw [ddr.length, List.take_length, rows_cat] at dl
        exact ⟨_, rfl, l, vs, _, _, _, _, _, rfl, el, dl, s4.trans (s5.trans s6)⟩
    · rintro σ H4 ⟨r, us, o4, o5, o6, o7, o8, rfl, er, dr, s4⟩
      exact ⟨_, rfl, q us r H4 ((s2.trans s0).trans (s3.trans s4)) er dr⟩
theorem ok_all (A : At K mg "_law_all" s_law_all) (T : Txt K mg w CN CT) (C : ∀ N : Nat, Cal P w K mg base CX0 (N + 1) "_law_number" ["kind", "sizes"] (spNum K N)) : ∀ N : Nat, Cal P w K mg base CX0 (N + 2) "_law_all" ["kind", "sizes"] (spAll K N)
  | 0 => cal_vac A (fun f fd F => F.binds (ps := ["kind", "sizes"]) (fun _ _ _ _ _ _ us hl => match us, hl with | [_, _], _ => rfl)) fun vs H Q E ⟨_, _, _, _, _, _, a, _⟩ => absurd a.2.2.1 (Nat.not_lt_zero _)
  | N + 1 => ok_all1 A T (C N) (ok_all A T C N)
end

/-! ## what is asked of one kind -/
/-- a kind and sizes, as they are handed in -/
structure AskK (K : PySem.W.Frag) (PT : Addr) (H : Hp) (v : V) (sa : Addr) (k : Kd) (ns : List Int) : Prop where
  kind : Dq K H v k.dat
  ok : k.ok
  lv : k.leaves ≤ 8
  dp : k.deep < 7
  es : H sa = some (.lst (ns.map V.int))
  l8 : ns.length = 8
  bd : ∀ n ∈ ns, 1 ≤ n ∧ n ≤ 5
  tab : GxR.TabG H PT
theorem sOf_at {ns : List Int} (h8 : ns.length = 8) (h : ∀ n ∈ ns, 1 ≤ n ∧ n ≤ 999) (i : Nat) (hi : i < 8) : ns[i]? = some ((sOf (ns.map .int) i : Nat) : Int) := by
  have hi' : i < ns.length := by omega
  have := h (ns[i]'hi') (List.getElem_mem _)
  unfold sOf
  rw [if_pos hi, List.getD_eq_getElem?_getD, List.getElem?_map, List.getElem?_eq_getElem hi']
  show some ns[i] = some ((ns[i].toNat : Nat) : Int)
  rw [Int.toNat_of_nonneg (by omega)]
section
variable {K : PySem.W.Frag} {PT : Addr} {H H' : Hp} {v : V} {sa : Addr} {k : Kd} {ns : List Int}
theorem AskK.stay (a : AskK K PT H v sa k ns) (t : Stay PT H H') : AskK K PT H' v sa k ns := ⟨t.dq a.kind, a.ok, a.lv, a.dp, t.at_ a.es, a.l8, a.bd, t.tab⟩
theorem AskK.same (a : AskK K PT H v sa k ns) (t : Same H H') : AskK K PT H' v sa k ns := a.stay (.of_same a.tab t)
theorem AskK.szs (a : AskK K PT H v sa k ns) : Dq K H (.ref sa) (.list (ns.map .int)) := .lst (.of a.es) (dq_ints ns)
theorem AskK.bd9 (a : AskK K PT H v sa k ns) : ∀ n ∈ ns, 1 ≤ n ∧ n ≤ 999 := fun n hn => by have := a.bd n hn; omega
theorem AskK.hs (a : AskK K PT H v sa k ns) : ∀ i, 1 ≤ sOf (ns.map PyData.int) i ∧ sOf (ns.map PyData.int) i ≤ 5 := sOf_ints (by decide) a.l8 a.bd
theorem AskK.hs9 (a : AskK K PT H v sa k ns) : ∀ i, 1 ≤ sOf (ns.map PyData.int) i ∧ sOf (ns.map PyData.int) i ≤ 999 := fun i => by have := a.hs i; omega
theorem AskK.hs1 (a : AskK K PT H v sa k ns) : ∀ i, 1 ≤ sOf (ns.map PyData.int) i := fun i => (a.hs i).1
theorem AskK.askN (a : AskK K PT H v sa k ns) : AskN K 7 v sa k ns (sOf (ns.map .int)) H := ⟨a.kind, a.ok, a.dp, .of a.es, sOf_at a.l8 a.bd9, a.hs9⟩
end
theorem not_kd {k : Kd} {A : Prop} (ok : k.ok) (h : isKd k.dat = false) : A := by rw [isKd_dat k ok] at h; cases h
/-- worths are told -/
theorem worths_q {K : PySem.W.Frag} {PT CN CS CM : Addr} {N : Nat} {H : Hp} {v u : V} {k : Kd} {ns : List Int} {Q : VK} {E : XK} (hv : Dq K H v k.dat) (ok : k.ok) (lv : k.leaves ≤ 100) (dp : k.deep < N) (es : Dq K H u (.list (ns.map .int))) (l8 : ns.length = 8) (bd : ∀ n ∈ ns, 1 ≤ n ∧ n ≤ 999) (n5 : k.num (sOf (ns.map .int)) ≤ 5000) (t5 : k.took (sOf (ns.map .int)) ≤ 5000) (tab : GxR.TabG H PT)
    (q : ∀ us p H', Stay PT H H' → Nw H p → H' p = some (.lst us) → DqAll K (out p H') us (k.wl (sOf (ns.map .int))) → Q (.ref p) H') : spWorths K CN CS CM PT N [v, u] H Q E := by
  have is_ := isSz_ints l8 bd
  refine ⟨v, u, k.dat, .list (ns.map .int), rfl, hv, es, by have := k.sz_dat; omega, tab, fun h => not_kd ok h, fun _ h => (by rw [is_] at h; cases h), fun k' ds ek _ ee _ => ?_⟩
  have ek := Kd.dat_inj _ _ ek
  subst ek
  cases ee
  refine ⟨dp, fun z => by omega, fun _ _ => q⟩
theorem stay_set {PT p : Addr} {H0 H : Hp} {xs ys : List V} (t : Stay PT H0 H) (n : H0 p = none) (e : H p = some (.lst xs)) : Stay PT H0 (upd H p (.lst ys)) := by
  have np : PT ≠ p := fun z => by
    obtain ⟨ps, h, _⟩ := t.tab
    rw [z, e] at h; cases h
  refine ⟨fun b o h nt => (upd_ne (ne_of_none h n)).trans (t.ext b o h nt), ?_, fun b o nb h => (upd_ne (ne_of_none h n)).trans (t.but b o nb h)⟩
  obtain ⟨ps, h, r⟩ := t.tab
  exact ⟨ps, (upd_ne np).trans h, r⟩
/-- where a list is new, nothing stood -/
theorem none_lst {PT p : Addr} {H H1 : Hp} {us : List V} (st : Stay PT H H1) (nw : Nw H p) (e : H1 p = some (.lst us)) : H p = none := by
  cases c : H p with
  | none => rfl
  | some o =>
    obtain ⟨ps, rfl⟩ := nw o c
    by_cases d : p = PT
    · obtain ⟨qs, h, _⟩ := st.tab
      rw [← d, e] at h; cases h
    · rw [st.but p _ d c] at e; cases e
theorem dq_take {K : PySem.W.Frag} {H : Hp} : ∀ {n : Nat} {ds : List PyData} {us : List V}, DqAll K H us ds → DqAll K H (us.take n) (ds.take n)
  | 0, _, _, _ => by rw [List.take_zero, List.take_zero]; exact .nil
  | n + 1, _, _, .nil => .nil
  | n + 1, _, _, .cons h t => .cons h (dq_take t)
theorem cut_to {xs : List V} {n : Nat} : cutV xs none (some (n : Int)) = xs.take n := by
  unfold cutV
  rw [HT.sIx_none, HT.sIx_nat]
  rw [List.drop_zero, Nat.sub_zero]
  by_cases c : n ≤ xs.length
  · rw [Nat.min_eq_left c]
  · rw [Nat.min_eq_right (by omega), List.take_of_length_le (Nat.le_refl _), List.take_of_length_le (by omega)]
theorem few_lt3 {n : Nat} (h : decide ((300 : Int) < ((few n : Nat) : Int)) = true) : 300 < n := by
  have := of_decide_eq_true h
  unfold few at this; omega
theorem few_nlt3 {n : Nat} (h : ¬ decide ((300 : Int) < ((few n : Nat) : Int)) = true) : n ≤ 300 := by
  have c' : ¬ (300 : Int) < ((few n : Nat) : Int) := fun z => h (decide_eq_true z)
  unfold few at c'; omega
theorem few_lt5 {n : Nat} (h : ¬ decide ((5000 : Int) < ((few n : Nat) : Int)) = true) : n ≤ 5000 := by
  have c' : ¬ (5000 : Int) < ((few n : Nat) : Int) := fun z => h (decide_eq_true z)
  unfold few at c'; omega
theorem inc_ends {es : List PyData} {a b : PyData} (h : Inc es) (l : 2 ≤ es.length) (ha : es.head? = some a) (hb : es.getLast? = some b) : PySem.W.dataLt a b = true := by
  obtain ⟨r, rfl⟩ := List.getLast?_eq_some_iff.mp hb
  match r, l, ha, h with
  | [], l, _, _ => simp at l
  | c :: t, _, ha, h =>
    cases ha
    exact (List.pairwise_append.mp h).2.2 _ List.mem_cons_self _ (by simp)
theorem keepD {K : PySem.W.Frag} {H : Hp} {l : Addr} {us us2 : List V} {v : V} {d : PyData} (e : H l = some (.lst us)) (p : pureT d = true) (h : Dq K H v d) : Dq K (upd H l (.lst us2)) v d := (Dq.outp e p h).same out_upd
/-- equal lists of data -/
theorem eq_same {K : PySem.W.Frag} {H : Hp} {a b : Addr} {us vs : List V} {ds : List PyData} {Q : VK} (e1 : H a = some (.lst us)) (d1 : DqAll K H us ds) (e2 : H b = some (.lst vs)) (d2 : DqAll K H vs ds) (lay : PyData.canLayAll0 ds = true) (dp : PyData.depthAll ds ≤ 180) (q : Q (.bl true) H) : rEqA K (.ref a) (.ref b) H Q := by
  have c : (PyData.list ds).canLay0 = true := by rw [PyData.canLay0]; exact lay
  refine .inr ⟨_, _, (Dq.lst (.of e1) d1).dp c, (Dq.lst (.of e2) d2).dp c, c, c, by simp only [PyData.depth]; omega, ?_⟩
  rw [SeqAt.eqv_refl _ c]
  exact q
theorem ne_same {K : PySem.W.Frag} {H : Hp} {a b : Addr} {us vs : List V} {ds : List PyData} {Q : VK} (e1 : H a = some (.lst us)) (d1 : DqAll K H us ds) (e2 : H b = some (.lst vs)) (d2 : DqAll K H vs ds) (lay : PyData.canLayAll0 ds = true) (dp : PyData.depthAll ds ≤ 180) (q : Q (.bl false) H) : rNeA K (.ref a) (.ref b) H Q := by
  have c : (PyData.list ds).canLay0 = true := by rw [PyData.canLay0]; exact lay
  refine .inr ⟨_, _, (Dq.lst (.of e1) d1).dp c, (Dq.lst (.of e2) d2).dp c, c, c, by simp only [PyData.depth]; omega, ?_⟩
  rw [SeqAt.eqv_refl _ c]
  exact q
def spAsk41 (K : PySem.W.Frag) (PT : Addr) : Sp := fun vs H Q _ => ∃ v sa k ns, vs = [v, .ref sa] ∧ AskK K PT H v sa k ns ∧ ∀ H', Stay PT H H' → Q (.bl true) H'
/-- what stands at the cuts -/
def A5 (K : PySem.W.Frag) (PT sa : Addr) (f : Kd → List Int → Prop) : TS := fun D σ H' => ∃ (H0 : Hp) (v : V) (k : Kd) (ns : List Int) (p : Addr) (us : List V) (o3 : Option V), σ = [some v, some (.ref sa), some (.int (k.num (sOf (ns.map .int)) : Nat)), o3, some (.ref p)] ∧ AskK K PT H' v sa k ns ∧ k.num (sOf (ns.map .int)) ≤ 5000 ∧ k.took (sOf (ns.map .int)) ≤ 5000 ∧ f k ns ∧ Stay PT H0 H' ∧ H0 sa = some (.lst (ns.map V.int)) ∧ H0 p = none ∧ H' p = some (.lst us) ∧ DqAll K (out p H') us (k.wl (sOf (ns.map .int))) ∧ ∀ H2, Stay PT H0 H2 → D.rt (.bl true) H2
def A8 (K : PySem.W.Frag) (PT sa : Addr) : TS := fun D σ H' => ∃ (H0 : Hp) (v : V) (k : Kd) (ns : List Int) (o2 o3 o4 : Option V), σ = [some v, some (.ref sa), o2, o3, o4] ∧ AskK K PT H' v sa k ns ∧ k.num (sOf (ns.map .int)) ≤ 300 ∧ k.took (sOf (ns.map .int)) ≤ 300 ∧ Stay PT H0 H' ∧ ∀ H2, Stay PT H0 H2 → D.rt (.bl true) H2
abbrev s_law_asked : Stmt := top 36
theorem sc_law_asked : FnScope ["kind", "sizes", "whole", "kept", "found"] ["kind", "sizes"] (defScope s_law_asked) := ⟨rfl, rfl, rfl, by decide +kernel, rfl, by decide +kernel, by decide +kernel⟩
section
variable {P : Program} {w : World} {K : PySem.W.Frag} {mg : Str → Option Value} {base : Heap} {CN CT CS CM : Addr}
theorem ok_asked {PT : Addr} (A : At K mg "_law_asked" s_law_asked) (T : Txt K mg w CN CT) (C_law_number : Cal P w K mg base CX0 8 "_law_number" ["kind", "sizes"] (spNum K 7)) (C_law_taken : Cal P w K mg base CX0 9 "_law_taken" ["kind", "sizes"] (spTak K 7)) (C_law_all : Cal P w K mg base CX0 9 "_law_all" ["kind", "sizes"] (spAll K 7)) (C_worths : Cal P w K mg base (L2.CX P w) 106 "worths" ["kind", "sizes"] (spWorths K CN CS CM PT 100)) : Cal P w K mg base CX0 107 "_law_asked" ["kind", "sizes"] (spAsk41 K PT) := by
  obtain ⟨f, fd, F, m⟩ := A
  refine ⟨f, fd, F.ok sc_law_asked (fun vs H Q E h => ?_) (fun cdv A outer s H vs Q E hr h => ?_), F.binds (ps := ["kind", "sizes"]) (fun _ _ _ _ _ _ us hl => match us, hl with | [_, _], _ => rfl), F.kp, m⟩
  · obtain ⟨v, sa, k, ns, rfl, _⟩ := h; rfl
  obtain ⟨v, sa, k, ns, rfl, a, q⟩ := h
  refine ⟨_, (pss_cons (ps_set (i := 2) sc_law_asked.nd rfl (by first | exact Or.inl rfl | exact Or.inr rfl) (pe_calC C_law_number (hr.mono (by first | decide | omega)) pass0 (pa_cons (pv 0) (pa_cons (pv 1) pa_nil))))
  (pss_cons (ps_if (PW.pt (pw_or (pt_cmpR op_gt (pv 2) pe_int (nomark _)) (pw_or1 (pt_cmpR op_gt (pe_calC C_law_taken (hr.mono (by first | decide | omega)) pass0 (pa_cons (pv 0) (pa_cons (pv 1) pa_nil))) pe_int (nomark _)))))
   (pss_one (ps_ret pe_bl))
   pss_nil)
  (pss_cons (ps_set (i := 3) sc_law_asked.nd rfl (by first | exact Or.inl rfl | exact Or.inr rfl) (pe_callTy call_list_of (by rfl) T.z_list (by decide +kernel) (pa_cons (pv 1) pa_nil)))
  (pss_cons (ps_set (i := 4) sc_law_asked.nd rfl (by first | exact Or.inl rfl | exact Or.inr rfl) (pe_calC C_worths (hr.mono (by first | decide | omega)) passL (pa_cons (pv 0) (pa_cons (pv 1) pa_nil))))
  (pss_cons (ps_if (PW.pt (pw_or (pt_not (pt_val (pe_callB call_isiD (by rfl) T.z_isinstance (by decide +kernel) (pa_cons (pv 4) (pa_cons (pe_bltn (v := .ty "list") (by rfl) T.z_list (by decide +kernel) rfl) pa_nil))))) (pw_or (pt_cmpR (op_neA (room200 hr)) (pe_callB call_len (by rfl) T.z_len (by decide +kernel) (pa_cons (pv 4) pa_nil)) (pv 2) (nomark _)) (pw_or1 (pt_cmpR (op_neA (room200 hr)) (pv 1) (pv 3) (nomark _))))))
   (pss_one (ps_ret pe_bl))
   pss_nil)
  (pss_gen (I := A5 K PT sa (fun _ _ => True)) (pss_cons (ps_if (pt_cmpR op_gt (pv 2) pe_int (nomark _))
   (pss_one (ps_ret (pe_and (pe_cmpR (op_ltD (room200 hr)) (pe_ix ix_B (pv 4) pe_int (fun _ _ => rfl)) (pe_ix ix_B (pv 4) (pe_un un_neg pe_int) (fun _ _ => rfl)) (nomark _)) (pe_one (pe_cmpR (op_eqA (room200 hr)) (pe_slice sl_A (pv 4) po_none (po_some pe_int)) (pe_callB (call_sortD (room200 hr)) (by rfl) T.z_sorted (by decide +kernel) (pa_cons (pe_slice sl_A (pv 4) po_none (po_some pe_int)) pa_nil)) (nomark _))))))
   pss_nil)
  (pss_gen (I := A5 K PT sa (fun k ns => k.num (sOf (ns.map .int)) ≤ 300)) (pss_cons (ps_if (pt_cmpR op_gt (pe_calC C_law_taken (hr.mono (by first | decide | omega)) pass0 (pa_cons (pv 0) (pa_cons (pv 1) pa_nil))) pe_int (nomark _))
   (pss_one (ps_ret (pe_cmpR (op_eqA (room200 hr)) (pe_callB (call_sortD (room200 hr)) (by rfl) T.z_sorted (by decide +kernel) (pa_cons (pv 4) pa_nil)) (pv 4) (nomark _))))
   pss_nil)
  (pss_gen (I := A5 K PT sa (fun k ns => k.num (sOf (ns.map .int)) ≤ 300 ∧ k.took (sOf (ns.map .int)) ≤ 300)) (pss_cons (ps_if (PW.pt (pw_or (pt_cmpR (op_neA (room200 hr)) (pv 4) (pe_calC C_law_all (hr.mono (by first | decide | omega)) pass0 (pa_cons (pv 0) (pa_cons (pv 1) pa_nil))) (nomark _)) (pw_or1 (pt_cmpR (op_neA (room200 hr)) (pv 4) (pe_sortSet (room200 hr) rfl (by rfl) T.z_sorted (by rfl) T.z_set (pv 4)) (nomark _)))))
   (pss_one (ps_ret pe_bl))
   pss_nil)
  (pss_cons (ps_expr (pe_bm0 PySem.F.plainAttrs_list PySem.F.slot_list_reverse PySem.F.type_list_reverse mt_reverse (pv 4) ))
  (pss_cons (ps_expr (pe_bm PySem.F.plainAttrs_list PySem.F.slot_list_append PySem.F.type_list_append mt_append (pv 4) (pa_cons pe_non pa_nil)))
  (pss_gen (I := A8 K PT sa) (pss_one (ps_ret (pe_cmpR (op_eqA (room200 hr)) (pe_calC C_worths (hr.mono (by first | decide | omega)) passL (pa_cons (pv 0) (pa_cons (pv 1) pa_nil))) (pe_calC C_law_all (hr.mono (by first | decide | omega)) pass0 (pa_cons (pv 0) (pa_cons (pv 1) pa_nil))) (nomark _)))) ?i10)))) ?i7)) ?i6)) ?i5)))))), ?first⟩
  case i5 =>
    rintro D σ H1 ⟨H0, v, k, ns, p, us, o3, rfl, a, n5, t5, _, st, es0, np, ep, dp, q⟩
    have dpk := a.dp
    have dk : k.deep ≤ 180 := by omega
    refine ⟨_, rfl, _, _, rfl, rfl, _, rfl, ite2 (fun c => ?_) (fun c => ?_)⟩
    · have c' : (300 : Int) < ((k.num (sOf (ns.map .int)) : Nat) : Int) := of_decide_eq_true c
      have lw := Kd.wl_length a.hs9 k (Nat.lt_of_le_of_lt n5 (by decide +kernel))
      obtain ⟨c0, hc0⟩ := head_of (l := k.wl (sOf (ns.map .int))) (by omega)
      have la := Kd.wl_last a.hs1 k
      have dp1 := dp.same (out_sub p H1)
      obtain ⟨u0, uz, i1, i2, d0, dz⟩ := ends_q dp1 hc0 la
      have m0 := List.mem_of_head? hc0
      have mz := List.mem_of_getLast? la
      have lay := lays_of fun d hd => (Kd.wl_lay (s := sOf (ns.map .int)) k d (List.mem_of_mem_take (i := 200) hd)).1
      have dps := deps_of fun d hd => (Kd.wl_lay (s := sOf (ns.map .int)) k d (List.mem_of_mem_take (i := 200) hd)).2
      refine ⟨_, rfl, ixL (j := 0) (.of ep) i1 ⟨_, rfl, _, rfl, .inl (.inl ⟨p, us, -1, uz, rfl, rfl, .of ep, i2, ?_⟩)⟩⟩
      refine ⟨c0, _, d0, dz, Kd.wl_alike k _ m0 _ mz, ?_, by have := (Kd.wl_lay _ _ m0).2; omega, ?_⟩
      · have := Kd.wl_key _ _ m0
        rintro rfl
        simp [keyD] at this
      rw [inc_ends (Kd.wl_inc k) (by omega) hc0 la]
      refine ⟨_, rfl, iteT' rfl ?_⟩
      refine ⟨_, rfl, _, rfl, .inl ⟨p, us, rfl, .of ep, fun p1 h1 => ?_⟩⟩
      have s1 := same_new h1 (.lst (cutV us none (some 200)))
      have e1 := upd_same (H := H1) (a := p1) (o := .lst (cutV us none (some 200)))
      generalize upd H1 p1 (.lst (cutV us none (some 200))) = H2 at s1 e1 ⊢
      refine ⟨_, rfl, _, rfl, .inl ⟨p, us, rfl, .of (s1 _ _ ep), fun p2 h2 => ?_⟩⟩
      have s2 := same_new h2 (.lst (cutV us none (some 200)))
      have e2 := upd_same (H := H2) (a := p2) (o := .lst (cutV us none (some 200)))
      generalize upd H2 p2 (.lst (cutV us none (some 200))) = H3 at s2 e2 ⊢
      have ec : cutV us none (some 200) = us.take 200 := cut_to (n := 200)
      rw [ec] at e1 e2
      have d3 := dq_take (n := 200) (dp1.same (s1.trans s2))
      have sub : SrtD ((k.wl (sOf (ns.map .int))).take 200) := by
        have z := Kd.wl_srtD a.hs1 dk
        refine ⟨fun d hd e he => z.1 d (List.mem_of_mem_take hd) e (List.mem_of_mem_take he), ?_, by omega⟩
        rcases z.2.1 with (y | y) | y
        · exact .inl (.inl fun d hd => y d (List.mem_of_mem_take hd))
        · exact .inl (.inr fun d hd => y d (List.mem_of_mem_take hd))
        · omega
      refine ⟨p2, _, _, rfl, .of e2, d3, sub, fun ys fs p3 pf sf df h3 => ?_⟩
      have ef := srd_one (List.Pairwise.sublist (List.take_sublist _ _) (Kd.wl_inc k)) sf pf
      subst ef
      have s3 := same_new h3 (.lst ys)
      refine eq_same (s3 _ _ (s2 _ _ e1)) (d3.same s3) upd_same (df.same s3) lay (by omega) ?_
      exact q _ (st.same ((s1.trans s2).trans s3))
    · have c' : ¬ (300 : Int) < ((k.num (sOf (ns.map .int)) : Nat) : Int) := fun z => c (decide_eq_true z)
      exact ⟨H0, v, k, ns, p, us, _, rfl, a, n5, t5, by omega, st, es0, np, ep, dp, q⟩
  case i6 =>
    rintro D σ H1 ⟨H0, v, k, ns, p, us, o3, rfl, a, n5, t5, n3, st, es0, np, ep, dp, q⟩
    have dpk := a.dp
    have dk : k.deep ≤ 180 := by omega
    refine ⟨_, rfl, _, rfl, v, sa, k, ns, _, rfl, a.askN, fun H2 s2 => ⟨_, _, rfl, rfl, _, rfl, ite2 (fun c => ?_) (fun c => ?_)⟩⟩
    · have dp1 := (dp.same (out_sub p H1)).same s2
      have lay := lays_of fun d hd => (Kd.wl_lay (s := sOf (ns.map .int)) k d hd).1
      have dps := deps_of fun d hd => (Kd.wl_lay (s := sOf (ns.map .int)) k d hd).2
      refine ⟨_, rfl, p, us, _, rfl, .of (s2 _ _ ep), dp1, Kd.wl_srtD a.hs1 dk, fun ys fs p3 pf sf df h3 => ?_⟩
      have ef := srd_one (Kd.wl_inc k) sf pf
      subst ef
      have s3 := same_new h3 (.lst ys)
      refine ⟨_, rfl, ?_⟩
      refine eq_same upd_same (df.same s3) (s3 _ _ (s2 _ _ ep)) (dp1.same s3) lay (by omega) ?_
      exact q _ (st.same (s2.trans s3))
    · exact ⟨H0, v, k, ns, p, us, _, rfl, a.same s2, n5, t5, ⟨n3, few_nlt3 c⟩, st.same s2, es0, np, s2 _ _ ep, dp.same (out_same s2), q⟩
  case i7 =>
    rintro D σ H1 ⟨H0, v, k, ns, p, us, o3, rfl, a, n5, t5, ⟨n3, t3⟩, st, es0, np, ep, dp, q⟩
    have dpk := a.dp
    have dk : k.deep ≤ 180 := by omega
    have lw := Kd.wl_length a.hs9 k (Nat.lt_of_le_of_lt n5 (by decide +kernel))
    have lay := lays_of fun d hd => (Kd.wl_lay (s := sOf (ns.map .int)) k d hd).1
    have dps := deps_of fun d hd => (Kd.wl_lay (s := sOf (ns.map .int)) k d hd).2
    have dp1 := dp.same (out_sub p H1)
    have ll := dp.length
    refine ⟨_, rfl, _, rfl, _, rfl, v, sa, k, ns, _, rfl, a.askN, n5, t5, fun us2 p2 H2 s2 e2 d2 => ?_⟩
    refine ne_same (s2 _ _ ep) (dp1.same s2) e2 d2 lay (by omega) ⟨_, rfl, iteF' rfl ?_⟩
    have a2 := a.same s2
    have pw := Kd.wl_setD (s := sOf (ns.map .int)) (k := k) (by omega) (by omega)
    refine ⟨_, rfl, _, rfl, _, .lst (.of (s2 _ _ ep)) (dp1.same s2), pw, Kd.wl_srtD a.hs1 dk, ?_, fun ys fs p3 pf sf df h3 => ?_⟩
    · cases k with
      | b i =>
        have := (a.hs i).2
        have lw : _ = sOf (ns.map .int) i := lw
        exact .inl (by omega)
      | u => exact .inl (by show 1 < 64; decide)
      | p x y =>
        rcases pw.1 with z | ⟨ms, z⟩
        · exact .inr ⟨z.1, z.2.1⟩
        · refine .inr ⟨keyDs_of (Kd.wl_key _), fun d hd => ?_⟩
          obtain ⟨c, hc, h⟩ := List.mem_flatMap.mp hd
          obtain ⟨e, he, rfl⟩ := List.mem_map.mp h
          exact ⟨_, rfl⟩
      | f x y =>
        rcases pw.1 with z | ⟨ms, z⟩
        · exact .inr ⟨z.1, z.2.1⟩
        · refine .inr ⟨keyDs_of (Kd.wl_key _), fun d hd => ?_⟩
          obtain ⟨r, hr, rfl⟩ := List.mem_map.mp hd
          exact ⟨_, rfl⟩
    have ef := srd_one (Kd.wl_inc k) sf pf
    subst ef
    have s3 := same_new h3 (.lst ys)
    refine ne_same (s3 _ _ (s2 _ _ ep)) (dp1.same (s2.trans s3)) upd_same (df.same s3) lay (by omega) ⟨_, rfl, iteF' rfl ?_⟩
    have s23 := s2.trans s3
    generalize upd H2 p3 (.lst ys) = H3 at s3 s23 ⊢
    have ep3 := s23 _ _ ep
    have st3 := st.same s23
    refine ⟨_, rfl, .inl ⟨rfl, _, .of ep3⟩, p, us, rfl, rfl, ep3, ?_⟩
    have st4 := stay_set (ys := us.reverse) st3 np ep3
    have e4 := upd_same (H := H3) (a := p) (o := .lst us.reverse)
    have nsa : sa ≠ p := ne_of_none es0 np
    have a3 := a.same s23
    have a4 : AskK K PT (upd H3 p (.lst us.reverse)) v sa k ns := ⟨keepD ep3 k.pure a3.kind, a.ok, a.lv, a.dp, (upd_ne nsa).trans a3.es, a.l8, a.bd, st4.tab⟩
    generalize upd H3 p (.lst us.reverse) = H4 at st4 e4 a4 ⊢
    have e5 : us.reverse.length ≤ 300 := by rw [List.length_reverse]; omega
    refine ⟨_, rfl, .inl ⟨rfl, _, .of e4⟩, p, us.reverse, .non, rfl, rfl, e4, fits_lt (by omega), ?_⟩
    have st5 := stay_set (ys := us.reverse ++ [.non]) st4 np e4
    exact ⟨H0, v, k, ns, _, _, _, rfl, ⟨keepD e4 k.pure a4.kind, a.ok, a.lv, a.dp, (upd_ne nsa).trans a4.es, a.l8, a.bd, st5.tab⟩, n3, t3, st5, q⟩
  case i10 =>
    rintro D σ H1 ⟨H0, v, k, ns, o2, o3, o4, rfl, a, n3, t3, st, q⟩
    have dpk := a.dp
    have lay := lays_of fun d hd => (Kd.wl_lay (s := sOf (ns.map .int)) k d hd).1
    have dps := deps_of fun d hd => (Kd.wl_lay (s := sOf (ns.map .int)) k d hd).2
    refine ⟨_, rfl, _, rfl, ?_⟩
    dsimp only [tNil]
    refine worths_q a.kind a.ok (by have := a.lv; omega) (by omega) a.szs a.l8 a.bd9 (by omega) (by omega) a.tab fun us p H2 st2 nw ep dp => ?_
    have a2 := a.stay st2
    refine ⟨_, rfl, _, rfl, v, sa, k, ns, _, rfl, a2.askN, by omega, by omega, fun us3 p3 H3 s3 e3 d3 => ?_⟩
    refine eq_same (s3 _ _ ep) ((dp.same (out_sub p H2)).same s3) e3 d3 lay (by omega) ?_
    exact q _ ((st.trans st2).same s3)
  case first =>
    have dpk := a.dp
    refine ⟨_, rfl, _, rfl, v, sa, k, ns, _, rfl, a.askN, fun H1 s1 => ?_⟩
    have a1 := a.same s1
    refine ⟨_, rfl, _, _, rfl, rfl, _, rfl, ite2 (fun c => iteT' rfl (q _ (.of_same a.tab s1))) (fun c => ?_)⟩
    refine ⟨_, rfl, _, rfl, v, sa, k, ns, _, rfl, a1.askN, fun H2 s2 => ⟨_, _, rfl, rfl, _, rfl, ite2 (fun c2 => q _ (.of_same a.tab (s1.trans s2))) (fun c2 => ?_)⟩⟩
    have n5 := few_lt5 c
    have t5 := few_lt5 c2
    rw [few_id (show k.num (sOf (ns.map .int)) ≤ 5001 by omega)]
    have a2 := a1.same s2
    refine ⟨_, rfl, sa, _, rfl, .inl (.of a2.es), fun pk hpk => ?_⟩
    have s3 := same_new hpk (.lst (ns.map V.int))
    have ek := upd_same (H := H2) (a := pk) (o := .lst (ns.map V.int))
    generalize upd H2 pk (.lst (ns.map V.int)) = H3 at s3 ek ⊢
    have a3 := a2.same s3
    refine ⟨_, rfl, _, rfl, ?_⟩
    dsimp only [tNil]
    refine worths_q a3.kind a.ok (by have := a.lv; omega) (by omega) a3.szs a.l8 a.bd9 n5 t5 a3.tab fun us p H4 st4 nw ep dp => ?_
    have a4 := a3.stay st4
    have np := none_lst st4 nw ep
    have s13 := (s1.trans s2).trans s3
    have np0 : H p = none := by
      cases e : H p with
      | none => rfl
      | some o => rw [s13 _ _ e] at np; cases np
    have lw := Kd.wl_length a.hs9 k (Nat.lt_of_le_of_lt n5 (by decide +kernel))
    have dp4 := dp.same (out_sub p H4)
    refine ⟨_, rfl, _, _, .list (k.wl (sOf (ns.map .int))), rfl, .lst (.of ep) dp4, by decide +kernel, _, rfl, iteF' (by simp [tyN, isiN]) ?_⟩
    refine ⟨_, rfl, _, _, rfl, .inl ⟨_, .of ep, rfl⟩, _, rfl, .inl ⟨rfl, _, rfl, iteF' (by rw [dp.length, lw]; simp) ?_⟩⟩
    refine ⟨_, rfl, _, rfl, ?_⟩
    have st04 := (Stay.of_same a.tab s13).trans st4
    refine ne_same (a4.es) (dq_ints ns) (st4.at_ ek) (dq_ints ns) (keys_lay _ (keyDs_of fun d hd => by obtain ⟨_, _, rfl⟩ := List.mem_map.mp hd; rfl)) (by rw [PySem.W.depth_ints]; exact Nat.zero_le _) ⟨_, rfl, iteF' rfl ?_⟩
    exact ⟨H, v, k, ns, p, us, _, rfl, a4, n5, t5, trivial, st04, a.es, np0, ep, dp, q⟩
end

/-! ## great bases -/
theorem Well.notab {PT wl : Addr} {H : Hp} (h : Well H wl) (t : GxR.TabG H PT) : PT ≠ wl := fun z => by
  obtain ⟨x, y, w, e⟩ := h
  obtain ⟨ps, e2, _⟩ := t
  rw [z, e] at e2; cases e2
theorem Aft.tab {PT wl : Addr} {H H' : Hp} (a : Aft wl H H') (n : PT ≠ wl) (t : GxR.TabG H PT) : GxR.TabG H' PT := by
  obtain ⟨ps, e, r⟩ := t
  exact ⟨ps, a.at_ n e, r⟩
theorem AftT.of_aft {PT wl : Addr} {H H' : Hp} (a : Aft wl H H') (t : GxR.TabG H' PT) : AftT wl PT H H' := ⟨LamX.ExtN.of a.but, t⟩
theorem Well.stay {PT wl : Addr} {H H' : Hp} (h : Well H wl) (s : Stay PT H H') : Well H' wl := by
  obtain ⟨x, y, z, e⟩ := h
  exact ⟨x, y, z, s.at_ e⟩
theorem aftT_setl {wl PT sa : Addr} {H H' : Hp} {xs ys : List V} (a : AftT wl PT H H') (n : H sa = none) (e : H' sa = some (.lst xs)) : AftT wl PT H (upd H' sa (.lst ys)) := by
  have np : PT ≠ sa := fun z => by
    obtain ⟨ps, h, _⟩ := a.tab
    rw [z, e] at h; cases h
  refine ⟨fun b o h nt => ?_, ?_⟩
  · have h1 := out_some h
    have h2 := out_some (a.ext b o h nt)
    exact out_at h1.1 ((upd_ne (ne_of_none h1.2 n)).trans h2.2)
  · obtain ⟨ps, h, r⟩ := a.tab
    exact ⟨ps, (upd_ne np).trans h, r⟩
theorem Aft.setl {w p : Addr} {H H' : Hp} (a : Aft w H H') (n : H p = none) (nw : p ≠ w) (o : HO) : Aft w H (upd H' p o) := by
  obtain ⟨x, y, z, e⟩ := a.well
  refine ⟨⟨x, y, z, (upd_ne nw.symm).trans e⟩, fun b u h => ?_⟩
  have h1 := out_some h
  have h2 := out_some (a.but b u h)
  exact out_at h1.1 ((upd_ne (ne_of_none h1.2 n)).trans h2.2)
/-- what stands at the cuts: sizes that are told in the law -/
structure GtS (PT wl sa : Addr) (H0 H : Hp) (ns : List Int) : Prop where
  aft : AftT wl PT H0 H
  well : Well H wl
  nw : sa ≠ wl
  new : H0 sa = none
  es : H sa = some (.lst (ns.map V.int))
  l8 : ns.length = 8
  bd : ∀ n ∈ ns, 1 ≤ n ∧ n ≤ 999
section
variable {PT wl sa : Addr} {H0 H H' : Hp} {ns : List Int}
theorem GtS.tab (S : GtS PT wl sa H0 H ns) : GxR.TabG H PT := S.aft.tab
theorem GtS.stay (S : GtS PT wl sa H0 H ns) (t : Stay PT H H') : GtS PT wl sa H0 H' ns := ⟨S.aft.trans (.of_stay t), S.well.stay t, S.nw, S.new, t.at_ S.es, S.l8, S.bd⟩
theorem GtS.same (S : GtS PT wl sa H0 H ns) (t : Same H H') : GtS PT wl sa H0 H' ns := S.stay (.of_same S.tab t)
theorem GtS.draw (S : GtS PT wl sa H0 H ns) (a : Aft wl H H') : GtS PT wl sa H0 H' ns := ⟨S.aft.trans (KW.AftT.of_aft a (a.tab (S.well.notab S.tab) S.tab)), a.well, S.nw, S.new, a.at_ S.nw S.es, S.l8, S.bd⟩
theorem GtS.put (S : GtS PT wl sa H0 H ns) {ms : List Int} (l8 : ms.length = 8) (bd : ∀ n ∈ ms, 1 ≤ n ∧ n ≤ 999) : GtS PT wl sa H0 (upd H sa (.lst (ms.map V.int))) ms := by
  obtain ⟨x, y, z, e⟩ := S.well
  exact ⟨aftT_setl S.aft S.new S.es, ⟨x, y, z, (upd_ne S.nw.symm).trans e⟩, S.nw, S.new, upd_same, l8, bd⟩
end
def spGreat (PT : Addr) : Sp := fun vs H Q _ => ∃ (wl : Addr), vs = [.ref wl] ∧ Well H wl ∧ GxR.TabG H PT ∧ ∀ H', AftT wl PT H H' → Well H' wl → Q (.bl true) H'
abbrev s_law_great_right : Stmt := top 37
theorem sc_law_great_right : FnScope ["well", "one", "two", "sizes", "k", "pair", "x", "y"] ["well"] (defScope s_law_great_right) := ⟨rfl, rfl, rfl, by decide +kernel, rfl, by decide +kernel, by decide +kernel⟩
def ScG (wl D : Addr) (H0 : Hp) (i : Nat) (H' : Hp) : Prop := ∃ ns : List Int, H' D = some (.lst (ns.map V.int)) ∧ ns.length = i ∧ (∀ n ∈ ns, 2 ≤ n ∧ n ≤ 61) ∧ Aft wl H0 H'
def G1 (PT wl : Addr) : TS := fun D σ H' => ∃ (H0 : Hp) (i j : Nat) (o3 o4 o5 o6 o7 : Option V), σ = [some (.ref wl), some (.int (i : Nat)), some (.int (j : Nat)), o3, o4, o5, o6, o7] ∧ i < 8 ∧ j < 8 ∧ PT ≠ wl ∧ Aft wl H0 H' ∧ GxR.TabG H0 PT ∧ ∀ H2, AftT wl PT H0 H2 → Well H2 wl → D.rt (.bl true) H2
/-- .. of which these hold -/
def G2 (PT wl : Addr) (f : Nat → Nat → List Int → Prop) : TS := fun D σ H' => ∃ (H0 : Hp) (i j : Nat) (sa : Addr) (ns : List Int) (o4 o5 o6 o7 : Option V), σ = [some (.ref wl), some (.int (i : Nat)), some (.int (j : Nat)), some (.ref sa), o4, o5, o6, o7] ∧ i < 8 ∧ j < 8 ∧ GtS PT wl sa H0 H' ns ∧ f i j ns ∧ ∀ H2, AftT wl PT H0 H2 → Well H2 wl → D.rt (.bl true) H2
theorem aft_none {w p : Addr} {H H' : Hp} (a : Aft w H H') (h : H' p = none) : H p = none := by
  cases e : H p with
  | none => rfl
  | some o =>
    have := (out_some (a.but p o (out_at (a.well.ne h) e))).2
    rw [h] at this; cases this
theorem ixN_at {n j : Nat} (hj : j < n) : ixN n (j : Int) = some j := by
  unfold ixN
  rw [if_pos (by omega), if_pos (by omega)]
  simp
theorem set_bd {ns : List Int} {i : Nat} {n lo hi : Int} (h : ∀ m ∈ ns, lo ≤ m ∧ m ≤ hi) (hn : lo ≤ n ∧ n ≤ hi) : ∀ m ∈ ns.set i n, lo ≤ m ∧ m ≤ hi := fun m hm => by
  rcases List.mem_or_eq_of_mem_set hm with z | z
  · exact h m z
  · rw [z]; exact hn
theorem set_sOf {ns : List Int} {i l : Nat} {n : Int} (l8 : ns.length = 8) (ne : l ≠ i) : sOf ((ns.set i n).map .int) l = sOf (ns.map .int) l := by
  unfold sOf
  rw [List.getD_eq_getElem?_getD, List.getD_eq_getElem?_getD, List.getElem?_map, List.getElem?_map, List.getElem?_set_ne (Ne.symm ne)]
theorem set_sOf_at {ns : List Int} {i : Nat} {n : Int} (l8 : ns.length = 8) (hi : i < 8) : sOf ((ns.set i n).map .int) i = n.toNat := by
  unfold sOf
  rw [if_pos hi, List.getD_eq_getElem?_getD, List.getElem?_map, List.getElem?_set_self (by omega)]
  rfl
theorem sOf_le {ns : List Int} {i : Nat} {n : Nat} (l8 : ns.length = 8) (hi : i < 8) (h : ∀ m ∈ ns, 1 ≤ m ∧ m ≤ (n : Int)) : sOf (ns.map .int) i ≤ n := by
  have hi' : i < ns.length := by omega
  have := h (ns[i]'hi') (List.getElem_mem _)
  unfold sOf
  rw [if_pos hi, List.getD_eq_getElem?_getD, List.getElem?_map, List.getElem?_eq_getElem hi']
  show (ns[i]'hi').toNat ≤ n
  omega
theorem wl_bAt {s : Nat → Nat} {i l : Nat} (h : l < s i) : ((Kd.b i).wl s)[l]? = some (.int (l : Nat)) := by
  show ((List.range (s i)).map fun n => PyData.int (n : Nat))[l]? = _
  rw [List.getElem?_map, List.getElem?_range h]; rfl
def G7 (K : PySem.W.Frag) (PT wl : Addr) : TS := fun D σ H' => ∃ (H0 : Hp) (i j : Nat) (sa pr : Addr) (ns : List Int) (us : List V) (o4 o6 o7 : Option V), σ = [some (.ref wl), some (.int (i : Nat)), some (.int (j : Nat)), some (.ref sa), o4, some (.ref pr), o6, o7] ∧ i < 8 ∧ j < 8 ∧ GtS PT wl sa H0 H' ns ∧ (∀ l, l < 8 → sOf (ns.map .int) l ≤ 70) ∧ out wl H' pr = some (.lst us) ∧ DqAll K (out wl H') us ((Kd.p (.b i) (.b j)).wl (sOf (ns.map .int))) ∧ ∀ H2, AftT wl PT H0 H2 → Well H2 wl → D.rt (.bl true) H2
/-- the pairs so far -/
def PrW (K : PySem.W.Frag) (wl sa : Addr) (i j : Nat) (o4 : Option V) (H3 : Hp) (data : List PyData) (σ : L2.St) (H' : Hp) : Prop :=
  ∃ (r : Addr) (us : List V) (o6 o7 : Option V), σ = [some (.ref wl), some (.int (i : Nat)), some (.int (j : Nat)), some (.ref sa), o4, some (.ref r), o6, o7] ∧ H' r = some (.lst us) ∧ r ≠ wl ∧ DqAll K H' us data ∧ Same H3 H'
section
variable {P : Program} {w : World} {K : PySem.W.Frag} {mg : Str → Option Value} {base : Heap} {CN CT CS CM : Addr}
theorem ok_great {PT : Addr} (A : At K mg "_law_great_right" s_law_great_right) (T : Txt K mg w CN CT) (C_law_draw : Cal P w K mg base CX0 1 "_law_draw" ["well", "below"] spDraw) (C_law_one : Cal P w K mg base CX0 2 "_law_one" ["well", "some"] (spOne K)) (C_worths : Cal P w K mg base (L2.CX P w) 106 "worths" ["kind", "sizes"] (spWorths K CN CS CM PT 100)) : Cal P w K mg base CX0 107 "_law_great_right" ["well"] (spGreat PT) := by
  obtain ⟨f, fd, F, m⟩ := A
  refine ⟨f, fd, F.ok sc_law_great_right (fun vs H Q E h => ?_) (fun cdv A outer s H vs Q E hr h => ?_), F.binds (ps := ["well"]) (fun _ _ _ _ _ _ us hl => match us, hl with | [_], _ => rfl), F.kp, m⟩
  · obtain ⟨wl, rfl, _⟩ := h; rfl
  obtain ⟨wl, rfl, hw, hT, q⟩ := h
  refine ⟨_, (pss_cons (ps_par (i := 1) (j := 2) (by rfl) sc_law_great_right.nd rfl rfl (by decide) rfl rfl (pa_cons (pe_calC C_law_draw (hr.mono (by first | decide | omega)) pass0 (pa_cons (pv 0) (pa_cons pe_int pa_nil))) (pa_cons (pe_calC C_law_draw (hr.mono (by first | decide | omega)) pass0 (pa_cons (pv 0) (pa_cons pe_int pa_nil))) pa_nil)) (by rfl))
  (pss_gen (I := G1 PT wl) (pss_cons (ps_setLc (i := 3) (own := [("k", 4)]) (g := gName 4) (tt := tYes) (by rfl) sc_law_great_right.nd rfl rfl (sw_true rfl rfl rfl (by decide +kernel)) (pi_range1 (by rfl) T.z_range (pa_cons pe_int pa_nil)) (blkOk_by (own := [("k", 4)]) (N := ["well", "one", "two", "sizes", "k", "pair", "x", "y"]) (sc := defScope s_law_great_right) (by decide +kernel)) (fun _ _ _ _ _ => (pg_name (i := 4) sc_law_great_right.nd rfl (by first | exact Or.inl rfl | exact Or.inr rfl))) (fun _ _ _ _ _ => pts_nil) (fun _ _ _ _ _ => (pe_op (r := rAddB K) op_addB pe_int (pe_calC C_law_draw (hr.mono (by first | decide | omega)) pass0 (pa_cons (pv 0) (pa_cons pe_int pa_nil))))))
  (pss_gen (I := G2 PT wl (fun _ _ ns => ∀ n ∈ ns, 2 ≤ n ∧ n ≤ 61)) (pss_cons (ps_asg (pe_calC C_law_one (hr.mono (by first | decide | omega)) pass0 (pa_cons (pv 0) (pa_cons (pe_lst (pa_cons (pe_op op_addA pe_int (pe_calC C_law_draw (hr.mono (by first | decide | omega)) pass0 (pa_cons (pv 0) (pa_cons pe_int pa_nil)))) (pa_cons pe_int (pa_cons pe_int pa_nil)))) pa_nil))) (pg_sub (pv 3) (pv 1) set_list))
  (pss_gen (I := G2 PT wl (fun i j ns => ∀ l, l < 8 → l ≠ i → sOf (ns.map .int) l ≤ 61)) (pss_cons (ps_if (pt_cmpR (op_neA (room200 hr)) (pe_calC C_worths (hr.mono (by first | decide | omega)) passL (pa_cons (pe_tup (pa_cons pe_str (pa_cons (pv 1) pa_nil))) (pa_cons (pv 3) pa_nil))) (pe_listRg rfl (by rfl) T.z_list (prg_1 (by rfl) T.z_range (pe_ix ix_B (pv 3) (pv 1) (fun _ _ => rfl)))) (nomark _))
   (pss_one (ps_ret pe_bl))
   pss_nil)
  (pss_gen (I := G2 PT wl (fun i j ns => ∀ l, l < 8 → l ≠ i → sOf (ns.map .int) l ≤ 61)) (pss_cons (ps_if (pt_cmpR op_gt (pe_ix ix_B (pv 3) (pv 1) (fun _ _ => rfl)) pe_int (nomark _))
   (pss_one (ps_asg pe_int (pg_sub (pv 3) (pv 1) set_list)))
   pss_nil)
  (pss_gen (I := G2 PT wl (fun i j ns => ∀ l, l < 8 → sOf (ns.map .int) l ≤ 70)) (pss_cons (ps_set (i := 5) sc_law_great_right.nd rfl (by first | exact Or.inl rfl | exact Or.inr rfl) (pe_lst pa_nil))
  (pss_cons (ps_for PassesOwn.never rfl (pi_range1 (by rfl) T.z_range (pa_cons (pe_ix ix_B (pv 3) (pv 1) (fun _ _ => rfl)) pa_nil)) (pg_name (i := 6) sc_law_great_right.nd rfl (by first | exact Or.inl rfl | exact Or.inr rfl))
   (pss_one (ps_set (i := 5) sc_law_great_right.nd rfl (by first | exact Or.inl rfl | exact Or.inr rfl) (pe_op op_addA (pv 5) (pe_lc (own := [("y", 7)]) (g := gName 7) (tt := tYes) (by rfl) sc_law_great_right.nd (pi_range1 (by rfl) T.z_range (pa_cons (pe_ix ix_B (pv 3) (pv 2) (fun _ _ => rfl)) pa_nil)) (blkOk_by (own := [("y", 7)]) (N := ["well", "one", "two", "sizes", "k", "pair", "x", "y"]) (sc := defScope s_law_great_right) (by decide +kernel)) (fun _ _ _ _ _ => (pg_name (i := 7) sc_law_great_right.nd rfl (by first | exact Or.inl rfl | exact Or.inr rfl))) (fun _ _ _ _ _ => pts_nil) (fun _ _ _ _ _ => (pe_tup (pa_cons (pv 6) (pa_cons (pv 7) pa_nil)))))))))
  (pss_gen (I := G7 K PT wl) (pss_cons (ps_if (PW.pt (pw_or (pt_cmpR op_gt (pe_calC C_law_draw (hr.mono (by first | decide | omega)) pass0 (pa_cons (pv 0) (pa_cons pe_int pa_nil))) pe_int (nomark _)) (pw_or1 (pt_cmpR op_gt (pe_callB call_len (by rfl) T.z_len (by decide +kernel) (pa_cons (pv 5) pa_nil)) pe_int (nomark _)))))
   (pss_one (ps_ret pe_bl))
   pss_nil)
  (pss_gen (I := G7 K PT wl) (pss_cons (ps_if (pt_cmpR (op_neA (room200 hr)) (pe_calC C_worths (hr.mono (by first | decide | omega)) passL (pa_cons (pe_tup (pa_cons pe_str (pa_cons (pe_tup (pa_cons pe_str (pa_cons (pv 1) pa_nil))) (pa_cons (pe_tup (pa_cons pe_str (pa_cons (pv 2) pa_nil))) pa_nil)))) (pa_cons (pv 3) pa_nil))) (pv 5) (nomark _))
   (pss_one (ps_ret pe_bl))
   pss_nil)
  (pss_gen (I := G2 PT wl (fun i j ns => ∀ l, l < 8 → sOf (ns.map .int) l ≤ 70)) (pss_one (ps_ret (pe_cmpR (op_eqA (room200 hr)) (pe_calC C_worths (hr.mono (by first | decide | omega)) passL (pa_cons (pe_tup (pa_cons pe_str (pa_cons (pe_tup (pa_cons pe_str (pa_cons (pe_tup (pa_cons pe_str pa_nil)) (pa_cons (pe_tup (pa_cons pe_str (pa_cons (pv 2) pa_nil))) pa_nil)))) (pa_cons (pe_tup (pa_cons pe_str pa_nil)) pa_nil)))) (pa_cons (pv 3) pa_nil))) (pe_lst (pa_cons (pe_op op_repTA (pe_tup (pa_cons (pe_tup pa_nil) pa_nil)) (pe_ix ix_B (pv 3) (pv 2) (fun _ _ => rfl))) pa_nil)) (nomark _)))) ?i9)) ?i8)) ?i7))) ?i5)) ?i4)) ?i3)) ?i2)) ?i1)), ?first⟩
  case i1 =>
    rintro D σ H1 ⟨H0, i, j, o3, o4, o5, o6, o7, rfl, hi, hj, nP, aft, t0, q⟩
    have w1 := aft.well
    refine ⟨8, rfl, by decide, by decide, fun D2 hD => ?_⟩
    have hDw := w1.ne hD
    refine lc_range (lo := 0) (n := 8) (ScG wl D2 H1) ⟨[], upd_same, rfl, (fun n h => by cases h), (Aft.refl w1).new hD _⟩ ?_ ?_
    · rintro l H7 hl ⟨ns, e7, l7, h7, a7⟩
      refine ⟨rfl, _, rfl, wl, 60, rfl, a7.well, by decide, by decide, fun d H8 d0 d1 a8 => .inl (.inl ⟨_, _, rfl, rfl, _, a8.at_ hDw e7, fits_lt (by rw [List.length_map]; omega), ?_⟩)⟩
      have a9 := a7.trans a8
      refine ⟨ns ++ [2 + d], by rw [upd_same, List.map_append]; rfl, by rw [List.length_append, l7]; rfl, fun n hn => ?_, a9.setl hD hDw _⟩
      rcases List.mem_append.mp hn with hn | hn
      · exact h7 n hn
      · have e : n = 2 + d := by simpa using hn
        omega
    rintro H3 ⟨ns, e3, l8, hb, a3⟩
    have a03 := aft.trans a3
    exact ⟨H0, i, j, D2, ns, _, _, _, _, rfl, hi, hj, ⟨KW.AftT.of_aft a03 (a03.tab nP t0), a3.well, hDw, aft_none aft hD, e3, l8, fun n hn => by have := hb n hn; omega⟩, hb, q⟩
  case i2 =>
    rintro D σ H1 ⟨H0, i, j, sa, ns, o4, o5, o6, o7, rfl, hi, hj, S, hb, q⟩
    refine ⟨_, rfl, _, rfl, wl, 9, rfl, S.well, by decide, by decide, fun d H2 d0 d1 a2 => .inl ⟨_, _, rfl, rfl, (by show 3 ≤ sizeLine; decide), fun pl hpl => ?_⟩⟩
    have S2 := S.draw a2
    have S3 := S2.same (same_new hpl (.lst [.int (11 + d), .int 70, .int 999]))
    refine ⟨wl, pl, _, rfl, S3.well, upd_same, S2.well.ne hpl, by simp, by show (3 : Nat) < 1073741824; decide, fun v hv H4 a4 => ?_⟩
    have S4 := S3.draw a4
    obtain ⟨n, rfl, n1, n9⟩ : ∃ n : Int, v = .int n ∧ 1 ≤ n ∧ n ≤ 999 := by
      simp only [List.mem_cons, List.not_mem_nil, or_false] at hv
      rcases hv with rfl | rfl | rfl
      · exact ⟨11 + d, rfl, by omega, by omega⟩
      · exact ⟨70, rfl, by decide, by decide⟩
      · exact ⟨999, rfl, by decide, by decide⟩
    refine ⟨_, rfl, _, rfl, sa, _, _, i, rfl, rfl, S4.es, ixN_at (by rw [List.length_map, S.l8]; exact hi), ?_⟩
    have em : (ns.map V.int).set i (.int n) = (ns.set i n).map V.int := (List.map_set).symm
    rw [em]
    refine ⟨H0, i, j, sa, ns.set i n, _, _, _, _, rfl, hi, hj, S4.put (by rw [List.length_set]; exact S.l8) (set_bd S.bd ⟨n1, n9⟩), fun l hl nl => ?_, q⟩
    rw [set_sOf S.l8 nl]
    exact sOf_le S.l8 hl fun m hm => by have := hb m hm; omega
  case i3 =>
    rintro D σ H1 ⟨H0, i, j, sa, ns, o4, o5, o6, o7, rfl, hi, hj, S, hb, q⟩
    have bi := sOf_ints (B := 999) (by decide) S.l8 S.bd i
    refine ⟨_, rfl, (by show 2 ≤ sizeLine; decide), fun p1 h1 => ⟨_, rfl, ?_⟩⟩
    have S1 := S.same (same_new h1 (.tup [.str "base", .int (i : Nat)]))
    have dk : Dq K (upd H1 p1 (.tup [.str "base", .int (i : Nat)])) (.ref p1) (Kd.b i).dat := .tup (.of upd_same) (.cons (.str _) (.cons (.int _) .nil))
    generalize upd H1 p1 (.tup [.str "base", .int (i : Nat)]) = H2 at S1 dk ⊢
    dsimp only [tNil]
    refine worths_q dk hi (by show 1 ≤ 100; decide) (by show 1 < 100; decide) (.lst (.of S1.es) (dq_ints ns)) S.l8 S.bd (by show sOf _ i ≤ 5000; omega) (by show 0 ≤ 5000; decide) S1.tab fun us p2 H3 st3 nw e3 d3 => ?_
    have S3 := S1.stay st3
    have ha : (ns.map V.int)[i]? = some (.int (sOf (ns.map .int) i : Nat)) := by rw [List.getElem?_map, sOf_at S.l8 S.bd i hi]; rfl
    refine ⟨_, rfl, _, rfl, ixL (j := i) (.of S3.es) ha ⟨_, rfl, RgOk.of_le (by omega) (by omega) (by omega) (by omega), fun p4 h4 => ?_⟩⟩
    have s4 := same_new h4 (.lst (rgV 0 ((sOf (ns.map .int) i : Nat) : Int)))
    have lay := lays_of fun d hd => (Kd.wl_lay (s := sOf (ns.map .int)) (Kd.b i) d hd).1
    have dps := deps_of fun d hd => (Kd.wl_lay (s := sOf (ns.map .int)) (Kd.b i) d hd).2
    refine ne_same (s4 _ _ e3) ((d3.same (out_sub p2 H3)).same s4) upd_same (dq_range _) lay (Nat.le_trans dps (by show 1 ≤ 180; decide)) ⟨_, rfl, iteF' rfl ?_⟩
    exact ⟨H0, i, j, sa, ns, _, _, _, _, rfl, hi, hj, S3.same s4, hb, q⟩
  case i4 =>
    rintro D σ H1 ⟨H0, i, j, sa, ns, o4, o5, o6, o7, rfl, hi, hj, S, hb, q⟩
    have ha : (ns.map V.int)[i]? = some (.int (sOf (ns.map .int) i : Nat)) := by rw [List.getElem?_map, sOf_at S.l8 S.bd i hi]; rfl
    refine ⟨_, rfl, _, rfl, ixL (j := i) (.of S.es) ha ⟨_, _, rfl, rfl, _, rfl, ite2 (fun c => ?_) (fun c => ?_)⟩⟩
    · refine ⟨_, rfl, _, rfl, sa, _, _, i, rfl, rfl, S.es, ixN_at (by rw [List.length_map, S.l8]; exact hi), ?_⟩
      have em : (ns.map V.int).set i (.int 20) = (ns.set i 20).map V.int := (List.map_set).symm
      rw [em]
      refine ⟨H0, i, j, sa, ns.set i 20, _, _, _, _, rfl, hi, hj, S.put (by rw [List.length_set]; exact S.l8) (set_bd S.bd ⟨by decide, by decide⟩), fun l hl => ?_, q⟩
      by_cases nl : l = i
      · rw [nl, set_sOf_at S.l8 hi]; decide
      · rw [set_sOf S.l8 nl]
        have := hb l hl nl
        omega
    · have c' : ¬ (70 : Int) < ((sOf (ns.map .int) i : Nat) : Int) := fun z => c (decide_eq_true z)
      refine ⟨H0, i, j, sa, ns, _, _, _, _, rfl, hi, hj, S, fun l hl => ?_, q⟩
      by_cases nl : l = i
      · rw [nl]; omega
      · have := hb l hl nl
        omega
  case i5 =>
    rintro D σ H1 ⟨H0, i, j, sa, ns, o4, o5, o6, o7, rfl, hi, hj, S, hb, q⟩
    have bi := hb i hi
    have bj := hb j hj
    have ha : (ns.map V.int)[i]? = some (.int (sOf (ns.map .int) i : Nat)) := by rw [List.getElem?_map, sOf_at S.l8 S.bd i hi]; rfl
    have hc : (ns.map V.int)[j]? = some (.int (sOf (ns.map .int) j : Nat)) := by rw [List.getElem?_map, sOf_at S.l8 S.bd j hj]; rfl
    refine ⟨Nat.zero_le _, fun r0 h0 => ?_⟩
    have S0 := S.same (same_new h0 (.lst []))
    have er0 := upd_same (H := H1) (a := r0) (o := .lst [])
    have nr0 := S.well.ne h0
    generalize upd H1 r0 (.lst []) = H2 at S0 er0 ⊢
    refine ⟨_, rfl, _, rfl, ixL (j := i) (.of S0.es) ha ⟨_, rfl, by omega, by omega, ?_⟩⟩
    refine for_range (n := sOf (ns.map .int) i) (fun l => PrW K wl sa i j o4 H2 ((((Kd.b i).wl (sOf (ns.map .int))).take l).flatMap fun c => ((Kd.b j).wl (sOf (ns.map .int))).map fun d => .tuple [c, d])) ⟨r0, [], _, _, rfl, er0, nr0, .nil, Same.refl _⟩ ?_ ?_
    · rintro l σ H4 hl ⟨r, us, o6, o7, rfl, er, nr, dr, s4⟩
      have S4 := S0.same s4
      have lr := dr.length
      have lb : ((Kd.b j).wl (sOf (ns.map .int))).length = sOf (ns.map .int) j := by show ((List.range _).map _).length = _; simp
      have lr5 : us.length ≤ 5000 := by
        rw [lr, flat_length (f := fun c d => PyData.tuple [c, d]), lb]
        have := List.length_take_le l ((Kd.b i).wl (sOf (ns.map .int)))
        exact Nat.le_trans (Nat.mul_le_mul (show _ ≤ 70 by omega) bj) (by decide)
      refine ⟨_, rfl, _, rfl, _, rfl, ixL (j := j) (.of S4.es) hc ⟨_, rfl, by omega, by omega, fun D2 hD => ?_⟩⟩
      refine lc_range (lo := 0) (n := sOf (ns.map .int) j) (fun n => Pr2 K D2 H4 ((((Kd.b j).wl (sOf (ns.map .int))).take n).map fun d => PyData.tuple [.int (l : Nat), d])) (Pr2.start hD) ?_ ?_
      · rintro n H5 hn ⟨acc, ea, da, s5⟩
        have la := da.length
        rw [List.length_map] at la
        have := List.length_take_le n ((Kd.b j).wl (sOf (ns.map .int)))
        refine ⟨rfl, _, rfl, _, rfl, (by show 2 ≤ sizeLine; decide), fun tt htt => ?_⟩
        have s6 := same_new htt (.tup [.int (0 + ((l : Nat) : Int)), .int (0 + ((n : Nat) : Int))])
        refine ⟨acc, s6 _ _ ea, fits_lt (by omega), ?_⟩
        rw [take_succ (wl_bAt hn), List.map_append]
        refine Pr2.put hD ea da s5 s6 (.tup (.of upd_same) (.cons ?_ (.cons ?_ .nil))) (by simp [pureT, pureTs])
        · simp only [Int.zero_add]; exact .int _
        · simp only [Int.zero_add]; exact .int _
      · rintro H5 ⟨acc, ea, da, s5⟩
        rw [List.take_of_length_le (by rw [lb]; exact Nat.le_refl _)] at da
        have la := da.length
        rw [List.length_map, lb] at la
        refine .inr (.inr (.inl ⟨r, D2, us, acc, rfl, rfl, s5 _ _ er, ea, fits (by omega), fun pn hpn => ?_⟩))
        have s6 := s5.trans (same_new hpn (.lst (us ++ acc)))
        refine ⟨pn, us ++ acc, _, _, rfl, upd_same, ((S4.same s5).well).ne hpn, ?_, s4.trans s6⟩
        rw [flat_take (wl_bAt hl)]
        exact (dr.same s6).append ((da.same (out_sub D2 H5)).same (same_new hpn _))
    · rintro σ H4 ⟨r, us, o6, o7, rfl, er, nr, dr, s4⟩
      have la : ((Kd.b i).wl (sOf (ns.map .int))).length = sOf (ns.map .int) i := by show ((List.range _).map _).length = _; simp
      rw [List.take_of_length_le (by rw [la]; exact Nat.le_refl _)] at dr
      obtain ⟨x, y, z, ew⟩ := (S0.same s4).well
      exact ⟨H0, i, j, sa, r, ns, us, _, _, _, rfl, hi, hj, S0.same s4, hb, out_at nr er, DqAll.outp ew (pures_of fun d hd => Kd.wl_pure (.p (.b i) (.b j)) d hd) dr, q⟩
  case i7 =>
    rintro D σ H1 ⟨H0, i, j, sa, pr, ns, us, o4, o6, o7, rfl, hi, hj, S, hb, ep, dp, q⟩
    refine ⟨_, rfl, wl, 3, rfl, S.well, by decide, by decide, fun d H2 d0 d1 a2 => ⟨_, _, rfl, rfl, _, rfl, ?_⟩⟩
    have S2 := S.draw a2
    have ep2 := a2.but _ _ ep
    refine ite2 (fun c => iteT' rfl (q _ S2.aft S2.well)) (fun c => ?_)
    refine ⟨_, rfl, _, _, rfl, .inl ⟨_, .of (out_some ep2).2, rfl⟩, _, _, rfl, rfl, _, rfl, ite2 (fun c => q _ S2.aft S2.well) (fun c => ?_)⟩
    exact ⟨H0, i, j, sa, pr, ns, us, _, _, _, rfl, hi, hj, S2, hb, ep2, dp.same a2.but, q⟩
  case i8 =>
    rintro D σ H1 ⟨H0, i, j, sa, pr, ns, us, o4, o6, o7, rfl, hi, hj, S, hb, ep, dp, q⟩
    have bi := hb i hi
    have bj := hb j hj
    refine ⟨_, rfl, (by show 2 ≤ sizeLine; decide), fun p1 h1 => ⟨_, rfl, (by show 2 ≤ sizeLine; decide), fun p2 h2 => ⟨(by show 3 ≤ sizeLine; decide), fun p3 h3 => ?_⟩⟩⟩
    have n1 := same_new h1 (.tup [.str "base", .int (i : Nat)])
    have n2 := same_new h2 (.tup [.str "base", .int (j : Nat)])
    have n3 := same_new h3 (.tup [.str "both", .ref p1, .ref p2])
    have dk1 : Dq K (upd H1 p1 (.tup [.str "base", .int (i : Nat)])) (.ref p1) (Kd.b i).dat := .tup (.of upd_same) (.cons (.str _) (.cons (.int _) .nil))
    have dk2 : Dq K (upd (upd H1 p1 (.tup [.str "base", .int (i : Nat)])) p2 (.tup [.str "base", .int (j : Nat)])) (.ref p2) (Kd.b j).dat := .tup (.of upd_same) (.cons (.str _) (.cons (.int _) .nil))
    have dk3 : Dq K (upd (upd (upd H1 p1 (.tup [.str "base", .int (i : Nat)])) p2 (.tup [.str "base", .int (j : Nat)])) p3 (.tup [.str "both", .ref p1, .ref p2])) (.ref p3) (Kd.p (.b i) (.b j)).dat := .tup (.of upd_same) (.cons (.str _) (.cons (dk1.same (n2.trans n3)) (.cons (dk2.same n3) .nil)))
    have s3 := n1.trans (n2.trans n3)
    generalize upd (upd (upd H1 p1 (.tup [.str "base", .int (i : Nat)])) p2 (.tup [.str "base", .int (j : Nat)])) p3 (.tup [.str "both", .ref p1, .ref p2]) = H4 at dk3 s3 ⊢
    have S4 := S.same s3
    have mij : sOf (ns.map .int) i * sOf (ns.map .int) j ≤ 70 * 70 := Nat.mul_le_mul bi bj
    refine ⟨_, rfl, ?_⟩
    dsimp only [tNil]
    refine worths_q dk3 (And.intro hi hj) (by show 2 ≤ 100; decide) (by show 2 < 100; decide) (.lst (.of S4.es) (dq_ints ns)) S.l8 S.bd (by show min (sOf _ i * sOf _ j) tooGreat ≤ 5000; omega) (by show max 0 0 ≤ 5000; decide) S4.tab fun us2 p4 H5 st5 nw e5 d5 => ?_
    have S5 := S4.stay st5
    have lay := lays_of fun d hd => (Kd.wl_lay (s := sOf (ns.map .int)) (Kd.p (.b i) (.b j)) d hd).1
    have dps := deps_of fun d hd => (Kd.wl_lay (s := sOf (ns.map .int)) (Kd.p (.b i) (.b j)) d hd).2
    refine ⟨_, rfl, ne_same e5 (d5.same (out_sub p4 H5)) (st5.at_ (s3 _ _ (out_some ep).2)) (st5.dqs ((dp.same (out_sub wl H1)).same s3)) lay (Nat.le_trans dps (by show 2 ≤ 180; decide)) ⟨_, rfl, iteF' rfl ?_⟩⟩
    exact ⟨H0, i, j, sa, ns, _, _, _, _, rfl, hi, hj, S5, hb, q⟩
  case i9 =>
    rintro D σ H1 ⟨H0, i, j, sa, ns, o4, o5, o6, o7, rfl, hi, hj, S, hb, q⟩
    have bj := hb j hj
    have b1 := (sOf_ints (B := 999) (by decide) S.l8 S.bd j).1
    have hc : (ns.map V.int)[j]? = some (.int (sOf (ns.map .int) j : Nat)) := by rw [List.getElem?_map, sOf_at S.l8 S.bd j hj]; rfl
    refine ⟨(by show 1 ≤ sizeLine; decide), fun p1 h1 => ⟨_, rfl, (by show 2 ≤ sizeLine; decide), fun p2 h2 => ⟨(by show 3 ≤ sizeLine; decide), fun p3 h3 => ⟨(by show 1 ≤ sizeLine; decide), fun p4 h4 => ⟨(by show 3 ≤ sizeLine; decide), fun p5 h5 => ?_⟩⟩⟩⟩⟩
    have n1 := same_new h1 (.tup [.str "unit"])
    have n2 := same_new h2 (.tup [.str "base", .int (j : Nat)])
    have n3 := same_new h3 (.tup [.str "both", .ref p1, .ref p2])
    have n4 := same_new h4 (.tup [.str "unit"])
    have n5 := same_new h5 (.tup [.str "from", .ref p3, .ref p4])
    have dk1 : Dq K (upd H1 p1 (.tup [.str "unit"])) (.ref p1) Kd.u.dat := unit_at upd_same
    generalize upd H1 p1 (.tup [.str "unit"]) = X1 at n1 n2 n3 n4 n5 dk1 h2 h3 h4 h5 ⊢
    have dk2 : Dq K (upd X1 p2 (.tup [.str "base", .int (j : Nat)])) (.ref p2) (Kd.b j).dat := .tup (.of upd_same) (.cons (.str _) (.cons (.int _) .nil))
    generalize upd X1 p2 (.tup [.str "base", .int (j : Nat)]) = X2 at n2 n3 n4 n5 dk2 h3 h4 h5 ⊢
    have dk3 : Dq K (upd X2 p3 (.tup [.str "both", .ref p1, .ref p2])) (.ref p3) (Kd.p .u (.b j)).dat := .tup (.of upd_same) (.cons (.str _) (.cons (dk1.same (n2.trans n3)) (.cons (dk2.same n3) .nil)))
    generalize upd X2 p3 (.tup [.str "both", .ref p1, .ref p2]) = X3 at n3 n4 n5 dk3 h4 h5 ⊢
    have dk4 : Dq K (upd X3 p4 (.tup [.str "unit"])) (.ref p4) Kd.u.dat := unit_at upd_same
    generalize upd X3 p4 (.tup [.str "unit"]) = X4 at n4 n5 dk4 h5 ⊢
    have dk5 : Dq K (upd X4 p5 (.tup [.str "from", .ref p3, .ref p4])) (.ref p5) (Kd.f (.p .u (.b j)) .u).dat := .tup (.of upd_same) (.cons (.str _) (.cons (dk3.same (n4.trans n5)) (.cons (dk4.same n5) .nil)))
    generalize upd X4 p5 (.tup [.str "from", .ref p3, .ref p4]) = X5 at n5 dk5 ⊢
    have S5 := S.same (n1.trans (n2.trans (n3.trans (n4.trans n5))))
    have tg : 5000 < tooGreat := by decide +kernel
    have eu : (Kd.p .u (.b j)).num (sOf (ns.map .int)) = sOf (ns.map .int) j := by
      show min (1 * sOf (ns.map .int) j) tooGreat = _
      omega
    have ew : (Kd.f (.p .u (.b j)) .u).wl (sOf (ns.map .int)) = [.tuple (List.replicate (sOf (ns.map .int) j) (.tuple []))] := by
      show (rowsN [.tuple []] ((Kd.p .u (.b j)).num (sOf (ns.map .int)))).map PyData.tuple = _
      rw [eu, rowsN_one]; rfl
    refine ⟨_, rfl, ?_⟩
    dsimp only [tNil]
    refine worths_q dk5 (And.intro (And.intro trivial hj) trivial) (by show 3 ≤ 100; decide) (by show 3 < 100; decide) (.lst (.of S5.es) (dq_ints ns)) S.l8 S.bd (by show min (1 ^ _) tooGreat ≤ 5000; rw [Nat.one_pow]; omega) (by show max (max (max 0 0) 0) ((Kd.p .u (.b j)).num _) ≤ 5000; rw [eu]; omega) S5.tab fun us p6 H6 st6 nw e6 d6 => ?_
    have S6 := S5.stay st6
    have d6 := d6.same (out_sub p6 H6)
    have lay := lays_of fun d hd => (Kd.wl_lay (s := sOf (ns.map .int)) (Kd.f (.p .u (.b j)) .u) d hd).1
    have dps := deps_of fun d hd => (Kd.wl_lay (s := sOf (ns.map .int)) (Kd.f (.p .u (.b j)) .u) d hd).2
    have dp3 : PyData.depthAll ((Kd.f (.p .u (.b j)) .u).wl (sOf (ns.map .int))) ≤ 180 := Nat.le_trans dps (by show 3 ≤ 180; decide)
    refine ⟨Nat.zero_le _, fun t0 h0 => ⟨(by show 1 ≤ sizeLine; decide), fun t1 h1 => ?_⟩⟩
    have m0 := same_new h0 (.tup [])
    have y0 := upd_same (H := H6) (a := t0) (o := .tup [])
    generalize upd H6 t0 (.tup []) = X6 at m0 y0 h1 ⊢
    have m1 := same_new h1 (.tup [.ref t0])
    have y1 := upd_same (H := X6) (a := t1) (o := .tup [.ref t0])
    generalize upd X6 t1 (.tup [.ref t0]) = X7 at m1 y1 ⊢
    have S7 := (S6.same m0).same m1
    have y0 := m1 _ _ y0
    refine ⟨_, rfl, _, rfl, ixL (j := j) (.of S7.es) hc ?_⟩
    by_cases k1 : sOf (ns.map .int) j = 1
    · refine .inl ⟨t1, [.ref t0], rfl, by rw [k1]; rfl, .of y1, (by show 1 ≤ sizeLine; decide), fun p8 h8 => ?_⟩
      have m8 := same_new h8 (.lst [.ref t1])
      have m68 := (m0.trans m1).trans m8
      refine eq_same (m68 _ _ e6) (d6.same m68) upd_same ?_ lay dp3 (q _ (S7.same m8).aft (S7.same m8).well)
      rw [ew, k1]
      exact .cons (.tup (.of (m8 _ _ y1)) (.cons (.tup (.of (m8 _ _ y0)) .nil) .nil)) .nil
    · refine .inr ⟨t1, _, [.ref t0], rfl, rfl, .of y1, by simp, by omega, by simp; omega, fun pt hpt => ⟨(by show 1 ≤ sizeLine; decide), fun p8 h8 => ?_⟩⟩
      rw [Int.toNat_natCast, rep_flat] at h8 ⊢
      have m7 := same_new hpt (.tup (List.replicate (sOf (ns.map .int) j) (V.ref t0)))
      have y7 := upd_same (H := X7) (a := pt) (o := .tup (List.replicate (sOf (ns.map .int) j) (V.ref t0)))
      generalize upd X7 pt (.tup (List.replicate (sOf (ns.map .int) j) (V.ref t0))) = X8 at m7 y7 h8 ⊢
      have m8 := same_new h8 (.lst [.ref pt])
      have m68 := ((m0.trans m1).trans m7).trans m8
      have S8 := (S7.same m7).same m8
      refine eq_same (m68 _ _ e6) (d6.same m68) upd_same ?_ lay dp3 (q _ S8.aft S8.well)
      rw [ew]
      exact .cons (.tup (.of (m8 _ _ y7)) (rep_dq (.tup (.of (m8 _ _ (m7 _ _ y0))) .nil) _)) .nil
  case first =>
    have nP := hw.notab hT
    refine ⟨_, rfl, wl, 8, rfl, hw, by decide, by decide, fun d1 H1 d10 d18 a1 => ⟨_, rfl, wl, 8, rfl, a1.well, by decide, by decide, fun d2 H2 d20 d28 a2 => ⟨_, _, rfl, ?_⟩⟩⟩
    obtain ⟨i, rfl⟩ := Int.eq_ofNat_of_zero_le d10
    obtain ⟨j, rfl⟩ := Int.eq_ofNat_of_zero_le d20
    exact ⟨H, i, j, _, _, _, _, _, rfl, by omega, by omega, nP, a1.trans a2, hT, q⟩
end

/-! ## kinds of many parts within one another -/
def ns8 : List Int := [1, 2, 1, 3, 1, 1, 1, 1]
def s8 : Nat → Nat := sOf (ns8.map .int)
/-- a kind of three worths, of so many parts at most -/
structure Dp3 (k : Kd) (n : Nat) : Prop where
  ok : k.ok
  lv : k.leaves ≤ 1 + n
  dp : k.deep ≤ 1 + n
  num : k.num s8 = 3
  took : k.took s8 ≤ 1
theorem few3 : min 3 tooGreat = 3 := Nat.min_eq_left (Nat.le_trans (by decide) (show 5000 ≤ tooGreat by decide +kernel))
theorem Dp3.fu {k : Kd} {n : Nat} (h : Dp3 k n) : Dp3 (.f .u k) (n + 1) := by
  refine ⟨And.intro trivial h.ok, by have := h.lv; simp only [Kd.leaves]; omega, by have := h.dp; simp only [Kd.deep]; omega, ?_, ?_⟩
  · show min (k.num s8 ^ 1) tooGreat = 3
    rw [h.num]; exact few3
  · have := h.took
    show max (max 0 (k.took s8)) 1 ≤ 1
    omega
theorem Dp3.pu {k : Kd} {n : Nat} (h : Dp3 k n) : Dp3 (.p .u k) (n + 1) := by
  refine ⟨And.intro trivial h.ok, by have := h.lv; simp only [Kd.leaves]; omega, by have := h.dp; simp only [Kd.deep]; omega, ?_, ?_⟩
  · show min (1 * k.num s8) tooGreat = 3
    rw [h.num]; exact few3
  · have := h.took
    show max 0 (k.took s8) ≤ 1
    omega
theorem Dp3.up {k : Kd} {n : Nat} (h : Dp3 k n) : Dp3 (.p k .u) (n + 1) := by
  refine ⟨And.intro h.ok trivial, by have := h.lv; simp only [Kd.leaves]; omega, by have := h.dp; simp only [Kd.deep]; omega, ?_, ?_⟩
  · show min (k.num s8 * 1) tooGreat = 3
    rw [h.num]; exact few3
  · have := h.took
    show max (k.took s8) 0 ≤ 1
    omega
theorem wl_fu (k : Kd) : (Kd.f .u k).wl s8 = (k.wl s8).map fun d => PyData.tuple [d] := by
  show (rowsN (k.wl s8) 1).map PyData.tuple = _
  simp [rowsN]
theorem wl_pu (k : Kd) : (Kd.p .u k).wl s8 = (k.wl s8).map fun d => PyData.tuple [.tuple [], d] := by
  show ([PyData.tuple []].flatMap fun c => (k.wl s8).map fun d => PyData.tuple [c, d]) = _
  simp
theorem wl_up (k : Kd) : (Kd.p k .u).wl s8 = (k.wl s8).map fun d => PyData.tuple [d, .tuple []] := by
  show ((k.wl s8).flatMap fun c => [PyData.tuple []].map fun d => PyData.tuple [c, d]) = _
  induction k.wl s8 with
  | nil => rfl
  | cons a r ih => rw [List.flatMap_cons, ih]; rfl
theorem Dp3.few {k : Kd} {n : Nat} (h : Dp3 k n) : (k.wl s8).length = 3 := by
  show (k.wl (sOf (ns8.map .int))).length = 3
  rw [Kd.wl_length (sOf_ints (B := 999) (by decide) rfl (by decide)) k (by rw [show k.num (sOf (ns8.map .int)) = 3 from h.num]; exact Nat.lt_of_lt_of_le (by decide) (show 5000 ≤ tooGreat by decide +kernel))]
  exact h.num
def spDeep (PT : Addr) : Sp := fun vs H Q _ => ∃ (wl : Addr), vs = [.ref wl] ∧ Well H wl ∧ GxR.TabG H PT ∧ ∀ H', AftT wl PT H H' → Well H' wl → Q (.bl true) H'
abbrev s_law_deep_right : Stmt := top 38
theorem sc_law_deep_right : FnScope ["well", "kind", "some", "k", "way", "thing"] ["well"] (defScope s_law_deep_right) := ⟨rfl, rfl, rfl, by decide +kernel, rfl, by decide +kernel, by decide +kernel⟩
def DpW (K : PySem.W.Frag) (wl : Addr) (H0 : Hp) (n : Nat) (σ : L2.St) (H' : Hp) : Prop :=
  ∃ (v : V) (k : Kd) (p : Addr) (us : List V) (o3 o4 o5 : Option V), σ = [some (.ref wl), some v, some (.ref p), o3, o4, o5] ∧ Dq K (out wl H') v k.dat ∧ Dp3 k n ∧ out wl H' p = some (.lst us) ∧ DqAll K (out wl H') us (k.wl s8) ∧ Aft wl H0 H'
theorem aft_same {w : Addr} {H H1 H2 : Hp} (a : Aft w H H1) (s : Same H1 H2) : Aft w H H2 := by
  obtain ⟨x, y, z, e⟩ := a.well
  exact ⟨⟨x, y, z, s _ _ e⟩, a.but.trans (out_same s)⟩
/-- a turn's end -/
theorem DpW.mk_ {K : PySem.W.Frag} {wl D : Addr} {H0 H5 H6 H7 : Hp} {n : Nat} {v : V} {k : Kd} {data : List PyData} {σ : L2.St} (a : Aft wl H0 H5) (s : Same H5 H6) (hD : H6 D = none) (dv : Dq K H6 v k.dat) (d3 : Dp3 k n) (pr : Pr2 K D H6 data H7) (e : data = k.wl s8) (o3 o4 o5 : Option V) (es : σ = [some (.ref wl), some v, some (.ref D), o3, o4, o5]) : DpW K wl H0 n σ H7 := by
  obtain ⟨acc, ea, da, s7⟩ := pr
  have a7 := aft_same a (s.trans s7)
  obtain ⟨x, y, z, ew⟩ := a7.well
  have nD : D ≠ wl := (aft_same a s).well.ne hD
  subst e
  exact ⟨v, k, D, acc, o3, o4, o5, es, Dq.outp ew k.pure (dv.same s7), d3, out_at nD ea, DqAll.outp ew (pures_of fun d hd => Kd.wl_pure k d hd) (da.same (out_sub D H7)), a7⟩
section
variable {P : Program} {w : World} {K : PySem.W.Frag} {mg : Str → Option Value} {base : Heap} {CN CT CS CM : Addr}
theorem ok_deep {PT : Addr} (A : At K mg "_law_deep_right" s_law_deep_right) (T : Txt K mg w CN CT) (C_law_draw : Cal P w K mg base CX0 1 "_law_draw" ["well", "below"] spDraw) (C_worths : Cal P w K mg base (L2.CX P w) 106 "worths" ["kind", "sizes"] (spWorths K CN CS CM PT 100)) : Cal P w K mg base CX0 107 "_law_deep_right" ["well"] (spDeep PT) := by
  obtain ⟨f, fd, F, m⟩ := A
  refine ⟨f, fd, F.ok sc_law_deep_right (fun vs H Q E h => ?_) (fun cdv A outer s H vs Q E hr h => ?_), F.binds (ps := ["well"]) (fun _ _ _ _ _ _ us hl => match us, hl with | [_], _ => rfl), F.kp, m⟩
  · obtain ⟨wl, rfl, _⟩ := h; rfl
  obtain ⟨wl, rfl, hw, hT, q⟩ := h
  have nP := hw.notab hT
  refine ⟨_, (pss_cons (ps_par (i := 1) (j := 2) (by rfl) sc_law_deep_right.nd rfl rfl (by decide) rfl rfl (pa_cons (pe_tup (pa_cons pe_str (pa_cons pe_int pa_nil))) (pa_cons (pe_lst (pa_cons pe_int (pa_cons pe_int (pa_cons pe_int pa_nil)))) pa_nil)) (by rfl))
  (pss_cons (ps_for PassesOwn.never rfl (pi_range1 (by rfl) T.z_range (pa_cons (pe_op op_addA pe_int (pe_calC C_law_draw (hr.mono (by first | decide | omega)) pass0 (pa_cons (pv 0) (pa_cons pe_int pa_nil)))) pa_nil)) (pg_name (i := 3) sc_law_deep_right.nd rfl (by first | exact Or.inl rfl | exact Or.inr rfl))
   (pss_cons (ps_set (i := 4) sc_law_deep_right.nd rfl (by first | exact Or.inl rfl | exact Or.inr rfl) (pe_calC C_law_draw (hr.mono (by first | decide | omega)) pass0 (pa_cons (pv 0) (pa_cons pe_int pa_nil))))
  (pss_one (ps_if (pt_cmpR (op_eqA (room200 hr)) (pv 4) pe_int (nomark _))
   (pss_one (ps_par (i := 1) (j := 2) (by rfl) sc_law_deep_right.nd rfl rfl (by decide) rfl rfl (pa_cons (pe_tup (pa_cons pe_str (pa_cons (pe_tup (pa_cons pe_str pa_nil)) (pa_cons (pv 1) pa_nil)))) (pa_cons (pe_lc (own := [("thing", 5)]) (g := gName 5) (tt := tYes) (by rfl) sc_law_deep_right.nd (pi_list (pv 2)) (blkOk_by (own := [("thing", 5)]) (N := ["well", "kind", "some", "k", "way", "thing"]) (sc := defScope s_law_deep_right) (by decide +kernel)) (fun _ _ _ _ _ => (pg_name (i := 5) sc_law_deep_right.nd rfl (by first | exact Or.inl rfl | exact Or.inr rfl))) (fun _ _ _ _ _ => pts_nil) (fun _ _ _ _ _ => (pe_tup (pa_cons (pv 5) pa_nil)))) pa_nil)) (by rfl)))
   (pss_one (ps_if (pt_cmpR (op_eqA (room200 hr)) (pv 4) pe_int (nomark _))
   (pss_one (ps_par (i := 1) (j := 2) (by rfl) sc_law_deep_right.nd rfl rfl (by decide) rfl rfl (pa_cons (pe_tup (pa_cons pe_str (pa_cons (pe_tup (pa_cons pe_str pa_nil)) (pa_cons (pv 1) pa_nil)))) (pa_cons (pe_lc (own := [("thing", 5)]) (g := gName 5) (tt := tYes) (by rfl) sc_law_deep_right.nd (pi_list (pv 2)) (blkOk_by (own := [("thing", 5)]) (N := ["well", "kind", "some", "k", "way", "thing"]) (sc := defScope s_law_deep_right) (by decide +kernel)) (fun _ _ _ _ _ => (pg_name (i := 5) sc_law_deep_right.nd rfl (by first | exact Or.inl rfl | exact Or.inr rfl))) (fun _ _ _ _ _ => pts_nil) (fun _ _ _ _ _ => (pe_tup (pa_cons (pe_tup pa_nil) (pa_cons (pv 5) pa_nil))))) pa_nil)) (by rfl)))
   (pss_one (ps_par (i := 1) (j := 2) (by rfl) sc_law_deep_right.nd rfl rfl (by decide) rfl rfl (pa_cons (pe_tup (pa_cons pe_str (pa_cons (pv 1) (pa_cons (pe_tup (pa_cons pe_str pa_nil)) pa_nil)))) (pa_cons (pe_lc (own := [("thing", 5)]) (g := gName 5) (tt := tYes) (by rfl) sc_law_deep_right.nd (pi_list (pv 2)) (blkOk_by (own := [("thing", 5)]) (N := ["well", "kind", "some", "k", "way", "thing"]) (sc := defScope s_law_deep_right) (by decide +kernel)) (fun _ _ _ _ _ => (pg_name (i := 5) sc_law_deep_right.nd rfl (by first | exact Or.inl rfl | exact Or.inr rfl))) (fun _ _ _ _ _ => pts_nil) (fun _ _ _ _ _ => (pe_tup (pa_cons (pv 5) (pa_cons (pe_tup pa_nil) pa_nil))))) pa_nil)) (by rfl)))))))))
  (pss_one (ps_ret (pe_cmpR (op_eqA (room200 hr)) (pe_calC C_worths (hr.mono (by first | decide | omega)) passL (pa_cons (pv 1) (pa_cons (pe_lst (pa_cons pe_int (pa_cons pe_int (pa_cons pe_int (pa_cons pe_int (pa_cons pe_int (pa_cons pe_int (pa_cons pe_int (pa_cons pe_int pa_nil))))))))) pa_nil))) (pv 2) (nomark _)))))), ?_⟩
  refine ⟨(by show 2 ≤ sizeLine; decide), fun p1 h1 => ⟨(by show 3 ≤ sizeLine; decide), fun p2 h2 => ⟨_, _, rfl, ?_⟩⟩⟩
  have n1 := hw.new h1 (.tup [.str "base", .int 3])
  have a2 := ((Aft.refl hw).new h1 (.tup [.str "base", .int 3])).new h2 (.lst [.int 0, .int 1, .int 2])
  have y1 := out_new (w := wl) h2 (.lst [.int 0, .int 1, .int 2]) _ _ (hw.laid h1 (.tup [.str "base", .int 3]))
  have y2 := n1.laid h2 (.lst [.int 0, .int 1, .int 2])
  generalize upd (upd H p1 (.tup [.str "base", .int 3])) p2 (.lst [.int 0, .int 1, .int 2]) = H2 at a2 y1 y2 ⊢
  refine ⟨_, rfl, wl, 31, rfl, a2.well, by decide, by decide, fun d H3 d0 d1 a3 => .inl ⟨_, _, rfl, rfl, ?_⟩⟩
  obtain ⟨e, rfl⟩ := Int.eq_ofNat_of_zero_le d0
  refine ⟨60 + (e : Int), rfl, by omega, by omega, ?_⟩
  have eT : (60 + (e : Int)).toNat = 60 + e := by omega
  rw [eT]
  have a03 := a2.trans a3
  refine for_range (n := 60 + e) (fun n => DpW K wl H n) ⟨.ref p1, .b 3, p2, [.int 0, .int 1, .int 2], _, _, _, rfl, .tup (.of (a3.but _ _ y1)) (.cons (.str _) (.cons (.int _) .nil)), ⟨by show 3 < 8; decide, by show 1 ≤ 1; decide, by show 1 ≤ 1; decide, by decide, by show 0 ≤ 1; decide⟩, a3.but _ _ y2, ?_, a03⟩ ?_ ?_
  · have ew : (Kd.b 3).wl s8 = [.int 0, .int 1, .int 2] := by
      show (List.range 3).map (fun n => PyData.int (n : Nat)) = _
      rfl
    rw [ew]
    exact .cons (.int _) (.cons (.int _) (.cons (.int _) .nil))
  · rintro n σ H4 hn ⟨v, k, p, us, o3, o4, o5, rfl, dv, d3, ep, du, aft⟩
    refine ⟨_, rfl, wl, 3, rfl, aft.well, by decide, by decide, fun way H5 w0 w3 a5 => ?_⟩
    have aft5 := aft.trans a5
    have s5 := out_sub wl H5
    have dv5 := (dv.same a5.but).same s5
    have ep5 := s5 _ _ (a5.but _ _ ep)
    have du5 := (du.same a5.but).same s5
    have lu := du.length
    have lf := d3.few
    refine ⟨_, rfl, .inl ⟨rfl, _, rfl, ite2 (fun c => ?_) (fun c => ?_)⟩⟩
    · refine ⟨(by show 1 ≤ sizeLine; decide), fun q1 g1 => ⟨_, rfl, (by show 3 ≤ sizeLine; decide), fun q2 g2 => ⟨_, rfl, p, rfl, ⟨us, .of (same_new g2 _ _ _ (same_new g1 _ _ _ ep5))⟩, fun D hD => ?_⟩⟩⟩
      have m1 := same_new g1 (.tup [.str "unit"])
      have m2 := same_new g2 (.tup [.str "from", .ref q1, v])
      have dk1 : Dq K (upd H5 q1 (.tup [.str "unit"])) (.ref q1) Kd.u.dat := unit_at upd_same
      have dk2 : Dq K (upd (upd H5 q1 (.tup [.str "unit"])) q2 (.tup [.str "from", .ref q1, v])) (.ref q2) (Kd.f .u k).dat := .tup (.of upd_same) (.cons (.str _) (.cons (dk1.same m2) (.cons (dv5.same (m1.trans m2)) .nil)))
      have m12 := m1.trans m2
      generalize upd (upd H5 q1 (.tup [.str "unit"])) q2 (.tup [.str "from", .ref q1, v]) = H6 at m12 dk2 hD ⊢
      refine lc_list (K := K) (a := p) (xs := us) (fun j => Pr2 K D H6 (((k.wl s8).take j).map fun d => PyData.tuple [d])) (Pr2.start hD) (fun j H7 _ ⟨_, _, _, s7⟩ => .of (s7 _ _ (m12 _ _ ep5))) ?_ ?_
      · rintro j x H7 hx ⟨acc, ea, da, s7⟩
        obtain ⟨dd, hd, hdd⟩ := du5.get hx
        have pd := Kd.wl_pure k dd (List.mem_of_getElem? hd)
        have la := da.length
        rw [List.length_map] at la
        have := List.length_take_le j (k.wl s8)
        have lj := (List.getElem?_eq_some_iff.mp hx).1
        refine ⟨rfl, _, rfl, (by show 1 ≤ sizeLine; decide), fun tt htt => ?_⟩
        have m8 := same_new htt (.tup [x])
        refine ⟨acc, m8 _ _ ea, fits_lt (by omega), ?_⟩
        rw [take_succ hd, List.map_append]
        exact Pr2.put hD ea da s7 m8 (.tup (.of upd_same) (.cons (hdd.same (m12.trans (s7.trans m8))) .nil)) (by simp [pureT, pureTs, pd])
      · intro H7 pr
        rw [lu, List.take_length] at pr
        exact ⟨_, _, rfl, DpW.mk_ aft5 m12 hD dk2 d3.fu pr (wl_fu k).symm _ _ _ rfl⟩
    · refine ⟨_, rfl, .inl ⟨rfl, _, rfl, ite2 (fun c2 => ?_) (fun c2 => ?_)⟩⟩
      · refine ⟨(by show 1 ≤ sizeLine; decide), fun q1 g1 => ⟨_, rfl, (by show 3 ≤ sizeLine; decide), fun q2 g2 => ⟨_, rfl, p, rfl, ⟨us, .of (same_new g2 _ _ _ (same_new g1 _ _ _ ep5))⟩, fun D hD => ?_⟩⟩⟩
        have m1 := same_new g1 (.tup [.str "unit"])
        have m2 := same_new g2 (.tup [.str "both", .ref q1, v])
        have dk1 : Dq K (upd H5 q1 (.tup [.str "unit"])) (.ref q1) Kd.u.dat := unit_at upd_same
        have dk2 : Dq K (upd (upd H5 q1 (.tup [.str "unit"])) q2 (.tup [.str "both", .ref q1, v])) (.ref q2) (Kd.p .u k).dat := .tup (.of upd_same) (.cons (.str _) (.cons (dk1.same m2) (.cons (dv5.same (m1.trans m2)) .nil)))
        have m12 := m1.trans m2
        generalize upd (upd H5 q1 (.tup [.str "unit"])) q2 (.tup [.str "both", .ref q1, v]) = H6 at m12 dk2 hD ⊢
        refine lc_list (K := K) (a := p) (xs := us) (fun j => Pr2 K D H6 (((k.wl s8).take j).map fun d => PyData.tuple [.tuple [], d])) (Pr2.start hD) (fun j H7 _ ⟨_, _, _, s7⟩ => .of (s7 _ _ (m12 _ _ ep5))) ?_ ?_
        · rintro j x H7 hx ⟨acc, ea, da, s7⟩
          obtain ⟨dd, hd, hdd⟩ := du5.get hx
          have pd := Kd.wl_pure k dd (List.mem_of_getElem? hd)
          have la := da.length
          rw [List.length_map] at la
          have := List.length_take_le j (k.wl s8)
          have lj := (List.getElem?_eq_some_iff.mp hx).1
          refine ⟨rfl, Nat.zero_le _, fun t0 h0 => ⟨_, rfl, (by show 2 ≤ sizeLine; decide), fun tt htt => ?_⟩⟩
          have m0 := same_new h0 (.tup [])
          have m8 := same_new htt (.tup [.ref t0, x])
          refine ⟨acc, m8 _ _ (m0 _ _ ea), fits_lt (by omega), ?_⟩
          rw [take_succ hd, List.map_append]
          exact Pr2.put hD ea da s7 (m0.trans m8) (.tup (.of upd_same) (.cons (.tup (.of (m8 _ _ upd_same)) .nil) (.cons (hdd.same (m12.trans (s7.trans (m0.trans m8)))) .nil))) (by simp [pureT, pureTs, pd])
        · intro H7 pr
          rw [lu, List.take_length] at pr
          exact ⟨_, _, rfl, DpW.mk_ aft5 m12 hD dk2 d3.pu pr (wl_pu k).symm _ _ _ rfl⟩
      · refine ⟨_, rfl, (by show 1 ≤ sizeLine; decide), fun q1 g1 => ⟨(by show 3 ≤ sizeLine; decide), fun q2 g2 => ⟨_, rfl, p, rfl, ⟨us, .of (same_new g2 _ _ _ (same_new g1 _ _ _ ep5))⟩, fun D hD => ?_⟩⟩⟩
        have m1 := same_new g1 (.tup [.str "unit"])
        have m2 := same_new g2 (.tup [.str "both", v, .ref q1])
        have dk1 : Dq K (upd H5 q1 (.tup [.str "unit"])) (.ref q1) Kd.u.dat := unit_at upd_same
        have dk2 : Dq K (upd (upd H5 q1 (.tup [.str "unit"])) q2 (.tup [.str "both", v, .ref q1])) (.ref q2) (Kd.p k .u).dat := .tup (.of upd_same) (.cons (.str _) (.cons (dv5.same (m1.trans m2)) (.cons (dk1.same m2) .nil)))
        have m12 := m1.trans m2
        generalize upd (upd H5 q1 (.tup [.str "unit"])) q2 (.tup [.str "both", v, .ref q1]) = H6 at m12 dk2 hD ⊢
        refine lc_list (K := K) (a := p) (xs := us) (fun j => Pr2 K D H6 (((k.wl s8).take j).map fun d => PyData.tuple [d, .tuple []])) (Pr2.start hD) (fun j H7 _ ⟨_, _, _, s7⟩ => .of (s7 _ _ (m12 _ _ ep5))) ?_ ?_
        · rintro j x H7 hx ⟨acc, ea, da, s7⟩
          obtain ⟨dd, hd, hdd⟩ := du5.get hx
          have pd := Kd.wl_pure k dd (List.mem_of_getElem? hd)
          have la := da.length
          rw [List.length_map] at la
          have := List.length_take_le j (k.wl s8)
          have lj := (List.getElem?_eq_some_iff.mp hx).1
          refine ⟨rfl, _, rfl, Nat.zero_le _, fun t0 h0 => ⟨(by show 2 ≤ sizeLine; decide), fun tt htt => ?_⟩⟩
          have m0 := same_new h0 (.tup [])
          have m8 := same_new htt (.tup [x, .ref t0])
          refine ⟨acc, m8 _ _ (m0 _ _ ea), fits_lt (by omega), ?_⟩
          rw [take_succ hd, List.map_append]
          exact Pr2.put hD ea da s7 (m0.trans m8) (.tup (.of upd_same) (.cons (hdd.same (m12.trans (s7.trans (m0.trans m8)))) (.cons (.tup (.of (m8 _ _ upd_same)) .nil) .nil))) (by simp [pureT, pureTs, pd])
        · intro H7 pr
          rw [lu, List.take_length] at pr
          exact ⟨_, _, rfl, DpW.mk_ aft5 m12 hD dk2 d3.up pr (wl_up k).symm _ _ _ rfl⟩
  · rintro σ H4 ⟨v, k, p, us, o3, o4, o5, rfl, dv, d3, ep, du, aft⟩
    refine ⟨_, rfl, (by show 8 ≤ sizeLine; decide), fun sl hsl => ?_⟩
    have m5 := same_new hsl (.lst [.int 1, .int 2, .int 1, .int 3, .int 1, .int 1, .int 1, .int 1])
    have y5 := upd_same (H := H4) (a := sl) (o := .lst [.int 1, .int 2, .int 1, .int 3, .int 1, .int 1, .int 1, .int 1])
    have aft5 := aft_same aft m5
    have s4 := (out_sub wl H4).trans m5
    generalize upd H4 sl (.lst [.int 1, .int 2, .int 1, .int 3, .int 1, .int 1, .int 1, .int 1]) = H5 at m5 y5 aft5 s4 ⊢
    have dp := d3.dp
    have lv := d3.lv
    have nm : k.num (sOf (ns8.map .int)) = 3 := d3.num
    have tk : k.took (sOf (ns8.map .int)) ≤ 1 := d3.took
    have tab5 := aft5.tab nP hT
    dsimp only [tNil]
    refine worths_q (ns := ns8) (dv.same s4) d3.ok (by omega) (by omega) (.lst (.of y5) (dq_ints ns8)) rfl (by decide) (by omega) (by omega) tab5 fun us2 p2 H6 st6 nw e6 d6 => ?_
    have lay := lays_of fun d hd => (Kd.wl_lay (s := s8) k d hd).1
    have dps := deps_of fun d hd => (Kd.wl_lay (s := s8) k d hd).2
    refine ⟨_, rfl, ?_⟩
    have q6 := q H6 ((KW.AftT.of_aft aft5 tab5).trans (.of_stay st6)) (aft5.well.stay st6)
    exact eq_same e6 (d6.same (out_sub p2 H6)) (st6.at_ (s4 _ _ ep)) (st6.dqs (du.same s4)) lay (Nat.le_trans dps (by omega)) q6
end

/-! ## one well's turn -/
/-- a kind and sizes that stand while the well is drawn from -/
structure RgS (K : PySem.W.Frag) (PT wl sa : Addr) (H0 H : Hp) (v : V) (k : Kd) (ns : List Int) : Prop where
  g : GtS PT wl sa H0 H ns
  kind : Dq K (out wl H) v k.dat
  ok : k.ok
  lv : k.leaves ≤ 4
  bd : ∀ n ∈ ns, 1 ≤ n ∧ n ≤ 5
section
variable {K : PySem.W.Frag} {PT wl sa : Addr} {H0 H H' : Hp} {v : V} {k : Kd} {ns : List Int}
theorem RgS.stay (S : RgS K PT wl sa H0 H v k ns) (t : Stay PT H H') : RgS K PT wl sa H0 H' v k ns := ⟨S.g.stay t, (AftT.of_stay t).dq S.kind, S.ok, S.lv, S.bd⟩
theorem RgS.draw (S : RgS K PT wl sa H0 H v k ns) (a : Aft wl H H') : RgS K PT wl sa H0 H' v k ns := ⟨S.g.draw a, S.kind.same a.but, S.ok, S.lv, S.bd⟩
theorem RgS.drawT (S : RgS K PT wl sa H0 H v k ns) (a : AftT wl PT H H') (w : Well H' wl) : RgS K PT wl sa H0 H' v k ns := ⟨⟨S.g.aft.trans a, w, S.g.nw, S.g.new, a.at_ S.g.nw S.g.es, S.g.l8, S.g.bd⟩, a.dq S.kind, S.ok, S.lv, S.bd⟩
theorem RgS.put (S : RgS K PT wl sa H0 H v k ns) {ms : List Int} (l8 : ms.length = 8) (bd : ∀ n ∈ ms, 1 ≤ n ∧ n ≤ 5) : RgS K PT wl sa H0 (upd H sa (.lst (ms.map V.int))) v k ms := by
  refine ⟨S.g.put l8 fun n hn => by have := bd n hn; omega, ?_, S.ok, S.lv, bd⟩
  have e : out wl H sa = some (.lst (ns.map V.int)) := out_at S.g.nw S.g.es
  refine (Dq.outp e k.pure S.kind).same fun b o h => ?_
  have h1 := out_some h
  have h2 := out_some h1.2
  exact out_at h2.1 ((upd_ne h1.1).trans h2.2)
theorem RgS.ask (S : RgS K PT wl sa H0 H v k ns) : AskK K PT H v sa k ns := ⟨S.kind.same (out_sub wl H), S.ok, by have := S.lv; omega, by have := k.deep_le; have := S.lv; omega, S.g.es, S.g.l8, S.bd, S.g.tab⟩
end
def spRightT (PT : Addr) : Sp := fun vs H Q _ => ∃ (w : Addr), vs = [.ref w] ∧ Well H w ∧ GxR.TabG H PT ∧ ∀ H', AftT w PT H H' → Q (.bl true) H'
abbrev s_law_right : Stmt := top 39
theorem sc_law_right : FnScope ["well", "kind", "sizes", "k"] ["well"] (defScope s_law_right) := ⟨rfl, rfl, rfl, by decide +kernel, rfl, by decide +kernel, by decide +kernel⟩
section
variable {P : Program} {w : World} {K : PySem.W.Frag} {mg : Str → Option Value} {base : Heap} {CN CT : Addr}
theorem ok_right {PT : Addr} (A : At K mg "_law_right" s_law_right) (T : Txt K mg w CN CT) (C_law_draw : Cal P w K mg base CX0 1 "_law_draw" ["well", "below"] spDraw) (C_law_kind : Cal P w K mg base CX0 8 "_law_kind" ["well", "leaves"] (spDrawn K 6)) (C_law_sizes : Cal P w K mg base CX0 3 "_law_sizes" ["well"] spSizes) (C_law_asked : Cal P w K mg base CX0 107 "_law_asked" ["kind", "sizes"] (spAsk41 K PT)) (C_law_great_right : Cal P w K mg base CX0 107 "_law_great_right" ["well"] (spGreat PT)) (C_law_deep_right : Cal P w K mg base CX0 107 "_law_deep_right" ["well"] (spDeep PT)) : Cal P w K mg base CX0 108 "_law_right" ["well"] (spRightT PT) := by
  obtain ⟨f, fd, F, m⟩ := A
  refine ⟨f, fd, F.ok sc_law_right (fun vs H Q E h => ?_) (fun cdv A outer s H vs Q E hr h => ?_), F.binds (ps := ["well"]) (fun _ _ _ _ _ _ us hl => match us, hl with | [_], _ => rfl), F.kp, m⟩
  · obtain ⟨wl, rfl, _⟩ := h; rfl
  obtain ⟨wl, rfl, hw, hT, q⟩ := h
  have nP := hw.notab hT
  refine ⟨_, (pss_cons (ps_set (i := 1) sc_law_right.nd rfl (by first | exact Or.inl rfl | exact Or.inr rfl) (pe_calC C_law_kind (hr.mono (by first | decide | omega)) pass0 (pa_cons (pv 0) (pa_cons (pe_op op_addA pe_int (pe_calC C_law_draw (hr.mono (by first | decide | omega)) pass0 (pa_cons (pv 0) (pa_cons pe_int pa_nil)))) pa_nil))))
  (pss_cons (ps_set (i := 2) sc_law_right.nd rfl (by first | exact Or.inl rfl | exact Or.inr rfl) (pe_calC C_law_sizes (hr.mono (by first | decide | omega)) pass0 (pa_cons (pv 0) pa_nil)))
  (pss_cons (ps_if (PW.pt (pw_or (pt_not (pt_val (pe_calC C_law_asked (hr.mono (by first | decide | omega)) pass0 (pa_cons (pv 1) (pa_cons (pv 2) pa_nil))))) (pw_or (pt_not (pt_val (pe_calC C_law_great_right (hr.mono (by first | decide | omega)) pass0 (pa_cons (pv 0) pa_nil)))) (pw_or1 (pt_not (pt_val (pe_calC C_law_deep_right (hr.mono (by first | decide | omega)) pass0 (pa_cons (pv 0) pa_nil))))))))
   (pss_one (ps_ret pe_bl))
   pss_nil)
  (pss_cons (ps_for PassesOwn.never rfl (pi_range1 (by rfl) T.z_range (pa_cons pe_int pa_nil)) (pg_name (i := 3) sc_law_right.nd rfl (by first | exact Or.inl rfl | exact Or.inr rfl))
   (pss_cons (ps_asg (pe_op op_addA pe_int (pe_calC C_law_draw (hr.mono (by first | decide | omega)) pass0 (pa_cons (pv 0) (pa_cons pe_int pa_nil)))) (pg_sub (pv 2) (pe_calC C_law_draw (hr.mono (by first | decide | omega)) pass0 (pa_cons (pv 0) (pa_cons pe_int pa_nil))) set_list))
  (pss_one (ps_if (pt_not (pt_val (pe_calC C_law_asked (hr.mono (by first | decide | omega)) pass0 (pa_cons (pv 1) (pa_cons (pv 2) pa_nil)))))
   (pss_one (ps_ret pe_bl))
   pss_nil))))
  (pss_one (ps_ret pe_bl)))))), ?_⟩
  refine ⟨_, rfl, _, rfl, wl, 4, rfl, hw, by decide, by decide, fun d H1 d0 d1 a1 => .inl ⟨_, _, rfl, rfl, wl, 1 + d, rfl, a1.well, by omega, by omega, by decide, fun k v H2 ok lv dv a2 => ?_⟩⟩
  have a02 := a1.trans a2
  refine ⟨_, rfl, wl, rfl, a2.well, fun sa ns H3 es l8 bd nw new a3 => ?_⟩
  have a03 := a02.trans a3
  have n2 : H2 sa = none := by
    cases e : H2 sa with
    | none => rfl
    | some o => exact absurd e (new o)
  have S : RgS K PT wl sa H H3 v k ns := ⟨⟨KW.AftT.of_aft a03 (a03.tab nP hT), a03.well, nw, aft_none a02 n2, es, l8, fun n hn => by have := bd n hn; omega⟩, dv.same a3.but, ok, by omega, bd⟩
  refine ⟨_, rfl, _, rfl, v, sa, k, ns, rfl, S.ask, fun H4 t4 => ⟨_, rfl, iteF' rfl ?_⟩⟩
  have S4 := S.stay t4
  refine ⟨_, rfl, wl, rfl, S4.g.well, S4.g.tab, fun H5 b5 w5 => ⟨_, rfl, iteF' rfl ?_⟩⟩
  have S5 := S4.drawT b5 w5
  refine ⟨_, rfl, wl, rfl, S5.g.well, S5.g.tab, fun H6 b6 w6 => ⟨_, rfl, iteF' rfl ?_⟩⟩
  have S6 := S5.drawT b6 w6
  refine ⟨_, rfl, by decide, by decide, ?_⟩
  refine for_range (n := 3) (fun _ σ H' => ∃ (ms : List Int) (o3 : Option V), σ = [some (.ref wl), some v, some (.ref sa), o3] ∧ RgS K PT wl sa H H' v k ms) ⟨ns, _, rfl, S6⟩ ?_ ?_
  · rintro j σ H7 hj ⟨ms, o3, rfl, S7⟩
    refine ⟨_, rfl, wl, 4, rfl, S7.g.well, by decide, by decide, fun d1 H8 c0 c1 a8 => .inl ⟨_, _, rfl, rfl, ?_⟩⟩
    have S8 := S7.draw a8
    refine ⟨_, rfl, _, rfl, wl, 8, rfl, S8.g.well, by decide, by decide, fun d2 H9 e0 e1 a9 => ?_⟩
    have S9 := S8.draw a9
    obtain ⟨i, rfl⟩ := Int.eq_ofNat_of_zero_le e0
    have hi : i < 8 := by omega
    refine ⟨sa, _, _, i, rfl, rfl, S9.g.es, ixN_at (by rw [List.length_map, S9.g.l8]; exact hi), ?_⟩
    have em : (ms.map V.int).set i (.int (1 + d1)) = (ms.set i (1 + d1)).map V.int := (List.map_set).symm
    rw [em]
    have S10 := S9.put (ms := ms.set i (1 + d1)) (by rw [List.length_set]; exact S9.g.l8) (set_bd S9.bd ⟨by omega, by omega⟩)
    refine ⟨_, rfl, _, rfl, v, sa, k, ms.set i (1 + d1), rfl, S10.ask, fun H11 t11 => ⟨_, rfl, iteF' rfl ?_⟩⟩
    exact ⟨_, _, rfl, S10.stay t11⟩
  · rintro σ H7 ⟨ms, o3, rfl, S7⟩
    exact q H7 S7.g.aft
end

/-! ## the law: a few cells of the script, one after the other -/
def spLaw (K : PySem.W.Frag) (PT : Addr) : Sp := fun vs H Q _ => ∃ (a : Addr) (ns : List Int), vs = [.ref a] ∧ SqL K H a (ns.map V.int) ∧ ns.length ≤ 63 ∧ H PT = some (.tbl #[]) ∧ ∀ H', Q (.bl true) H'
theorem cut_ints (ns : List Int) (lo hi : Option Int) : ∀ x ∈ cutV (ns.map V.int) lo hi, ∃ i : Int, x = .int i := fun x h => by
  have h2 := List.mem_of_mem_drop (List.mem_of_mem_take h)
  obtain ⟨i, _, rfl⟩ := List.mem_map.mp h2
  exact ⟨i, rfl⟩
abbrev s_law : Stmt := top 40
theorem sc_law : FnScope ["script", "cell"] ["script"] (defScope s_law) := ⟨rfl, rfl, rfl, by decide +kernel, rfl, by decide +kernel, by decide +kernel⟩
section
variable {P : Program} {w : World} {K : PySem.W.Frag} {mg : Str → Option Value} {base : Heap} {CN CT : Addr}
theorem ok_law {f PT : Addr} {fd : FuncData} (F : Fun K "law" "law" s_law f fd) (T : Txt K mg w CN CT) (C_law_cell_at : Cal P w K mg base CX0 1 "_law_cell_at" ["script", "k"] (spCell K)) (C_law_well : Cal P w K mg base CX0 1 "_law_well" ["cell"] spWell)
    (C_law_right : Cal P w K mg base CX0 108 "_law_right" ["well"] (spRightT PT)) : FnOk P w K mg base CX0 109 f fd ["script"] (spLaw K PT) := by
  refine F.ok sc_law (fun vs H Q E h => ?_) (fun cdv A outer s H vs Q E hr h => ?_)
  · obtain ⟨a, ns, rfl, _⟩ := h; rfl
  obtain ⟨a, ns, rfl, hS, hl, hP, q⟩ := h
  refine ⟨_, (pss_cons (ps_for PassesOwn.never rfl (pi_list (pe_op op_addA (pe_lst (pa_cons (pe_calC C_law_cell_at (hr.mono (by first | decide | omega)) pass0 (pa_cons (pv 0) (pa_cons pe_int pa_nil))) pa_nil)) (pe_slice sl_A (pv 0) (po_some pe_int) (po_some pe_int)))) (pg_name (i := 1) sc_law.nd rfl (by first | exact Or.inl rfl | exact Or.inr rfl))
   (pss_one (ps_if (pt_not (pt_val (pe_calC C_law_right (hr.mono (by first | decide | omega)) pass0 (pa_cons (pe_calC C_law_well (hr.mono (by first | decide | omega)) pass0 (pa_cons (pv 1) pa_nil)) pa_nil))))
   (pss_one (ps_ret pe_bl))
   pss_nil)))
  (pss_one (ps_ret pe_bl))), ?_⟩
  refine ⟨_, rfl, a, ns, 0, rfl, hS, by decide, fun c => ⟨(by show 1 ≤ sizeLine; decide), fun p hp => ?_⟩⟩
  have hS2 : SqL K (upd H p (.lst [.int c])) a (ns.map V.int) := (same_new hp _).seq hS
  refine ⟨_, rfl, _, rfl, _, rfl, .inl ⟨a, _, rfl, hS2, fun p2 hp2 => ?_⟩⟩
  have t2 : GxR.TabG (upd (upd H p (.lst [.int c])) p2 (.lst (cutV (ns.map V.int) (some 1) (some 5)))) PT := TabG.same (TabG.same ⟨#[], hP, True.intro⟩ (same_new hp _)) (same_new hp2 _)
  have e1 : upd (upd H p (.lst [.int c])) p2 (.lst (cutV (ns.map V.int) (some 1) (some 5))) p = some (.lst [.int c]) := by rw [upd_ne (ne_of_none upd_same hp2)]; exact upd_same
  have hcl := cutV_length (ns.map V.int) (some 1) (some 5)
  rw [List.length_map] at hcl
  refine .inr (.inr (.inl ⟨p, p2, _, _, rfl, rfl, e1, upd_same, fits (by simp only [List.length_cons, List.length_nil]; omega), fun l hl' => ⟨l, rfl, ⟨_, .of upd_same⟩, ?_⟩⟩))
  generalize hxs : [V.int c] ++ cutV (ns.map V.int) (some 1) (some 5) = xs
  have t3 := TabG.same t2 (same_new hl' (.lst xs))
  have hint : ∀ x ∈ xs, ∃ i : Int, x = .int i := fun x h => by
    rw [← hxs] at h
    rcases List.mem_append.mp h with h | h
    · exact ⟨c, by simpa using h⟩
    · exact cut_ints ns _ _ x h
  refine for_list (K := K) (a := l) (xs := xs) (fun _ σ H' => ∃ o, σ = [some (.ref a), o] ∧ H' l = some (.lst xs) ∧ GxR.TabG H' PT) ⟨_, rfl, upd_same, by rw [← hxs] at t3 ⊢; exact t3⟩ ?_ ?_ ?_
  · rintro i σ H5 _ ⟨o, rfl, e, _⟩
    exact .of e
  · rintro i x σ H5 hx ⟨o, rfl, e, t5⟩
    obtain ⟨z, rfl⟩ := hint x (List.mem_of_getElem? hx)
    refine ⟨_, rfl, z, rfl, fun pw x y z' hpw => ⟨pw, rfl, ⟨x, y, z', upd_same⟩, TabG.same t5 (same_new hpw _), fun H6 a6 => ⟨_, rfl, iteF' rfl ⟨_, rfl, ?_, a6.tab⟩⟩⟩⟩
    have n := ne_of_none e hpw
    exact a6.at_ n (by rw [upd_ne n]; exact e)
  · rintro σ H5 ⟨o, rfl, e, _⟩
    exact q H5
end
theorem walk {l : PySem.W.OpenLaw} {q : Program} {loose : List Str} {XP : (Str → Option Value) → Heap → Prop} {YP : World → Heap → Prop} {d : DefRec} {K : Params → PySem.W.Frag} (hn : l.most = some 63) (hdf : d.params.defaults = []) (hrec : ((["is_sizes"] : List Str).all fun z => (recsOf q).any fun e => e.name == z) = true)
    (hY : ∀ (w : World) (h : Heap), YP w h → (K w.params).In h)
    (F : ∀ (w : World) (mg : Str → Option Value) (fa : Addr) (h : Heap), (K w.params).In h → h.Ns mainGlobals mg → mg d.name = some (.ref fa) → (∀ f, mg "is_sizes" = some (.ref f) → LamX.OwnTab (K w.params) f h) → LamX.LawAtS l w (K w.params) CX0 109 63 "script" mg fa h) :
    PySem.W.WalkO q loose XP YP l.row.toRowW d [] (fun f vs => PySem.call f vs) :=
  walk_ofTabs (n := 63) (k := 109) (x := "script") (CX := fun _ => CX0) ["is_sizes"] hn (by decide) hdf ⟨rfl, by decide, by decide⟩ hrec hY (fun w mg fa h _ KX G hm own => F w mg fa h KX G hm (own "is_sizes" (List.mem_singleton.mpr rfl))) fun _ _ _ _ _ z => z

section
variable {P : Program} {w : World} {K : PySem.W.Frag} {mg : Str → Option Value} {base : Heap} {CN CT CZ CS CM : Addr}
theorem law_end {l : PySem.W.OpenLaw} {fa : Addr} {h : Heap} (hfa : mg "law" = some (.ref fa)) (own : ∀ f, mg "is_sizes" = some (.ref f) → LamX.OwnTab K f h) (T : Txt K mg w CN CT) (S : TxS K mg CZ CS CM) (A_is_base_number : At K mg "is_base_number" s_is_base_number) (A__is_kind_but_for_parts : At K mg "_is_kind_but_for_parts" s_is_kind_but_for_parts) (A_is_kind : At K mg "is_kind" s_is_kind) (A_need_kind : At K mg "need_kind" s_need_kind) (A_by_sizes : At K mg "by_sizes" s_by_sizes) (A__power : At K mg "_power" s_power) (A_sized_kind : At K mg "sized_kind" s_sized_kind) (A_need_sizes : At K mg "need_sizes" s_need_sizes) (A_all_worths : At K mg "all_worths" s_all_worths) (A_worths : At K mg "worths" s_worths) (A__law_cell_at : At K mg "_law_cell_at" s_law_cell_at) (A__law_well : At K mg "_law_well" s_law_well) (A__law_draw : At K mg "_law_draw" s_law_draw) (A__law_one : At K mg "_law_one" s_law_one) (A__law_kind : At K mg "_law_kind" s_law_kind) (A__law_sizes : At K mg "_law_sizes" s_law_sizes) (A__law_power : At K mg "_law_power" s_law_power) (A__law_number : At K mg "_law_number" s_law_number) (A__law_taken : At K mg "_law_taken" s_law_taken) (A__law_all : At K mg "_law_all" s_law_all) (A__law_asked : At K mg "_law_asked" s_law_asked) (A__law_great_right : At K mg "_law_great_right" s_law_great_right) (A__law_deep_right : At K mg "_law_deep_right" s_law_deep_right) (A__law_right : At K mg "_law_right" s_law_right) (A_law : At K mg "law" s_law) (A_is_sizes : OwnF K mg h "is_sizes" s_is_sizes) : LamX.LawAtS l w K CX0 109 63 "script" mg fa h := by
  obtain ⟨f, fd, F, m⟩ := A_law
  have e := hfa.symm.trans m
  cases e
  obtain ⟨f2, fd2, cc, PT, F2, m2, hcode, nP, C, hT⟩ := A_is_sizes
  refine ⟨fd, [(cc, PT)], spLaw K PT, fun p hp => by rw [List.mem_singleton.mp hp]; exact hT (own f2 m2), fun p hp => by rw [List.mem_singleton.mp hp]; exact nP, fun p hp => by rw [List.mem_singleton.mp hp]; exact C, ?_, fun H a ns hl _ hP hS => ⟨a, ns, rfl, hS, hl, hP (cc, PT) (List.mem_singleton.mpr rfl), fun _ => rfl⟩, fun base _ _ TBs => ?_⟩
  · obtain ⟨oc, od, kV, doc, pm, an, cdv, ct, osl, rfl, lk, hcd⟩ := F.ex
    exact fun s u => .of_eq rfl
  · have tb := TBs (cc, PT) (List.mem_singleton.mpr rfl)
    have Cc := ok_cell_at (P := l.prog) (base := base) A__law_cell_at T
    have Cw := ok_well (P := l.prog) (base := base) A__law_well T
    have Cd := ok_draw (P := l.prog) (base := base) A__law_draw T
    have Co := ok_one A__law_one T Cd
    have Ck := ok_kind A__law_kind T Cd Co 6
    have Csz := ok_sizes40 A__law_sizes T Cd Co
    have Cpw := ok_pow40 (P := l.prog) (base := base) A__law_power T
    have Cnu := ok_num A__law_number T Cpw
    have Cta := ok_tak A__law_taken T Cnu 7
    have Cal := ok_all A__law_all T Cnu 7
    have Cb := ok_is_base_number (P := l.prog) (base := base) A_is_base_number T
    have Cs := ok_is_kind_but_for_parts A__is_kind_but_for_parts T Cb
    have Ci := ok_is_kind A_is_kind T Cs
    have Cn := ok_need_kind A_need_kind T Ci
    have Cp := ok_power (P := l.prog) (w := w) (base := base) A__power S
    have Cby := ok_by A_by_sizes S Cp 100
    have Cis := ok_is_sizes (P := l.prog) (w := w) (base := base) ⟨f2, fd2, F2, m2, hcode⟩ ⟨tb.code, tb.bm, tb.gP⟩ S
    have Cns := ok_need_sizes A_need_sizes S Cis
    have Csk := ok_sized_kind A_sized_kind S Cn Cns Cby
    have Caw := ok_aw (P := l.prog) (w := w) (base := base) A_all_worths S 100
    have Cwo := ok_worths A_worths S Csk Caw
    have Cas := ok_asked A__law_asked T (Cnu 7) Cta Cal Cwo
    have Cgr := ok_great A__law_great_right T Cd Co Cwo
    have Cde := ok_deep A__law_deep_right T Cd Cwo
    have Crr := ok_right A__law_right T Cd Ck Csz Cas Cgr Cde
    exact ok_law F T Cc Cw Crr
end
end KW
open PySem PySem.W PyProof.Rows in
set_option maxRecDepth 100000 in
set_option maxHeartbeats 0 in
theorem PySem.Challenge.cw_kindswap_k41_all_worths_holds : PySem.Challenge.rw_kindswap_k41_all_worths.Holds := by
  w_on; o_law; k_head; (case hw => w_witness2)
  k_fill
  refine KW.walk (l := PySem.Challenge.rw_kindswap_k41_all_worths) rfl rfl (by first | rfl | decide +kernel) (fun w h Y => by first | exact PySem.W.kIn_of Y | exact PySem.W.km_in_of Y) ?F
  case F =>
    intro w mg fa h KX G hmg own
    have A_is_base_number := KB.at_mk (x := "is_base_number") (st := KW.s_is_base_number) KX G (by k_is) (by k_is) (by k_is) (by k_is)
    have A__is_kind_but_for_parts := KB.at_mk (x := "_is_kind_but_for_parts") (st := KW.s_is_kind_but_for_parts) KX G (by k_is) (by k_is) (by k_is) (by k_is)
    have A_is_kind := KB.at_mk (x := "is_kind") (st := KW.s_is_kind) KX G (by k_is) (by k_is) (by k_is) (by k_is)
    have A_need_kind := KB.at_mk (x := "need_kind") (st := KW.s_need_kind) KX G (by k_is) (by k_is) (by k_is) (by k_is)
    have A_by_sizes := KB.at_mk (x := "by_sizes") (st := KW.s_by_sizes) KX G (by k_is) (by k_is) (by k_is) (by k_is)
    have A__power := KB.at_mk (x := "_power") (st := KW.s_power) KX G (by k_is) (by k_is) (by k_is) (by k_is)
    have A_sized_kind := KB.at_mk (x := "sized_kind") (st := KW.s_sized_kind) KX G (by k_is) (by k_is) (by k_is) (by k_is)
    have A_need_sizes := KB.at_mk (x := "need_sizes") (st := KW.s_need_sizes) KX G (by k_is) (by k_is) (by k_is) (by k_is)
    have A_all_worths := KB.at_mk (x := "all_worths") (st := KW.s_all_worths) KX G (by k_is) (by k_is) (by k_is) (by k_is)
    have A_worths := KB.at_mk (x := "worths") (st := KW.s_worths) KX G (by k_is) (by k_is) (by k_is) (by k_is)
    have A__law_cell_at := KB.at_mk (x := "_law_cell_at") (st := KW.s_law_cell_at) KX G (by k_is) (by k_is) (by k_is) (by k_is)
    have A__law_well := KB.at_mk (x := "_law_well") (st := KW.s_law_well) KX G (by k_is) (by k_is) (by k_is) (by k_is)
    have A__law_draw := KB.at_mk (x := "_law_draw") (st := KW.s_law_draw) KX G (by k_is) (by k_is) (by k_is) (by k_is)
    have A__law_one := KB.at_mk (x := "_law_one") (st := KW.s_law_one) KX G (by k_is) (by k_is) (by k_is) (by k_is)
    have A__law_kind := KB.at_mk (x := "_law_kind") (st := KW.s_law_kind) KX G (by k_is) (by k_is) (by k_is) (by k_is)
    have A__law_sizes := KB.at_mk (x := "_law_sizes") (st := KW.s_law_sizes) KX G (by k_is) (by k_is) (by k_is) (by k_is)
    have A__law_power := KB.at_mk (x := "_law_power") (st := KW.s_law_power) KX G (by k_is) (by k_is) (by k_is) (by k_is)
    have A__law_number := KB.at_mk (x := "_law_number") (st := KW.s_law_number) KX G (by k_is) (by k_is) (by k_is) (by k_is)
    have A__law_taken := KB.at_mk (x := "_law_taken") (st := KW.s_law_taken) KX G (by k_is) (by k_is) (by k_is) (by k_is)
    have A__law_all := KB.at_mk (x := "_law_all") (st := KW.s_law_all) KX G (by k_is) (by k_is) (by k_is) (by k_is)
    have A__law_asked := KB.at_mk (x := "_law_asked") (st := KW.s_law_asked) KX G (by k_is) (by k_is) (by k_is) (by k_is)
    have A__law_great_right := KB.at_mk (x := "_law_great_right") (st := KW.s_law_great_right) KX G (by k_is) (by k_is) (by k_is) (by k_is)
    have A__law_deep_right := KB.at_mk (x := "_law_deep_right") (st := KW.s_law_deep_right) KX G (by k_is) (by k_is) (by k_is) (by k_is)
    have A__law_right := KB.at_mk (x := "_law_right") (st := KW.s_law_right) KX G (by k_is) (by k_is) (by k_is) (by k_is)
    have A_law := KB.at_mk (x := "law") (st := KW.s_law) KX G (by k_is) (by k_is) (by k_is) (by k_is)
    have A_is_sizes := KB.own_mk (x := "is_sizes") (st := KW.s_is_sizes) KX G (by k_is) (by k_is) (by k_is) (by k_is) (by k_is) (by rfl) (by rfl) (by rfl)
    have D1 := KB.ds_mk (x := "SIGN_OF_WORD") (w := w) (kvs := [("both", .str "*"), ("from", .str ">")]) KX G (by k_is) (by k_is) (by exact ⟨⟨_, _, rfl, rfl⟩, ⟨_, _, rfl, rfl⟩, trivial⟩) (by first | rfl | decide) (by exact .cons ⟨_, rfl⟩ (.cons ⟨_, rfl⟩ .nil))
    have E1 := KB.exc_mk (x := "NoKind") KX G (by k_is) (by k_exc) (by k_is) (by k_is) (by k_is) (by k_is) (by first | rfl | k_is)
    have E3 := KB.exc_mk (x := "NoSizes") KX G (by k_is) (by k_exc) (by k_is) (by k_is) (by k_is) (by k_is) (by first | rfl | k_is)
    have E4 := KB.exc_mk (x := "TooMany") KX G (by k_is) (by k_exc) (by k_is) (by k_is) (by k_is) (by k_is) (by first | rfl | k_is)
    have gS := KB.cls_mk (x := "Sized") KX G (by k_is)
    have CLS := KB.cls_of KX gS (by k_is) (by k_is) (by k_is) (by k_is)
    have n1 := KB.noattr_of (f := "word") KX gS (by k_is)
    have n2 := KB.noattr_of (f := "one") KX gS (by k_is)
    have n3 := KB.noattr_of (f := "other") KX gS (by k_is)
    have n4 := KB.noattr_of (f := "many") KX gS (by k_is)
    have n5 := KB.noattr_of (f := "most_taken") KX gS (by k_is)
    have MK := KB.makes_of (q := "Sized.__init__") (st := KW.s_Sized___init__) KX gS (by k_is) (by k_is) (by k_is) (by k_is) (by k_is) (by k_is) (by k_is)
    have g1 : ∃ t, mg "BASE_LETTERS" = some (.str "abcdefgh" t) := ⟨_, PySem.W.mg_of KX G (by k_is)⟩
    have g3 : ∃ t, mg "TOO_GREAT" = some (.int 10000000000000000000000000000000000000000 t) := ⟨_, PySem.W.mg_of KX G (by k_is)⟩
    have g4 : ∃ t, mg "GREATEST_SIZE" = some (.int 999 t) := ⟨_, PySem.W.mg_of KX G (by k_is)⟩
    have g5 : ∃ t, mg "MOST_TOLD" = some (.int 5000 t) := ⟨_, PySem.W.mg_of KX G (by k_is)⟩
    have T : KW.Txt _ mg w _ 0 := ⟨PySem.W.mg_none_of KX G (by k_is), PySem.W.mg_none_of KX G (by k_is), PySem.W.mg_none_of KX G (by k_is), PySem.W.mg_none_of KX G (by k_is), PySem.W.mg_none_of KX G (by k_is), PySem.W.mg_none_of KX G (by k_is), PySem.W.mg_none_of KX G (by k_is), PySem.W.mg_none_of KX G (by k_is), PySem.W.mg_none_of KX G (by k_is), PySem.W.mg_none_of KX G (by k_is), PySem.W.mg_none_of KX G (by k_is), PySem.W.mg_none_of KX G (by k_is), PySem.W.mg_none_of KX G (by k_is), g1, D1, E1⟩
    have S : KW.TxS _ mg _ _ _ := ⟨PySem.W.mg_none_of KX G (by k_is), PySem.W.mg_none_of KX G (by k_is), PySem.W.mg_none_of KX G (by k_is), PySem.W.mg_none_of KX G (by k_is), PySem.W.mg_none_of KX G (by k_is), PySem.W.mg_none_of KX G (by k_is), PySem.W.mg_none_of KX G (by k_is), PySem.W.mg_none_of KX G (by k_is), PySem.W.mg_none_of KX G (by k_is), g3, g5, g4, g1, gS, CLS, n1, n2, n3, n4, n5, MK, E3, E4⟩
    exact KW.law_end hmg own T S A_is_base_number A__is_kind_but_for_parts A_is_kind A_need_kind A_by_sizes A__power A_sized_kind A_need_sizes A_all_worths A_worths A__law_cell_at A__law_well A__law_draw A__law_one A__law_kind A__law_sizes A__law_power A__law_number A__law_taken A__law_all A__law_asked A__law_great_right A__law_deep_right A__law_right A_law A_is_sizes
namespace KW

end KW
