import PyProof.Rows.All
import Wide.All
import OpenK.AllK
import Wide.FinOn
import HandS.ForMost
import HandS.More
import HandS.NoneIn
import HandS.Deep
import HandS.ForExc
import HandS.ExcIs
import HandS.StrMore
import HandS.IsInst
import HandS.TryMany
import HandS.Style
import HandS.SortOrd
import HandS.SortRule
import KE.LtSeq
import HandS.Lambda
import HandS.EndOwn
import PySem.Challenge.RW_kindswap_k12_what_is_no_form
set_option Elab.async false
set_option linter.all false
set_option maxRecDepth 100000
set_option maxHeartbeats 4000000
namespace KB
open PySem PySem.Spec PyProof.Rows L2

/-! ## rules of one's own, wide ones: each serves all kinds of operands that the program has -/
section
variable {X : Cx}
/-- == of data nested up to 190 deep -/
def rEqX (K : PySem.W.Frag) : R2 := fun x y H Q => ∃ d e, Dp K H x d ∧ Dp K H y e ∧ d.canLay0 = true ∧ e.canLay0 = true ∧ min d.depth e.depth ≤ 190 ∧ Q (.bl (PyData.eqv d e)) H
def rNeX (K : PySem.W.Frag) : R2 := fun x y H Q => ∃ d e, Dp K H x d ∧ Dp K H y e ∧ d.canLay0 = true ∧ e.canLay0 = true ∧ min d.depth e.depth ≤ 190 ∧ Q (.bl (!PyData.eqv d e)) H
theorem op_eqX (hu : X.A.units + 200 < cLine) : OpR X (compareOp .Eq) (rEqX X.K) := by
  intro pins s σ H x y v u Q I rx ry ⟨d, e, hd, he, cd, ce, hm, q⟩
  obtain ⟨as, r1⟩ := Dp.reads I d x v hd rx
  obtain ⟨bs, r2⟩ := Dp.reads I e y u he ry
  exact SeqAt.compareEq_reads r1 r2 cd ce (by omega) ⟨.bl _, H, I, rfl, q⟩
theorem op_neX (hu : X.A.units + 200 < cLine) : OpR X (compareOp .NotEq) (rNeX X.K) := by
  intro pins s σ H x y v u Q I rx ry ⟨d, e, hd, he, cd, ce, hm, q⟩
  obtain ⟨as, r1⟩ := Dp.reads I d x v hd rx
  obtain ⟨bs, r2⟩ := Dp.reads I e y u he ry
  exact SeqAt.compareNe_reads r1 r2 cd ce (by omega) ⟨.bl _, H, I, rfl, q⟩
def rEqA (K : PySem.W.Frag) : R2 := fun x y H Q => rEq x y H Q ∨ rEqX K x y H Q
def rNeA (K : PySem.W.Frag) : R2 := fun x y H Q => rNe x y H Q ∨ rNeX K x y H Q
theorem op_eqA (hu : X.A.units + 200 < cLine) : OpR X (compareOp .Eq) (rEqA X.K) := op_eq.or (op_eqX hu)
theorem op_neA (hu : X.A.units + 200 < cLine) : OpR X (compareOp .NotEq) (rNeA X.K) := op_ne.or (op_neX hu)
theorem room200 {k : Nat} {A : Around} (r : Room k A) : A.units + 200 < cLine := by have := r.un; omega

def rAddA (K : PySem.W.Frag) : R2 := fun x y H Q =>
  (rI0 fun i j => .int (i + j)) x y H Q ∨ (∃ i j, x = .str i ∧ y = .str j ∧ i.length + j.length ≤ sizeLine ∧ Q (.str (i ++ j)) H) ∨ rCat x y H Q ∨ rCatT K x y H Q
theorem op_addA : OpR X (binaryOp .Add) (rAddA X.K) := op_add.or (op_add_str.or (op_cat.or op_catT))
def rMulA : R2 := fun x y H Q => (rI CMul fun i j => .int (i * j)) x y H Q ∨ rRep x y H Q
theorem op_mulA : OpR X (binaryOp .Mult) rMulA := op_mul.or op_rep
def rIxA (K : PySem.W.Frag) (w : World) : R2 := fun x y H Q => rIx K x y H Q ∨ rIxD K w x y H Q
theorem ix_A : IxR X (rIxA X.K X.w) := ix_seq.or ix_kdict
def rSlA (K : PySem.W.Frag) : V → Option Int → Option Int → Hp → VK → Prop := fun x lo hi H Q => rSlL K x lo hi H Q ∨ rSlT K x lo hi H Q ∨ rSlS x lo hi H Q
theorem sl_A : SlR X (rSlA X.K) := sl_list.or (sl_tup.or sl_str)
/-- isinstance over the values that the program has: the answer by the two types' names -/
def rIsiB (K : PySem.W.Frag) : List V → Hp → VK → Prop := fun xs H Q => ∃ (x : V) (T : String) (S : String) (b : Bool), xs = [x, .ty S] ∧ TyB K H x T ∧ Q (.bl b) H
end

/-! ## xs.extend(t), t a tuple -/
theorem extend_door2 {a b : Array Value} (h : a.size + b.size ≤ sizeLine) : ¬(!a.isEmpty && Builtin.List.listTooLong (a.size + b.size)) = true := by
  rw [notLongL h, Bool.and_false]; exact Bool.false_ne_true
theorem meets_extend_tup {l b : Addr} {as bs : Array Value} {n n2 : Nat} {dd : Option Addr} {sl : Array (Option Value)} (hz : as.size + bs.size ≤ sizeLine) :
    Meets (Builtin.«list.extend» ⟨[.ref l, .ref b], []⟩) (fun _ R s => s.heap.get? l = some { cls := .type "list", data := .seq as n } ∧
      s.heap.get? b = some ⟨.type "tuple", dd, .seq bs n2, sl⟩ ∧ R (.ok (.ret .none)) { s with heap := s.heap.update l (Obj.mapSeq (· ++ bs)) }) := by
  refine .of_wp fun prog w A R s h => ?_
  obtain ⟨hp, g, d, tk, os⟩ := s
  obtain ⟨hl, hb, h⟩ := h
  have f2 := PySem.AutoSeq1.sub_tuple_tuple
  have f4 := PySem.AutoSeq1.sub_tuple_list
  have door := extend_door2 hz
  have z1 : as.size ≤ sizeLine := by omega
  have z2 : (as ++ bs).size ≤ sizeLine + 1 := by rw [Array.size_append]; omega
  wp_walk using (wpAny_updateSeq hl rfl (hz := z1) (_hz' := z2)), PySem.AutoSeq1.wpAny_loadPart' hl, PySem.AutoSeq1.wpAny_loadPart' hb
  exact ⟨_, rfl, h⟩
def rExtendT (K : PySem.W.Frag) : V → List V → Hp → VK → Prop := fun x vs H Q =>
  ∃ l b xs zs, x = .ref l ∧ vs = [.ref b] ∧ H l = some (.lst xs) ∧ SqT K H b zs ∧ xs.length + zs.length ≤ sizeLine ∧ Q .non (upd H l (.lst (xs ++ zs)))
theorem mt_extendT {X : Cx} : MtM X "list.extend" (rExtendT X.K) := by
  intro pins s σ H x vs v us Q I rx rv ⟨l, b, xs, zs, ex, ev, hH, hB, hz, q⟩
  subst ex ev
  cases rx
  obtain ⟨u, rfl, ru⟩ := Vals.one rv
  cases ru
  obtain ⟨_, its, n, r, hl, e⟩ := I.lstM hH
  obtain ⟨its2, r2, ⟨⟨c2, dd, da, sl⟩, e2, ec, n2, ed⟩, hl2⟩ := I.tuple hB
  simp only at ec ed
  subst ec ed
  have hl3 := r2.length
  have hsz : its.toArray.size + its2.toArray.size ≤ sizeLine := by rw [List.size_toArray, List.size_toArray]; omega
  refine call_meets F.slot_list_extend ⟨_, e, rfl⟩ F.entry_list_extend (F.args_list_extend_2 _ _) (meets_extend_tup hsz) ⟨e, e2, ?_⟩
  refine ⟨.non, _, I.lset (its' := its ++ its2) hH e (by simp) (Vals.append r r2) ?_, rfl, q⟩
  rw [List.length_append]; exact hz

/-! ## a def as it stands; a def that keeps its promise, for its callers -/
/-- the def stands under its own name -/
def At (K : PySem.W.Frag) (mg : Str → Option Value) (x : Str) (st : Stmt) : Prop := ∃ f fd, Fun K x x st f fd ∧ mg x = some (.ref f)
section
variable (P : Program) (w : World) (K : PySem.W.Frag) (mg : Str → Option Value) (base : Heap)
def Cal (CX : CXT) (k : Nat) (x : Str) (ps : List Str) (sp : Sp) : Prop :=
  ∃ f fd, FnOk P w K mg base CX k f fd ps sp ∧ Binds K fd ps [] ∧ PySem.W.keepIn K (.ref f) = true ∧ mg x = some (.ref f)
end
section
variable {X : Cx} {CX : CXT} {k : Nat} {x : Str} {ps : List Str} {sp : Sp} {E : XK} {p pos : Pos} {e : Expr} {es : List Expr} {t : TA}
theorem pe_calC (C : Cal X.prog X.w X.K X.mg X.base CX k x ps sp) (hr : Room k X.A) (hx : Passes CX X E) (ha : PA X (e :: es) t) (hg : Gl X x := by rfl) (hdb : (x == ("__debug__" : Str)) = false := by decide)
    (he : starEach (e :: es) X.env = (false, eval e X.env) :: starEach es X.env := by rfl) (hpl : (backTo pos (starEach es X.env)).any (·.1) = false := by rfl) :
    PE X (.Call (.Name x p) (e :: es) [] pos) (tCall sp [] E t) := by
  obtain ⟨f, fd, F, b, kp, m⟩ := C
  exact pe_call F hr hg m kp b .nil hx ha hdb he hpl
end
theorem Cal.mono {P : Program} {w : World} {K : PySem.W.Frag} {mg : Str → Option Value} {base : Heap} {CX : CXT} {j k : Nat} {x : Str} {ps : List Str} {sp : Sp} (C : Cal P w K mg base CX j x ps sp) (h : j ≤ k) : Cal P w K mg base CX k x ps sp :=
  let ⟨f, fd, F, r⟩ := C; ⟨f, fd, F.mono h, r⟩

/-! ## facts of heaps -/
theorem same_new {H : Hp} {p : Addr} (h : H p = none) (o : HO) : Same H (upd H p o) := fun b u q => by rw [upd_ne (ne_of_none q h)]; exact q
theorem Same.tup {K : PySem.W.Frag} {H H' : Hp} {a : Addr} {xs : List V} (e : Same H H') (h : SqT K H a xs) : SqT K H' a xs := by
  rcases h with (h | ⟨o, h⟩) | h
  · exact .inl (.inl (e _ _ h))
  · exact .inl (.inr ⟨o, e _ _ h⟩)
  · exact .inr h
/-- all but the object at w stands -/
def But (w : Addr) (H H' : Hp) : Prop := ∀ b o, b ≠ w → H b = some o → H' b = some o
theorem But.refl (w : Addr) (H : Hp) : But w H H := fun _ _ _ h => h
theorem But.trans {w : Addr} {H H1 H2 : Hp} (a : But w H H1) (b : But w H1 H2) : But w H H2 := fun c o n h => b c o n (a c o n h)
theorem But.of_same {w : Addr} {H H' : Hp} (h : Same H H') : But w H H' := fun b o _ e => h b o e
theorem But.new {w : Addr} {H : Hp} {p : Addr} (h : H p = none) (o : HO) : But w H (upd H p o) := .of_same (same_new h o)
theorem But.set {w : Addr} {H : Hp} (o : HO) : But w H (upd H w o) := fun b u n q => by rw [upd_ne n]; exact q
end KB

namespace KB
open PySem PySem.Spec PyProof.Rows L2

/-! ## a dict of the module with text keys, asked by any text -/
inductive Ents : List (Str × V) → List DictEntry → Prop where
  | nil : Ents [] []
  | cons {k : Str} {v : V} {u : Value} {t : Tok} {hs : Int} {r : List (Str × V)} {es : List DictEntry} (rv : RelV v u) (tl : Ents r es) : Ents ((k, v) :: r) (⟨hs, .str k t, u⟩ :: es)
def DictS (K : PySem.W.Frag) (w : World) (d : Addr) (kvs : List (Str × V)) : Prop :=
  ∃ es n, K.lookup d = some ⟨.type "dict", none, .dict es n, #[]⟩ ∧ PySem.W.KeysLit w.params es.toList ∧ (d == sysModules) = false ∧ Ents kvs es.toList
theorem Ents.find {z : Str} : ∀ {kvs : List (Str × V)} {es : List DictEntry}, Ents kvs es →
    (es.find? (·.key.isStr z) = none ∧ kvs.lookup z = none ∧ es.any (·.refKey) = false) ∨ ∃ e v, es.find? (·.key.isStr z) = some e ∧ kvs.lookup z = some v ∧ RelV v e.val
  | _, _, .nil => .inl ⟨rfl, rfl, rfl⟩
  | _, _, .cons (k := k) (v := v) (u := u) rv tl => by
    by_cases h : k = z
    · subst h
      refine .inr ⟨_, v, List.find?_cons_of_pos (by simp [Value.isStr]), ?_, rv⟩
      simp [List.lookup]
    · have h1 : ((z == k) : Bool) = false := beq_eq_false_iff_ne.mpr fun q => h q.symm
      have h2 : (Value.isStr (.str k (by assumption)) z) = false := by
        show (k == z) = false
        exact beq_eq_false_iff_ne.mpr h
      rcases tl.find (z := z) with ⟨a, b, c⟩ | ⟨e, v', a, b, c⟩
      · refine .inl ⟨?_, ?_, ?_⟩
        · rw [List.find?_cons_of_neg (by show ¬ (Value.isStr (.str k _) z) = true; rw [show Value.isStr (.str k _) z = (k == z) from rfl, beq_eq_false_iff_ne.mpr h]; exact Bool.false_ne_true)]
          exact a
        · simp [List.lookup, h1, b]
        · rw [List.any_cons, c]; rfl
      · refine .inr ⟨e, v', ?_, ?_, c⟩
        · rw [List.find?_cons_of_neg (by show ¬ (Value.isStr (.str k _) z) = true; rw [show Value.isStr (.str k _) z = (k == z) from rfl, beq_eq_false_iff_ne.mpr h]; exact Bool.false_ne_true)]
          exact a
        · simp [List.lookup, h1, b]
theorem DictS.ns {K : PySem.W.Frag} {w : World} {d : Addr} {kvs : List (Str × V)} (D : DictS K w d kvs) (z : Str) :
    (PySem.W.nsIn K d z = some none ∧ kvs.lookup z = none) ∨ ∃ u v, PySem.W.nsIn K d z = some (some u) ∧ kvs.lookup z = some v ∧ RelV v u := by
  obtain ⟨es, n, hl, _, _, he⟩ := D
  rcases he.find (z := z) with ⟨a, b, c⟩ | ⟨e, v, a, b, c⟩
  · refine .inl ⟨?_, b⟩
    unfold PySem.W.nsIn; rw [hl]; simp only [a, c]; rfl
  · refine .inr ⟨e.val, v, ?_, b, c⟩
    unfold PySem.W.nsIn; rw [hl]; simp only [a]
section
variable {X : Cx} {kvs : List (Str × V)}
def rInDS (K : PySem.W.Frag) (w : World) (neg : Bool) : R2 := fun x y H Q => ∃ (z : Str) (d : Addr) (kvs : List (Str × V)), x = .str z ∧ y = .ref d ∧ DictS K w d kvs ∧ Q (.bl (if neg then !(kvs.lookup z).isSome else (kvs.lookup z).isSome)) H
theorem op_in_DS : OpR X (compareOp .In) (rInDS X.K X.w false) := by
  intro pins s σ H x y v u Q I rx ry ⟨z, d, kvs, ex, ey, D, q⟩
  obtain ⟨es, n, a, b, c, _⟩ := id D
  have kd : KDict X.K X.w d es n := ⟨a, b, c⟩
  rcases D.ns z with ⟨e, l⟩ | ⟨u0, v0, e, l, _⟩
  · exact op_in_kd kd pins s σ H x y v u Q I rx ry ⟨z, _, ex, ey, e, by rw [l] at q; exact q⟩
  · exact op_in_kd kd pins s σ H x y v u Q I rx ry ⟨z, _, ex, ey, e, by rw [l] at q; exact q⟩
theorem op_notIn_DS : OpR X (compareOp .NotIn) (rInDS X.K X.w true) := by
  intro pins s σ H x y v u Q I rx ry ⟨z, d, kvs, ex, ey, D, q⟩
  obtain ⟨es, n, a, b, c, _⟩ := id D
  have kd : KDict X.K X.w d es n := ⟨a, b, c⟩
  rcases D.ns z with ⟨e, l⟩ | ⟨u0, v0, e, l, _⟩
  · exact op_notIn_kd kd pins s σ H x y v u Q I rx ry ⟨z, _, ex, ey, e, by rw [l] at q; exact q⟩
  · exact op_notIn_kd kd pins s σ H x y v u Q I rx ry ⟨z, _, ex, ey, e, by rw [l] at q; exact q⟩
def rIxDS (K : PySem.W.Frag) (w : World) : R2 := fun x y H Q => ∃ (z : Str) (d : Addr) (kvs : List (Str × V)) (v : V), x = .ref d ∧ y = .str z ∧ DictS K w d kvs ∧ kvs.lookup z = some v ∧ Q v H
theorem ix_DS : IxR X (rIxDS X.K X.w) := by
  intro value slice pins s σ H x y v u Q I rx ry ⟨z, d, kvs, v1, ex, ey, D, hl, q⟩ hs
  obtain ⟨es, n, a, b, c, _⟩ := id D
  rcases D.ns z with ⟨e, l⟩ | ⟨u0, v0, e, l, r⟩
  · rw [l] at hl; cases hl
  · rw [l] at hl; cases hl
    exact ix_kdict value slice pins s σ H x y v u Q I rx ry ⟨d, z, _, ex, ey, ⟨es, n, u0, a, b, e, r⟩, q⟩ hs
def rIxB (K : PySem.W.Frag) (w : World) : R2 := fun x y H Q => rIx K x y H Q ∨ rIxDS K w x y H Q
theorem ix_B : IxR X (rIxB X.K X.w) := ix_seq.or ix_DS
end

/-! ## the heap without one object -/
def out (w : Addr) (H : Hp) : Hp := fun b => if b = w then none else H b
theorem out_ne {w b : Addr} {H : Hp} (h : b ≠ w) : out w H b = H b := if_neg h
theorem out_self {w : Addr} {H : Hp} : out w H w = none := if_pos rfl
theorem out_some {w b : Addr} {H : Hp} {o : HO} (h : out w H b = some o) : b ≠ w ∧ H b = some o := by
  by_cases e : b = w
  · rw [e, out_self] at h; cases h
  · rw [out_ne e] at h; exact ⟨e, h⟩
theorem out_sub (w : Addr) (H : Hp) : Same (out w H) H := fun _ _ h => (out_some h).2
theorem out_new {w p : Addr} {H : Hp} (h : H p = none) (o : HO) : Same (out w H) (out w (upd H p o)) := fun b u q => by
  obtain ⟨n, e⟩ := out_some q
  rw [out_ne n, upd_ne (ne_of_none e h)]; exact e
theorem out_set {w : Addr} {H : Hp} (o : HO) : Same (out w H) (out w (upd H w o)) := fun b u q => by
  obtain ⟨n, e⟩ := out_some q
  rw [out_ne n, upd_ne n]; exact e
theorem out_at {w p : Addr} {H : Hp} {o : HO} (n : p ≠ w) (h : H p = some o) : out w H p = some o := by rw [out_ne n]; exact h
theorem out_same {w : Addr} {H H' : Hp} (h : Same H H') : Same (out w H) (out w H') := fun b o q => by
  obtain ⟨n, e⟩ := out_some q
  rw [out_ne n]; exact h b o e
/-! ## data that stand -/
mutual
theorem Dp.same {K : PySem.W.Frag} {H H' : Hp} (s : Same H H') : ∀ {d : PyData} {v : V}, Dp K H v d → Dp K H' v d
  | _, _, .non => .non
  | _, _, .bl b => .bl b
  | _, _, .int i => .int i
  | _, _, .str x => .str x
  | _, _, .lst h a => .lst (L2.Same.seq s h) (DpAll.same s a)
  | _, _, .tup h a => .tup (Same.tup s h) (DpAll.same s a)
theorem DpAll.same {K : PySem.W.Frag} {H H' : Hp} (s : Same H H') : ∀ {ds : List PyData} {vs : List V}, DpAll K H vs ds → DpAll K H' vs ds
  | _, _, .nil => .nil
  | _, _, .cons h a => .cons (Dp.same s h) (DpAll.same s a)
end
end KB

namespace KB
open PySem PySem.Spec PyProof.Rows L2

/-! ## own classes of errors -/
structure ExcF (K : PySem.W.Frag) (mg : Str → Option Value) (x : Str) (C : Addr) : Prop where
  g : mg x = some (.ref C)
  q : PySem.W.excIn K C [.type "ValueError", .type "Exception", .type "BaseException", .type "object"] "ValueError.__new__" = true
  k : PySem.W.keepIn K (.ref C) = true
  b : PySem.W.subIn K (.ref C) (.type "BaseException") = some true
  t : PySem.W.typeIn K (.ref C) = some (.type "type")
  i : PySem.W.isClsIn K C = true
  s : PySem.W.subIn K (.ref C) (.ref C) = some true
theorem ps_raiseO {X : Cx} {W : WX} {x m : Str} {C : Addr} {j : Nat} {p p2 pos pos2 : Pos} (hc : X.calm = true) (tk : Takes X W) (F : ExcF X.K X.mg x C) (hg : Gl X x := by rfl) (hdb : (x == ("__debug__" : Str)) = false := by decide) :
    PS X (.Raise (some (.Call (.Name x p) [.Constant (.str m) j p2] [] pos)) none pos2) (fun _ σ H => W (.ref C) none σ H) :=
  ps_raise hc tk (pmk_own PySem.F.excBase_ValueError F.q F.g F.k (raises_own F.b F.t) hg hdb)

/-- a constant of the module: a text; a dict -/
theorem pe_globS {X : Cx} {x z : Str} {pos : Pos} (hg : Gl X x) (hm : ∃ t, X.mg x = some (.str z t)) (hd : (x == ("__debug__" : Str)) = false := by decide) : PE X (.Name x pos) (tC (.str z)) := by
  obtain ⟨t, h⟩ := hm
  exact pe_glob hg h ⟨_, rfl⟩ hd
def tDS (K : PySem.W.Frag) (w : World) (kvs : List (Str × V)) : TE := fun _ H Q => ∀ d, DictS K w d kvs → Q (.ref d) H
theorem pe_globD {X : Cx} {x : Str} {kvs : List (Str × V)} {pos : Pos} (hg : Gl X x) (hm : ∃ d, X.mg x = some (.ref d) ∧ DictS X.K X.w d kvs) (hd : (x == ("__debug__" : Str)) = false := by decide) : PE X (.Name x pos) (tDS X.K X.w kvs) := by
  obtain ⟨d, h, D⟩ := hm
  exact ⟨fun pins s σ H Q I q => (pe_glob (v := .ref d) hg h (by exact rfl) hd).run pins s σ H Q I (q d D)⟩

/-! ## kinds -/
inductive Kd where
  | b (n : Nat) | u | p (x y : Kd) | f (x y : Kd)
  deriving DecidableEq, Repr
namespace Kd
def dat : Kd → PyData
  | b n => .tuple [.str "base", .int n]
  | u => .tuple [.str "unit"]
  | p x y => .tuple [.str "both", x.dat, y.dat]
  | f x y => .tuple [.str "from", x.dat, y.dat]
def ok : Kd → Prop
  | b n => n < 8
  | u => True
  | p x y => x.ok ∧ y.ok
  | f x y => x.ok ∧ y.ok
def leaves : Kd → Nat
  | b _ => 1 | u => 1
  | p x y => x.leaves + y.leaves
  | f x y => x.leaves + y.leaves
def deep : Kd → Nat
  | b _ => 1 | u => 1
  | p x y => 1 + max x.deep y.deep
  | f x y => 1 + max x.deep y.deep
theorem leaves_pos : ∀ k : Kd, 1 ≤ k.leaves
  | b _ => Nat.le_refl _
  | u => Nat.le_refl _
  | p x y => by have := leaves_pos x; simp only [leaves]; omega
  | f x y => by have := leaves_pos x; simp only [leaves]; omega
theorem deep_le : ∀ k : Kd, k.deep ≤ k.leaves
  | b _ => Nat.le_refl _
  | u => Nat.le_refl _
  | p x y => by have := deep_le x; have := deep_le y; have := leaves_pos x; have := leaves_pos y; simp only [leaves, deep]; omega
  | f x y => by have := deep_le x; have := deep_le y; have := leaves_pos x; have := leaves_pos y; simp only [leaves, deep]; omega
theorem dat_depth : ∀ k : Kd, k.dat.depth = k.deep
  | b _ => by simp [dat, deep, PyData.depth, PyData.depthAll]
  | u => by simp [dat, deep, PyData.depth, PyData.depthAll]
  | p x y => by have := dat_depth x; have := dat_depth y; simp only [dat, deep, PyData.depth, PyData.depthAll]; omega
  | f x y => by have := dat_depth x; have := dat_depth y; simp only [dat, deep, PyData.depth, PyData.depthAll]; omega
theorem dat_lay : ∀ k : Kd, k.dat.canLay0 = true
  | b _ => by simp [dat, PyData.canLay0, PyData.canLayAll0]; decide +kernel
  | u => by simp [dat, PyData.canLay0, PyData.canLayAll0]; decide +kernel
  | p x y => by simp [dat, PyData.canLay0, PyData.canLayAll0, dat_lay x, dat_lay y]; decide +kernel
  | f x y => by simp [dat, PyData.canLay0, PyData.canLayAll0, dat_lay x, dat_lay y]; decide +kernel
end Kd

/-! ## any thing: data, empty dicts among them -/
mutual
inductive Dq (K : PySem.W.Frag) (H : Hp) : V → PyData → Prop
  | non : Dq K H .non .none
  | bl (b : Bool) : Dq K H (.bl b) (.bool b)
  | int (i : Int) : Dq K H (.int i) (.int i)
  | str (x : Str) : Dq K H (.str x) (.str x)
  | lst {a : Addr} {xs : List V} {ds : List PyData} : SqL K H a xs → DqAll K H xs ds → Dq K H (.ref a) (.list ds)
  | tup {a : Addr} {xs : List V} {ds : List PyData} : SqT K H a xs → DqAll K H xs ds → Dq K H (.ref a) (.tuple ds)
  | dct {a : Addr} : H a = some (.dK []) → Dq K H (.ref a) (.dict [])
inductive DqAll (K : PySem.W.Frag) (H : Hp) : List V → List PyData → Prop
  | nil : DqAll K H [] []
  | cons {v : V} {vs : List V} {d : PyData} {ds : List PyData} : Dq K H v d → DqAll K H vs ds → DqAll K H (v :: vs) (d :: ds)
end
mutual
theorem Dq.same {K : PySem.W.Frag} {H H' : Hp} (s : Same H H') : ∀ {d : PyData} {v : V}, Dq K H v d → Dq K H' v d
  | _, _, .non => .non
  | _, _, .bl b => .bl b
  | _, _, .int i => .int i
  | _, _, .str x => .str x
  | _, _, .lst h a => .lst (L2.Same.seq s h) (DqAll.same s a)
  | _, _, .tup h a => .tup (Same.tup s h) (DqAll.same s a)
  | _, _, .dct h => .dct (s _ _ h)
theorem DqAll.same {K : PySem.W.Frag} {H H' : Hp} (s : Same H H') : ∀ {ds : List PyData} {vs : List V}, DqAll K H vs ds → DqAll K H' vs ds
  | _, _, .nil => .nil
  | _, _, .cons h a => .cons (Dq.same s h) (DqAll.same s a)
end
mutual
theorem Dq.dp {K : PySem.W.Frag} {H : Hp} : ∀ {d : PyData} {v : V}, d.canLay0 = true → Dq K H v d → Dp K H v d
  | _, _, _, .non => .non
  | _, _, _, .bl b => .bl b
  | _, _, _, .int i => .int i
  | _, _, _, .str x => .str x
  | _, _, c, .lst h a => .lst h (DqAll.dp (by simpa [PyData.canLay0] using c) a)
  | _, _, c, .tup h a => .tup h (DqAll.dp (by simpa [PyData.canLay0] using c) a)
  | _, _, c, .dct _ => by simp [PyData.canLay0] at c
theorem DqAll.dp {K : PySem.W.Frag} {H : Hp} : ∀ {ds : List PyData} {vs : List V}, PyData.canLayAll0 ds = true → DqAll K H vs ds → DpAll K H vs ds
  | _, _, _, .nil => .nil
  | d :: ds, _, c, .cons h a => by
    have c' : d.canLay0 = true ∧ PyData.canLayAll0 ds = true := by simpa [PyData.canLayAll0] using c
    exact .cons (Dq.dp c'.1 h) (DqAll.dp c'.2 a)
end
mutual
theorem Dq.of {K : PySem.W.Frag} {H : Hp} : ∀ {d : PyData} {v : V}, Dp K H v d → Dq K H v d
  | _, _, .non => .non
  | _, _, .bl b => .bl b
  | _, _, .int i => .int i
  | _, _, .str x => .str x
  | _, _, .lst h a => .lst h (DqAll.of a)
  | _, _, .tup h a => .tup h (DqAll.of a)
theorem DqAll.of {K : PySem.W.Frag} {H : Hp} : ∀ {ds : List PyData} {vs : List V}, DpAll K H vs ds → DqAll K H vs ds
  | _, _, .nil => .nil
  | _, _, .cons h a => .cons (Dq.of h) (DqAll.of a)
end
theorem DqAll.length {K : PySem.W.Frag} {H : Hp} : ∀ {ds : List PyData} {vs : List V}, DqAll K H vs ds → vs.length = ds.length
  | _, _, .nil => rfl
  | _, _, .cons _ a => congrArg (· + 1) (DqAll.length a)
theorem DqAll.append {K : PySem.W.Frag} {H : Hp} : ∀ {ds es : List PyData} {vs us : List V}, DqAll K H vs ds → DqAll K H us es → DqAll K H (vs ++ us) (ds ++ es)
  | _, _, _, _, .nil, b => b
  | _, _, _, _, .cons h a, b => .cons h (DqAll.append a b)
/-- the last one -/
theorem DqAll.last {K : PySem.W.Frag} {H : Hp} : ∀ {ds : List PyData} {d : PyData} {vs : List V}, DqAll K H vs (ds ++ [d]) → ∃ us v, vs = us ++ [v] ∧ DqAll K H us ds ∧ Dq K H v d
  | [], _, _, .cons h .nil => ⟨[], _, rfl, .nil, h⟩
  | _ :: ds, d, _, .cons h a => by
    obtain ⟨us, v, rfl, b, c⟩ := DqAll.last (ds := ds) a
    exact ⟨_ :: us, v, rfl, .cons h b, c⟩
def tyN : PyData → String
  | .none => "NoneType" | .bool _ => "bool" | .int _ => "int" | .str _ => "str" | .list _ => "list" | .tuple _ => "tuple" | .dict _ => "dict"
theorem Dq.ty {K : PySem.W.Frag} {H : Hp} {v : V} {d : PyData} (h : Dq K H v d) : TyB K H v (tyN d) := by
  cases h with
  | non => exact .non
  | bl b => exact .bl b
  | int i => exact .int i
  | str x => exact .str x
  | lst s _ => exact .lst s
  | tup s _ => exact .tup s
  | dct e => exact .dK e

/-! ## sizes -/
mutual
def sz : PyData → Nat
  | .list xs => 1 + szs xs
  | .tuple xs => 1 + szs xs
  | .none => 1 | .bool _ => 1 | .int _ => 1 | .str _ => 1 | .dict _ => 1
def szs : List PyData → Nat
  | [] => 0
  | x :: xs => sz x + szs xs
end
theorem szs_append : ∀ xs ys : List PyData, szs (xs ++ ys) = szs xs + szs ys
  | [], ys => by simp [szs]
  | x :: xs, ys => by simp only [List.cons_append, szs, szs_append xs ys]; omega
theorem sz_pos : ∀ d : PyData, 1 ≤ sz d
  | .list xs => by simp only [sz]; omega
  | .tuple xs => by simp only [sz]; omega
  | .none => by simp [sz]
  | .bool _ => by simp [sz]
  | .int _ => by simp [sz]
  | .str _ => by simp [sz]
  | .dict _ => by simp [sz]
theorem len_szs : ∀ ds : List PyData, ds.length ≤ szs ds
  | [] => Nat.zero_le _
  | d :: ds => by have := sz_pos d; have := len_szs ds; simp only [szs, List.length_cons]; omega
theorem Kd.sz_dat : ∀ k : Kd, sz k.dat ≤ 6 * k.leaves - 3
  | .b _ => by simp [Kd.dat, sz, szs, Kd.leaves]
  | .u => by simp [Kd.dat, sz, szs, Kd.leaves]
  | .p x y => by have := sz_dat x; have := sz_dat y; have := Kd.leaves_pos x; have := Kd.leaves_pos y; simp only [Kd.dat, sz, szs, Kd.leaves]; omega
  | .f x y => by have := sz_dat x; have := sz_dat y; have := Kd.leaves_pos x; have := Kd.leaves_pos y; simp only [Kd.dat, sz, szs, Kd.leaves]; omega
theorem fits {n : Nat} (h : n ≤ 10000000) : n ≤ sizeLine := Nat.le_trans h (by decide)
theorem fits_lt {n : Nat} (h : n ≤ 10000000) : n < sizeLine := Nat.lt_of_le_of_lt h (by decide)
theorem dl_append {α : Type} (xs : List α) (x : α) : (xs ++ [x]).dropLast = xs := by simp
theorem last_at {α : Type} (xs : List α) (x : α) : (xs ++ [x])[(xs ++ [x]).length - 1]? = some x := by simp
theorem cut1 (xs : List V) (x : V) : cutV (x :: xs) (some 1) none = xs := by
  have e : HT.sIx (x :: xs).length 0 (some 1) = 1 := by
    have := HT.sIx_nat (x :: xs).length 0 1
    rw [List.length_cons] at this ⊢
    exact this.trans (by omega)
  unfold cutV
  rw [e]
  show (List.drop 1 (x :: xs)).take ((x :: xs).length - 1) = xs
  simp
theorem cut1_not (xs : List V) (x : V) : ¬ (HT.sIx (x :: xs).length 0 (some 1) = 0 ∧ HT.sIx (x :: xs).length (x :: xs).length none = (x :: xs).length) := by
  have e : HT.sIx (x :: xs).length 0 (some 1) = 1 := by
    have := HT.sIx_nat (x :: xs).length 0 1
    rw [List.length_cons] at this ⊢
    exact this.trans (by omega)
  rw [e]; intro h; exact absurd h.1 (by decide)

/-! ## what a kind is -/
def isBn : PyData → Bool
  | .int n => decide (0 ≤ n) && decide (n < 8)
  | _ => false
/-- a kind, if what it is made of are such -/
def shp : PyData → Bool
  | .tuple (.str w :: r) =>
    if w = "base" then (match r with | [x] => isBn x | _ => false)
    else if w = "unit" then r.isEmpty
    else (decide (w = "both") || decide (w = "from")) && r.length == 2
  | _ => false
def isKd : PyData → Bool
  | .tuple [.str w] => decide (w = "unit")
  | .tuple [.str w, x] => decide (w = "base") && isBn x
  | .tuple [.str w, x, y] => (decide (w = "both") || decide (w = "from")) && (isKd x && isKd y)
  | _ => false
theorem isKd_dat : ∀ k : Kd, k.ok → isKd k.dat = true
  | .b n, h => by
    have h' : n < 8 := h
    simp only [Kd.dat, isKd, isBn]
    rw [decide_eq_true (by omega : (0 : Int) ≤ (n : Int)), decide_eq_true (by omega : (n : Int) < 8)]; decide
  | .u, _ => by decide
  | .p x y, h => by simp only [Kd.dat, isKd, isKd_dat x h.1, isKd_dat y h.2]; decide
  | .f x y, h => by simp only [Kd.dat, isKd, isKd_dat x h.1, isKd_dat y h.2]; decide
theorem kd_of : ∀ d : PyData, isKd d = true → ∃ k : Kd, k.ok ∧ d = k.dat
  | .tuple [.str w], h => by
    simp only [isKd, decide_eq_true_eq] at h
    exact ⟨.u, trivial, by rw [h]; rfl⟩
  | .tuple [.str w, x], h => by
    simp only [isKd, Bool.and_eq_true, decide_eq_true_eq] at h
    obtain ⟨h1, h2⟩ := h
    cases x <;> simp only [isBn, Bool.and_eq_true, decide_eq_true_eq] at h2 <;> try cases h2
    rename_i n a b
    refine ⟨.b n.toNat, by show n.toNat < 8; omega, ?_⟩
    have e : ((n.toNat : Nat) : Int) = n := by omega
    simp only [Kd.dat, e, h1]
  | .tuple [.str w, x, y], h => by
    simp only [isKd, Bool.and_eq_true, Bool.or_eq_true, decide_eq_true_eq] at h
    obtain ⟨h1, h2, h3⟩ := h
    obtain ⟨kx, ox, ex⟩ := kd_of x h2
    obtain ⟨ky, oy, ey⟩ := kd_of y h3
    rcases h1 with h1 | h1
    · exact ⟨.p kx ky, ⟨ox, oy⟩, by rw [h1, ex, ey]; rfl⟩
    · exact ⟨.f kx ky, ⟨ox, oy⟩, by rw [h1, ex, ey]; rfl⟩
  | .none, h => by simp [isKd] at h
  | .bool _, h => by simp [isKd] at h
  | .int _, h => by simp [isKd] at h
  | .str _, h => by simp [isKd] at h
  | .list _, h => by simp [isKd] at h
  | .dict _, h => by simp [isKd] at h
  | .tuple [], h => by simp [isKd] at h
  | .tuple (.none :: _), h => by simp [isKd] at h
  | .tuple (.bool _ :: _), h => by simp [isKd] at h
  | .tuple (.int _ :: _), h => by simp [isKd] at h
  | .tuple (.list _ :: _), h => by simp [isKd] at h
  | .tuple (.tuple _ :: _), h => by simp [isKd] at h
  | .tuple (.dict _ :: _), h => by simp [isKd] at h
  | .tuple (.str _ :: _ :: _ :: _ :: _), h => by simp [isKd] at h
def kids : PyData → List PyData
  | .tuple (.str w :: r) => if w = "both" ∨ w = "from" then r else []
  | _ => []
theorem kids_sz : ∀ d : PyData, szs (kids d) < sz d
  | .none => by simp [kids, sz, szs]
  | .bool _ => by simp [kids, sz, szs]
  | .int _ => by simp [kids, sz, szs]
  | .str _ => by simp [kids, sz, szs]
  | .list _ => by simp only [kids, sz, szs]; omega
  | .dict _ => by simp [kids, sz, szs]
  | .tuple [] => by simp [kids, sz, szs]
  | .tuple (.none :: _) => by simp only [kids, sz, szs]; omega
  | .tuple (.bool _ :: _) => by simp only [kids, sz, szs]; omega
  | .tuple (.int _ :: _) => by simp only [kids, sz, szs]; omega
  | .tuple (.list _ :: _) => by simp only [kids, sz, szs]; omega
  | .tuple (.tuple _ :: _) => by simp only [kids, sz, szs]; omega
  | .tuple (.dict _ :: _) => by simp only [kids, sz, szs]; omega
  | .tuple (.str w :: r) => by
    simp only [kids]
    split
    · simp only [sz, szs]; omega
    · simp only [sz, szs]; omega
/-- a thing that has a kind's shape -/
theorem shp_is : ∀ d : PyData, shp d = true → ∃ w r, d = .tuple (.str w :: r)
  | .tuple (.str w :: r), _ => ⟨w, r, rfl⟩
  | .tuple [], h => by simp [shp] at h
  | .tuple (.none :: _), h => by simp [shp] at h
  | .tuple (.bool _ :: _), h => by simp [shp] at h
  | .tuple (.int _ :: _), h => by simp [shp] at h
  | .tuple (.list _ :: _), h => by simp [shp] at h
  | .tuple (.tuple _ :: _), h => by simp [shp] at h
  | .tuple (.dict _ :: _), h => by simp [shp] at h
  | .none, h => by simp [shp] at h
  | .bool _, h => by simp [shp] at h
  | .int _, h => by simp [shp] at h
  | .str _, h => by simp [shp] at h
  | .list _, h => by simp [shp] at h
  | .dict _, h => by simp [shp] at h
theorem unit_ne_base : ¬ (("unit" : Str) = "base") := by decide
/-- one turn of a walk that takes a thing apart -/
theorem isKd_turn : ∀ d : PyData, isKd d = (shp d && (kids d).all isKd)
  | .none => rfl
  | .bool _ => rfl
  | .int _ => rfl
  | .str _ => rfl
  | .list _ => rfl
  | .dict _ => rfl
  | .tuple [] => by simp [isKd, shp]
  | .tuple (.none :: _) => by simp [isKd, shp]
  | .tuple (.bool _ :: _) => by simp [isKd, shp]
  | .tuple (.int _ :: _) => by simp [isKd, shp]
  | .tuple (.list _ :: _) => by simp [isKd, shp]
  | .tuple (.tuple _ :: _) => by simp [isKd, shp]
  | .tuple (.dict _ :: _) => by simp [isKd, shp]
  | .tuple [.str w] => by
    by_cases h : w = "base"
    · subst h; decide
    · by_cases h2 : w = "unit"
      · subst h2; decide
      · simp [isKd, shp, h, h2]
  | .tuple [.str w, x] => by
    by_cases h : w = "base"
    · subst h
      have e : kids (.tuple [.str "base", x]) = [] := by simp only [kids]; exact if_neg (by decide)
      rw [e]; simp [isKd, shp]
    · by_cases h2 : w = "unit"
      · subst h2; simp [isKd, shp, unit_ne_base]
      · simp [isKd, shp, h, h2]
  | .tuple [.str w, x, y] => by
    by_cases h : w = "base"
    · subst h; simp [isKd, shp]; intro h3; rcases h3 with h3 | h3 <;> exact absurd h3 (by decide)
    · by_cases h2 : w = "unit"
      · subst h2; simp [isKd, shp, unit_ne_base]; intro h3; rcases h3 with h3 | h3 <;> exact absurd h3 (by decide)
      · by_cases h3 : w = "both" ∨ w = "from"
        · simp [isKd, shp, h, h2, kids, h3]
        · have h4 : ¬ w = "both" := fun e => h3 (.inl e)
          have h5 : ¬ w = "from" := fun e => h3 (.inr e)
          simp [isKd, shp, h, h2, h4, h5]
  | .tuple (.str w :: x :: y :: z :: r) => by
    by_cases h : w = "base"
    · subst h; simp [isKd, shp]
    · by_cases h2 : w = "unit"
      · subst h2; simp [isKd, shp, unit_ne_base]
      · simp [isKd, shp, h, h2]
end KB
namespace KB
theorem iteT' {c : Bool} {A B : Prop} (e : c = true) (h : A) : if c = true then A else B := by rw [if_pos e]; exact h
theorem iteF' {c : Bool} {A B : Prop} (e : c = false) (h : B) : if c = true then A else B := by rw [e]; exact L2.iteF h
end KB
namespace KB
open L2
theorem at0 {α : Type} (x : α) (xs : List α) : atI (x :: xs) 0 = some x := atI_nat (j := 0) rfl
theorem at1 {α : Type} (x y : α) (xs : List α) : atI (x :: y :: xs) 1 = some y := atI_nat (j := 1) rfl
theorem at2 {α : Type} (x y z : α) (xs : List α) : atI (x :: y :: z :: xs) 2 = some z := atI_nat (j := 2) rfl
theorem qbl {Q : VK} {H : Hp} {a b : Bool} (q : Q (.bl a) H) (e : a = b) : Q (.bl b) H := e ▸ q
theorem len_cons_int {α : Type} (x : α) (xs : List α) : (((x :: xs).length : Nat) : Int) = (xs.length : Int) + 1 := by rw [List.length_cons]; omega
end KB
namespace KB
open PySem L2
theorem same_keepO' {H : Hp} {l : Addr} (hl : H l = none) {o : HO} : Same H (out l (upd H l o)) := fun b u e => by
  have n := ne_of_none e hl
  rw [out_ne n, upd_ne n]; exact e
theorem same_keep {H H' : Hp} {l : Addr} (hl : H l = none) (s : Same H (out l H')) (o : HO) : Same H (upd H' l o) := fun b u e => by
  have n := ne_of_none e hl
  rw [upd_ne n]; exact (out_some (s b u e)).2
theorem same_keepO {H H' : Hp} {l : Addr} (s : Same H (out l H')) (o : HO) : Same H (out l (upd H' l o)) := fun b u e => by
  obtain ⟨n, h⟩ := out_some (s b u e)
  rw [out_ne n, upd_ne n]; exact h
theorem out_upd {H : Hp} {l : Addr} {o : HO} : Same (out l H) (upd H l o) := fun b u e => by
  obtain ⟨n, h⟩ := out_some e
  rw [upd_ne n]; exact h
theorem of_out {H H' : Hp} {l : Addr} (s : Same H (out l H')) : Same H H' := fun b u e => (out_some (s b u e)).2
end KB

namespace KB
open PySem PySem.Spec PyProof.Rows L2

/-! ## texts of kinds, as lists of codes -/
def tx (l : List Nat) : Str := ⟨l.toArray⟩
theorem tx_tl (x : Str) : tx x.cps.toList = x := by cases x; simp [tx]
theorem tl_tx (l : List Nat) : (tx l).cps.toList = l := by simp [tx]
theorem tx_append (a b : List Nat) : tx a ++ tx b = tx (a ++ b) := Str.ext' (by rw [Str.cps_append]; simp [tx])
theorem tx_length (a : List Nat) : (tx a).length = a.length := by show a.toArray.size = _; simp
theorem tx_inj {a b : List Nat} (h : tx a = tx b) : a = b := by rw [← tl_tx a, h, tl_tx]
namespace Kd
def cod : Kd → List Nat
  | b n => [97 + n]
  | u => [49]
  | p x y => 40 :: (x.cod ++ 42 :: (y.cod ++ [41]))
  | f x y => 40 :: (x.cod ++ 62 :: (y.cod ++ [41]))
def txt (k : Kd) : Str := tx k.cod
theorem cod_length : ∀ k : Kd, k.cod.length + 3 ≤ 4 * k.leaves
  | b _ => by simp [cod, leaves]
  | u => by simp [cod, leaves]
  | p x y => by have := cod_length x; have := cod_length y; simp only [cod, leaves, List.length_cons, List.length_append, List.length_nil]; omega
  | f x y => by have := cod_length x; have := cod_length y; simp only [cod, leaves, List.length_cons, List.length_append, List.length_nil]; omega
theorem leaves_sz : ∀ k : Kd, k.leaves + 1 ≤ sz k.dat
  | b _ => by simp [dat, sz, szs, leaves]
  | u => by simp [dat, sz, szs, leaves]
  | p x y => by have := leaves_sz x; have := leaves_sz y; simp only [dat, sz, szs, leaves]; omega
  | f x y => by have := leaves_sz x; have := leaves_sz y; simp only [dat, sz, szs, leaves]; omega
/-- what a walk over the kind has to do -/
def wk : Kd → Nat
  | b _ => 1 | u => 1
  | p x y => x.wk + y.wk + 4
  | f x y => x.wk + y.wk + 4
theorem wk_le : ∀ k : Kd, k.wk + 4 ≤ 5 * k.leaves
  | b _ => by simp [wk, leaves]
  | u => by simp [wk, leaves]
  | p x y => by have := wk_le x; have := wk_le y; simp only [wk, leaves]; omega
  | f x y => by have := wk_le x; have := wk_le y; simp only [wk, leaves]; omega
theorem dat_inj : ∀ x y : Kd, x.dat = y.dat → x = y
  | b n, b m, h => by simp only [dat, PyData.tuple.injEq, List.cons.injEq, PyData.int.injEq] at h; have : n = m := by omega
                      rw [this]
  | u, u, _ => rfl
  | p x y, p x' y', h => by
    simp only [dat, PyData.tuple.injEq, List.cons.injEq, and_true, true_and] at h
    rw [dat_inj x x' h.1, dat_inj y y' h.2]
  | f x y, f x' y', h => by
    simp only [dat, PyData.tuple.injEq, List.cons.injEq, and_true, true_and] at h
    rw [dat_inj x x' h.1, dat_inj y y' h.2]
  | b _, u, h => by simp [dat] at h
  | b _, p _ _, h => by simp [dat] at h
  | b _, f _ _, h => by simp [dat] at h
  | u, b _, h => by simp [dat] at h
  | u, p _ _, h => by simp [dat] at h
  | u, f _ _, h => by simp [dat] at h
  | p _ _, b _, h => by simp [dat] at h
  | p _ _, u, h => by simp [dat] at h
  | f _ _, b _, h => by simp [dat] at h
  | f _ _, u, h => by simp [dat] at h
  | p _ _, f _ _, h => by
    simp only [dat, PyData.tuple.injEq, List.cons.injEq, PyData.str.injEq] at h
    exact absurd h.1 (by decide)
  | f _ _, p _ _, h => by
    simp only [dat, PyData.tuple.injEq, List.cons.injEq, PyData.str.injEq] at h
    exact absurd h.1 (by decide)
end Kd
theorem joinL_nil : ∀ ls : List (List Nat), TL.joinL [] ls = ls.flatten
  | [] => rfl
  | [p] => by simp [TL.joinL]
  | p :: q :: r => by simp only [TL.joinL, joinL_nil (q :: r), List.flatten_cons, List.nil_append]
theorem join_nil (ls : List (List Nat)) : Txt.join "" (ls.map tx) = tx ls.flatten := by
  rw [TL.join_eq, ← tx_tl (Str.join "" (ls.map tx))]
  have h := TL.tl_join "" (ls.map tx)
  have e : TL.tl ("" : Str) = [] := rfl
  rw [e, joinL_nil, List.map_map] at h
  have e2 : (TL.tl ∘ tx) = id := funext fun l => tl_tx l
  rw [e2, List.map_id] at h
  exact congrArg tx h
theorem join_size (ls : List (List Nat)) : ((ls.map tx).map (·.length)).sum = ls.flatten.length := by
  rw [List.map_map, List.length_flatten]
  exact congrArg List.sum (List.map_congr_left fun l _ => tx_length l)
/-- what a walk that writes a kind has on its stack -/
inductive Itm where
  | s (z : List Nat) | k (k : Kd)
namespace Itm
def dat : Itm → PyData
  | .s z => .str (tx z)
  | .k x => x.dat
def cod : Itm → List Nat
  | .s z => z
  | .k x => x.cod
def wk : Itm → Nat
  | .s _ => 1
  | .k x => x.wk
def ok : Itm → Prop
  | .s _ => True
  | .k x => x.ok
theorem wk_pos : ∀ i : Itm, 1 ≤ i.wk
  | .s _ => Nat.le_refl _
  | .k (.b _) => Nat.le_refl _
  | .k .u => Nat.le_refl _
  | .k (.p x y) => by simp only [wk, Kd.wk]; omega
  | .k (.f x y) => by simp only [wk, Kd.wk]; omega
end Itm
def wks (is : List Itm) : Nat := (is.map Itm.wk).sum
/-- the text of a stack, its last one first -/
def cods (is : List Itm) : List Nat := (is.reverse.map Itm.cod).flatten
theorem wks_append (a b : List Itm) : wks (a ++ b) = wks a + wks b := by simp [wks]
theorem cods_snoc (a : List Itm) (x : Itm) : cods (a ++ [x]) = x.cod ++ cods a := by simp [cods]
theorem cods_append (a b : List Itm) : cods (a ++ b) = cods b ++ cods a := by simp [cods]
theorem len_wks : ∀ is : List Itm, is.length ≤ wks is
  | [] => Nat.zero_le _
  | i :: r => by have := i.wk_pos; have := len_wks r; simp only [wks, List.map_cons, List.sum_cons, List.length_cons] at *; omega
end KB
namespace KB
open PySem L2
theorem Kd.ty (k : Kd) : tyN k.dat = "tuple" := by cases k <;> rfl
theorem same2 {H H' : Hp} {l p a : Addr} (h : Same H (out l (out p H'))) (o : HO) (e : a = l ∨ a = p) : Same H (out l (out p (upd H' a o))) := fun b u q => by
  obtain ⟨n1, h1⟩ := out_some (h b u q)
  obtain ⟨n2, h2⟩ := out_some h1
  rw [out_ne n1, out_ne n2, upd_ne (by rcases e with e | e <;> rw [e] <;> assumption)]
  exact h2
theorem same2_new {H H' : Hp} {l p a : Addr} (h : Same H (out l (out p H'))) (o : HO) (e : H' a = none) : Same H (out l (out p (upd H' a o))) := fun b u q => by
  obtain ⟨n1, h1⟩ := out_some (h b u q)
  obtain ⟨n2, h2⟩ := out_some h1
  rw [out_ne n1, out_ne n2, upd_ne (ne_of_none h2 e)]
  exact h2
theorem of_out2 {H H' : Hp} {l p : Addr} (s : Same H (out l (out p H'))) : Same H H' := fun b u e => (out_some (out_some (s b u e)).2).2
theorem out2_sub {H : Hp} {l p : Addr} : Same (out l (out p H)) H := of_out2 (Same.refl _)
theorem strs_map (ls : List (List Nat)) (z : List Nat) : ((ls.map tx).map V.str) ++ [V.str (tx z)] = ((ls ++ [z]).map tx).map V.str := by simp
end KB

namespace KB
open PySem PySem.Spec PyProof.Rows L2
/-! ## xs[lo:hi] = ys, the bounds of any sign -/
section
variable {prog : Program} {w : World} {A : Around} {E : Value → Shared → Prop} {s : Shared}
theorem store_cut {l b sl : Addr} {as bs : List Value} {n n2 : Nat} {vl vu : Value} {lo hi : Option Int} {Q : Unit → Shared → Prop}
    (el : s.heap.get? l = some { cls := .type "list", data := .seq as.toArray n }) (eb : s.heap.get? b = some { cls := .type "list", data := .seq bs.toArray n2 }) (nlb : l ≠ b)
    (is : s.heap.IsSliceOf sl vl vu .none) (pl : IsPart vl lo) (pu : IsPart vu hi) (ord : HT.sIx as.length 0 lo ≤ HT.sIx as.length as.length hi) (room : as.length + bs.length ≤ sizeLine)
    (k : Q () { s with heap := s.heap.update l (Obj.mapSeq fun xs => xs.extract 0 (HT.sIx as.length 0 lo) ++ bs.toArray ++ xs.extract (HT.sIx as.length as.length hi) xs.size) }) :
    wpAny (model prog w) A (setItem (.ref l) (.ref sl) (.ref b)) Q E s := by
  have Ll := (PySem.IsL.isList el).typeIs
  have Lb := (PySem.IsL.isList eb).typeIs
  have hle := HT.sIx_le as.length as.length (Nat.le_refl _) hi
  obtain ⟨o, io, ic, idt⟩ := id is
  have Ls : s.TypeIs (.ref sl) "slice" := ⟨o, io, ic⟩
  have apart : Builtin.List.listSameRef (.ref l) (.ref b) = false := beq_eq_false_iff_ne.mpr nlb
  have szA : as.toArray.size = as.length := by simp
  have szB : bs.toArray.size = bs.length := by simp
  obtain ⟨b1, b2, b3⟩ := slice_bounds lo hi as.length
  have bds : sliceBounds lo hi none as.toArray.size = (((HT.sIx as.length 0 lo : Nat) : Int), ((HT.sIx as.length as.length hi : Nat) : Int), 1) := by rw [szA]; exact Prod.ext b1 (Prod.ext b2 b3)
  generalize hp : HT.sIx as.length 0 lo = p at *
  generalize hq : HT.sIx as.length as.length hi = q at *
  have top : (max (p : Int) (q : Int)).toNat = q := by omega
  have room1 : as.toArray.size ≤ sizeLine := by omega
  have room2 : ((fun xs : Array Value => xs.extract 0 p ++ bs.toArray ++ xs.extract q xs.size) as.toArray).size ≤ sizeLine + 1 := by simp only [Array.size_append, Array.size_extract]; omega
  unfold setItem
  refine wpAny_holding (wpAny_bind (wpAny_sequenceKey Ll (by decide) (wpAny_bind (wpAny_callSpecial?_slot (name := Str.ofString "__setitem__") Ll slot_list_setitem (wpAny_call_entry slot_list_setitem Ll entry_list_setitem ?_ (args_list_setitem _ _ _))))))
  -- the key is a slice: no index of its own
  show wpAny _ _ (Builtin.List.listSubscript? (.ref sl) >>= _) _ _ s
  unfold Builtin.List.listSubscript?
  refine wpAny_bind (wpAny_bind (wpAny_specialOf Ls slice_no_index ?_))
  rw [Option.isNone_none, if_pos rfl]
  refine wpAny_pure ?_
  show wpAny _ _ (typeOf (.ref sl) >>= _) _ _ s
  refine wpAny_bind (wpAny_typeOf Ls (PySem.W.KFB.if_not (by decide) ?_))
  rw [listSliceParts_eq]
  refine wpAny_bind (wpAny_bind (wpAny_field io idt (x := .none) rfl (wpAny_bind (wpAny_listPart .none (PySem.W.KFB.if_not (by decide) ?_)))))
  refine wpAny_bind (wpAny_field io idt (x := vl) rfl (wpAny_bind (wpAny_listPart pl (wpAny_bind (wpAny_field io idt (x := vu) rfl (wpAny_bind (wpAny_listPart pu (wpAny_pure ?_))))))))
  refine PySem.W.KFB.if_not apart (wpAny_bind (m := Builtin.List.listAllItems (.ref b) "must assign iterable to extended slice") ?_)
  unfold Builtin.List.listAllItems
  refine wpAny_bind (wpAny_typeOf Lb (PySem.W.KFB.if_so (by decide) ?_))
  unfold Builtin.List.listItems
  refine wpAny_bind (wpAny_seqItems eb rfl (wpAny_pure (wpAny_bind (wpAny_bind (wpAny_seqItems el rfl (wpAny_pure ?_))))))
  refine wpAny_bind (wpAny_of_eq ((sliceIndices_raw lo hi none as.toArray.size (by simp)).trans (congrArg pure bds)) ?_)
  show wpAny _ _ (if ((1 : Int) == 1) = true then _ else _) _ _ s
  refine PySem.W.KFB.if_so (by decide) (wpAny_bind (wpAny_rule (PySem.W.KFB.if_not (notLongL (by omega)) ?_)))
  show wpAny _ _ (updateSeq l (fun xs => xs.extract 0 ((p : Int)).toNat ++ bs.toArray ++ xs.extract (max (p : Int) (q : Int)).toNat xs.size) >>= _) _ _ s
  rw [top, Int.toNat_natCast]
  refine wpAny_bind (wpAny_updateSeq (hz := room1) (_hz' := room2) el rfl (wpAny_bind (wpAny_letGo ?_)))
  exact wpAny_pure ⟨.none, rfl, wpAny_pure k⟩
end
section
variable {X : Cx}
/-- xs[lo:hi] = ys -/
def gCut (to : TE) (tl th : TO) : TG := fun v σ H Q => to σ H fun o H1 => tl σ H1 fun lo H2 => th σ H2 fun hi H3 => ∃ l b xs ys, o = .ref l ∧ v = .ref b ∧ H3 l = some (.lst xs) ∧ H3 b = some (.lst ys) ∧ l ≠ b ∧
  HT.sIx xs.length 0 lo ≤ HT.sIx xs.length xs.length hi ∧ xs.length + ys.length ≤ sizeLine ∧ Q σ (upd H3 l (.lst (xs.take (HT.sIx xs.length 0 lo) ++ ys ++ xs.drop (HT.sIx xs.length xs.length hi))))
theorem pg_cut {e : Expr} {lo hi : Option Expr} {te : TE} {tl th : TO} {pos p2 : Pos} (he : PE X e te) (hl : PO X lo tl) (hh : PO X hi th) : PG X (.Subscript e (.Slice lo hi none p2) pos) (gCut te tl th) := by
  refine ⟨fun pins s σ H v u Q I r h => ?_⟩
  rw [arm_assign_Subscript]
  refine wpAny_bind (wpAny_holding (thn (he.run pins s σ H _ I h) fun ov s1 ⟨x, H1, I1, r1, q1⟩ => wpAny_bind (wpAny_holding ?_)))
  refine wpAny_Slice (thn (hl.run pins s1 σ H1 _ I1 q1) fun vl s2 ⟨l0, H2, I2, pl, q2⟩ => thn (hh.run pins s2 σ H2 _ I2 q2) fun vu s3 ⟨h0, H3, I3, pu, q3⟩ => ?_)
  rw [evalPart_none]
  refine wpAny_pure ?_
  obtain ⟨l, b, xs, ys, rfl, rfl, hL, hB, nlb, ord, room, q⟩ := q3
  cases r1
  cases r
  have I4 : Inv X pins σ H3 { s3 with heap := s3.heap.push { cls := .type "slice", data := .fields #[vl, vu, .none] } } := I3.kept (t' := s3.toks) fun c o z => Heap.get?_push_of_some _ z
  obtain ⟨_, as, n, ra, la, ea⟩ := I4.lstM hL
  obtain ⟨_, bs, n2, rb, lb, eb⟩ := I4.lstM hB
  refine wpAny_bind (wpAny_standAt (wpAny_bind (wpAny_holding (store_cut ea eb nlb (Heap.IsSliceOf.new ..) pl pu (by rw [← la]; exact ord) (by omega) (wpAny_release ?_)))))
  refine ⟨σ, _, I4.lset (its' := as.take (HT.sIx as.length 0 l0) ++ bs ++ as.drop (HT.sIx as.length as.length h0)) (t' := s3.toks) hL ea ?_ (Vals.append (Vals.append (ra.take _) rb) (ra.drop _)) ?_, ?_⟩
  · exact splice_eq as bs _ _
  · have := HT.sIx_le as.length as.length (Nat.le_refl _) h0
    have o2 := ord
    rw [la] at o2
    have l2 := rb.length
    rw [List.length_append, List.length_append, List.length_take, List.length_drop]; omega
  · rw [← la]; exact q
end

/-! ## reading a kind, sign by sign -/
inductive Pt where
  | s (c : Nat) | k (x : Kd)
def Pt.dat : Pt → PyData
  | .s c => .str (tx [c])
  | .k x => x.dat
def Pt.ok : Pt → Prop
  | .s _ => True
  | .k x => x.ok
/-- a sign alone -/
def rs (c : Nat) : Option Pt :=
  if c = 49 then some (.k .u) else if 97 ≤ c ∧ c < 105 then some (.k (.b (c - 97))) else if c = 40 ∨ c = 42 ∨ c = 62 then some (.s c) else none
/-- a brace is closed; the top of the stack first -/
def clo : List Pt → Option (List Pt)
  | .k y :: .s c :: .k x :: .s b :: r => if b = 40 then (if c = 42 then some (.k (.p x y) :: r) else if c = 62 then some (.k (.f x y) :: r) else none) else none
  | _ => none
def rdR : List Nat → List Pt → Option (List Pt)
  | [], st => some st
  | c :: cs, st => if c = 41 then (match clo st with | none => none | some st' => rdR cs st') else (match rs c with | none => none | some p => rdR cs (p :: st))
def rdE : List Pt → Option Kd
  | [.k x] => some x
  | _ => none
def rdK (cs : List Nat) : Option Kd := (rdR cs []).bind rdE
theorem rs_ok {c : Nat} {p : Pt} (h : rs c = some p) : p.ok := by
  unfold rs at h
  split at h
  · cases h; trivial
  · split at h
    · cases h; rename_i h2; show c - 97 < 8; omega
    · split at h
      · cases h; trivial
      · cases h
theorem clo_is {st st' : List Pt} (h : clo st = some st') : ∃ x y c r, st = .k y :: .s c :: .k x :: .s 40 :: r ∧ ((c = 42 ∧ st' = .k (.p x y) :: r) ∨ (c = 62 ∧ st' = .k (.f x y) :: r)) := by
  unfold clo at h
  split at h
  · rename_i y c x b r
    split at h
    · rename_i hb
      subst hb
      split at h
      · rename_i hc; cases h; exact ⟨x, y, c, r, rfl, .inl ⟨hc, rfl⟩⟩
      · split at h
        · rename_i hc; cases h; exact ⟨x, y, c, r, rfl, .inr ⟨hc, rfl⟩⟩
        · cases h
    · cases h
  · cases h
theorem clo_ok {st st' : List Pt} (h : clo st = some st') (hs : ∀ p ∈ st, p.ok) : (∀ p ∈ st', p.ok) ∧ st'.length ≤ st.length := by
  obtain ⟨x, y, c, r, rfl, h2⟩ := clo_is h
  have hx : x.ok := hs (.k x) (by simp)
  have hy : y.ok := hs (.k y) (by simp)
  have hr : ∀ p ∈ r, p.ok := fun p hp => hs p (by simp [hp])
  rcases h2 with ⟨_, rfl⟩ | ⟨_, rfl⟩
  · exact ⟨fun p hp => (List.mem_cons.mp hp).elim (fun e => by rw [e]; exact ⟨hx, hy⟩) (hr p), by simp only [List.length_cons]; omega⟩
  · exact ⟨fun p hp => (List.mem_cons.mp hp).elim (fun e => by rw [e]; exact ⟨hx, hy⟩) (hr p), by simp only [List.length_cons]; omega⟩
/-- reading a kind's text puts the kind on the stack -/
theorem rdR_cod : ∀ (k : Kd) (cs : List Nat) (st : List Pt), k.ok → rdR (k.cod ++ cs) st = rdR cs (.k k :: st)
  | .b n, cs, st, h => by
    have h' : n < 8 := h
    show (if 97 + n = 41 then _ else _) = _
    rw [if_neg (by omega)]
    have e : rs (97 + n) = some (.k (.b n)) := by
      unfold rs
      rw [if_neg (by omega), if_pos (by omega)]
      congr 3; omega
    rw [e]; rfl
  | .u, cs, st, _ => rfl
  | .p x y, cs, st, h => by
    show rdR (x.cod ++ 42 :: (y.cod ++ [41]) ++ cs) (.s 40 :: st) = _
    rw [List.append_assoc, rdR_cod x _ _ h.1]
    show rdR (y.cod ++ [41] ++ cs) (.s 42 :: .k x :: .s 40 :: st) = _
    rw [List.append_assoc, rdR_cod y _ _ h.2]; rfl
  | .f x y, cs, st, h => by
    show rdR (x.cod ++ 62 :: (y.cod ++ [41]) ++ cs) (.s 40 :: st) = _
    rw [List.append_assoc, rdR_cod x _ _ h.1]
    show rdR (y.cod ++ [41] ++ cs) (.s 62 :: .k x :: .s 40 :: st) = _
    rw [List.append_assoc, rdR_cod y _ _ h.2]; rfl
theorem rdK_cod (k : Kd) (h : k.ok) : rdK k.cod = some k := by
  have e := rdR_cod k [] [] h
  rw [List.append_nil] at e
  show (rdR k.cod []).bind rdE = some k
  rw [e]; rfl
/-- a stack that reads back to the signs that were taken -/
def Pt.cod : Pt → List Nat
  | .s c => [c]
  | .k x => x.cod
def codR (st : List Pt) : List Nat := (st.reverse.map Pt.cod).flatten
theorem codR_cons (p : Pt) (st : List Pt) : codR (p :: st) = codR st ++ p.cod := by simp [codR]
theorem rs_cod {c : Nat} {p : Pt} (h : rs c = some p) : p.cod = [c] := by
  unfold rs at h
  split at h
  · rename_i h1; cases h; rw [h1]; rfl
  · split at h
    · cases h; rename_i h2; show [97 + (c - 97)] = [c]; congr 1; omega
    · split at h
      · cases h; rfl
      · cases h
theorem rdR_text : ∀ (cs : List Nat) (st st' : List Pt), rdR cs st = some st' → codR st ++ cs = codR st'
  | [], st, st', h => by cases h; simp
  | c :: cs, st, st', h => by
    unfold rdR at h
    split at h
    · rename_i hc
      split at h
      · cases h
      · rename_i st2 e
        rw [← rdR_text cs st2 st' h]
        obtain ⟨x, y, d, r, rfl, h2⟩ := clo_is e
        rcases h2 with ⟨rfl, rfl⟩ | ⟨rfl, rfl⟩ <;> simp [codR_cons, Pt.cod, Kd.cod, hc]
    · split at h
      · cases h
      · rename_i p e
        rw [← rdR_text cs (p :: st) st' h, codR_cons, rs_cod e]; simp
/-- what is read is written so -/
theorem rdK_text {cs : List Nat} {k : Kd} (h : rdK cs = some k) : k.cod = cs := by
  unfold rdK at h
  cases e : rdR cs [] with
  | none => rw [e] at h; cases h
  | some st =>
    rw [e] at h
    have h2 : rdE st = some k := h
    unfold rdE at h2
    split at h2
    · cases h2
      have := rdR_text cs [] _ e
      simpa [codR, Pt.cod] using this.symm
    · cases h2
theorem rdR_ok : ∀ (cs : List Nat) (st st' : List Pt), rdR cs st = some st' → (∀ p ∈ st, p.ok) → ∀ p ∈ st', p.ok
  | [], st, st', h, hs => by cases h; exact hs
  | c :: cs, st, st', h, hs => by
    unfold rdR at h
    split at h
    · split at h
      · cases h
      · rename_i st2 e
        exact rdR_ok cs st2 st' h (clo_ok e hs).1
    · split at h
      · cases h
      · rename_i p e
        exact rdR_ok cs (p :: st) st' h fun q hq => (List.mem_cons.mp hq).elim (fun z => by rw [z]; exact rs_ok e) (hs q)
theorem rdK_ok {cs : List Nat} {k : Kd} (h : rdK cs = some k) : k.ok := by
  unfold rdK at h
  cases e : rdR cs [] with
  | none => rw [e] at h; cases h
  | some st =>
    rw [e] at h
    have h2 : rdE st = some k := h
    unfold rdE at h2
    split at h2
    · cases h2
      exact rdR_ok cs [] _ e (fun _ z => nomatch z) (.k k) (by simp)
    · cases h2
end KB
namespace KB
open PySem L2
theorem DqAll.last4 {K : PySem.W.Frag} {H : Hp} {ds : List PyData} {a b c d : PyData} {vs : List V} (h : DqAll K H vs (ds ++ [a, b, c, d])) :
    ∃ us v1 v2 v3 v4, vs = us ++ [v1, v2, v3, v4] ∧ DqAll K H us ds ∧ Dq K H v1 a ∧ Dq K H v2 b ∧ Dq K H v3 c ∧ Dq K H v4 d := by
  have h' : DqAll K H vs (((ds ++ [a]) ++ [b]) ++ [c] ++ [d]) := by simpa using h
  obtain ⟨u4, v4, rfl, h3, r4⟩ := h'.last
  obtain ⟨u3, v3, rfl, h2, r3⟩ := h3.last
  obtain ⟨u2, v2, rfl, h1, r2⟩ := h2.last
  obtain ⟨u1, v1, rfl, h0, r1⟩ := h1.last
  exact ⟨u1, v1, v2, v3, v4, by simp, h0, r1, r2, r3, r4⟩
end KB
namespace KB
open PySem L2
theorem Kd.ne_str (k : Kd) (x : Str) : PyData.eqv k.dat (.str x) = false := by cases k <;> simp [Kd.dat, PyData.eqv]
theorem str_lay {x : Str} (h : PyData.strOk x = true) : (PyData.str x).canLay0 = true := by simpa [PyData.canLay0] using h
end KB
namespace KB
open PySem L2
theorem rdR_close (cs : List Nat) (st : List Pt) : rdR (41 :: cs) st = (clo st).bind (rdR cs) := by
  show (if 41 = 41 then _ else _) = _
  rw [if_pos rfl]; cases clo st <;> rfl
theorem rdR_sign {c : Nat} (h : ¬ c = 41) (cs : List Nat) (st : List Pt) : rdR (c :: cs) st = (rs c).bind fun p => rdR cs (p :: st) := by
  show (if c = 41 then _ else _) = _
  rw [if_neg h]; cases rs c <;> rfl
/-! ## data without lists and dicts don't lean on what may change -/
mutual
def pureT : PyData → Bool
  | .none => true | .bool _ => true | .int _ => true | .str _ => true
  | .tuple xs => pureTs xs
  | .list _ => false | .dict _ => false
def pureTs : List PyData → Bool
  | [] => true
  | x :: xs => pureT x && pureTs xs
end
theorem Kd.pure : ∀ k : Kd, pureT k.dat = true
  | .b _ => by simp [Kd.dat, pureT, pureTs]
  | .u => by simp [Kd.dat, pureT, pureTs]
  | .p x y => by simp [Kd.dat, pureT, pureTs, x.pure, y.pure]
  | .f x y => by simp [Kd.dat, pureT, pureTs, x.pure, y.pure]
theorem SqT.outp {K : PySem.W.Frag} {H : Hp} {l a : Addr} {us xs : List V} (e : H l = some (.lst us)) (h : SqT K H a xs) : SqT K (out l H) a xs := by
  rcases h with (h | ⟨o, h⟩) | h
  · exact .inl (.inl (out_at (fun z => by rw [z, e] at h; cases h) h))
  · exact .inl (.inr ⟨o, out_at (fun z => by rw [z, e] at h; cases h) h⟩)
  · exact .inr h
mutual
theorem Dq.outp {K : PySem.W.Frag} {H : Hp} {l : Addr} {us : List V} (e : H l = some (.lst us)) : ∀ {d : PyData} {v : V}, pureT d = true → Dq K H v d → Dq K (out l H) v d
  | _, _, _, .non => .non
  | _, _, _, .bl b => .bl b
  | _, _, _, .int i => .int i
  | _, _, _, .str x => .str x
  | _, _, h, .tup s a => .tup (SqT.outp e s) (DqAll.outp e (by simpa [pureT] using h) a)
  | _, _, h, .lst _ _ => by simp [pureT] at h
  | _, _, h, .dct _ => by simp [pureT] at h
theorem DqAll.outp {K : PySem.W.Frag} {H : Hp} {l : Addr} {us : List V} (e : H l = some (.lst us)) : ∀ {ds : List PyData} {vs : List V}, pureTs ds = true → DqAll K H vs ds → DqAll K (out l H) vs ds
  | _, _, _, .nil => .nil
  | d :: ds, _, h, .cons x a => by
    have h' : pureT d = true ∧ pureTs ds = true := by simpa [pureTs] using h
    exact .cons (Dq.outp e h'.1 x) (DqAll.outp e h'.2 a)
end
theorem Pt.pure (p : Pt) : pureT p.dat = true := by
  cases p with
  | s c => simp [Pt.dat, pureT]
  | k x => exact x.pure
end KB
namespace KB
open PySem L2
theorem cal_vac {P : Program} {w : World} {K : PySem.W.Frag} {mg : Str → Option Value} {base : Heap} {CX : CXT} {k : Nat} {x : Str} {ps : List Str} {sp : Sp} {st : Stmt} (A : At K mg x st) (hb : ∀ f fd, Fun K x x st f fd → Binds K fd ps [])
    (no : ∀ vs H Q E, ¬ sp vs H Q E) : Cal P w K mg base CX k x ps sp := by
  obtain ⟨f, fd, F, m⟩ := A
  exact ⟨f, fd, ⟨fun vs H Q E h => absurd h (no vs H Q E), fun A outer s H args us vs Q E _ _ _ _ h => absurd h (no vs H Q E)⟩, hb f fd F, F.kp, m⟩
end KB

namespace KB
open PySem PySem.Spec PyProof.Rows L2
/-! ## isinstance of data -/
theorem Dq.tyx {K : PySem.W.Frag} {H : Hp} {v : V} {d : PyData} (h : Dq K H v d) : TyX K H v (.type (tyN d)) := by
  cases h with
  | non => exact .base .non
  | bl b => exact .base (.bl b)
  | int i => exact .base (.int i)
  | str x => exact .base (.str x)
  | lst s _ =>
    rcases s with (s | ⟨o, s⟩) | ⟨o, its, n, hk, hc, _⟩
    · exact .base (.lst s)
    · exact .base (.frz s)
    · exact .kList hk hc
  | tup s _ =>
    rcases s with (s | ⟨o, s⟩) | ⟨o, its, n, hk, hc, _⟩
    · exact .base (.tup s)
    · exact .fTuple s
    · exact .kTuple hk hc
  | dct e => exact .base (.dK e)
def isiN (T S : String) : Bool := T == S || (T == "bool" && S == "int")
def okS (S : String) : Bool := ["int", "str", "bool", "tuple", "list", "dict"].contains S
theorem kit_n (d : PyData) {S : String} (h : okS S = true) : kitB (tyN d) S = some (isiN (tyN d) S) := by
  have h' : S ∈ ["int", "str", "bool", "tuple", "list", "dict"] := by simpa [okS] using h
  have all : ∀ T ∈ ["NoneType", "bool", "int", "str", "list", "tuple", "dict"], ∀ S ∈ ["int", "str", "bool", "tuple", "list", "dict"], kitB T S = some (isiN T S) := by decide +kernel
  refine all _ ?_ S h'
  cases d <;> simp [tyN]
def rIsiD (K : PySem.W.Frag) : List V → Hp → VK → Prop := fun xs H Q => ∃ (x : V) (S : String) (d : PyData), xs = [x, .ty S] ∧ Dq K H x d ∧ okS S = true ∧ Q (.bl (isiN (tyN d) S)) H
theorem call_isiD {X : Cx} : CallR X (.builtin "isinstance") (rIsiD X.K) := by
  intro pins s σ H xs us Q I r ⟨x, S, d, e, hd, hs, q⟩
  exact call_isi pins s σ H xs us Q I r ⟨x, .ty S, _, .type S, _, e, .ty S, hd.tyx, kit_ty (kit_n d hs), q⟩
/-! ## equality of kinds -/
mutual
theorem eqv_refl : ∀ d : PyData, d.canLay0 = true → PyData.eqv d d = true
  | .none, _ => by simp [PyData.eqv]
  | .bool _, _ => by simp [PyData.eqv]
  | .int _, _ => by simp [PyData.eqv]
  | .str _, _ => by simp [PyData.eqv]
  | .list xs, h => by simp only [PyData.eqv]; exact eqvs_refl xs (by simpa [PyData.canLay0] using h)
  | .tuple xs, h => by simp only [PyData.eqv]; exact eqvs_refl xs (by simpa [PyData.canLay0] using h)
  | .dict _, h => by simp [PyData.canLay0] at h
theorem eqvs_refl : ∀ ds : List PyData, PyData.canLayAll0 ds = true → PyData.eqvAll ds ds = true
  | [], _ => by simp [PyData.eqvAll]
  | d :: ds, h => by
    have h' : d.canLay0 = true ∧ PyData.canLayAll0 ds = true := by simpa [PyData.canLayAll0] using h
    simp [PyData.eqvAll, eqv_refl d h'.1, eqvs_refl ds h'.2]
end
theorem str_ne {x y : Str} (h : x ≠ y) : (x == y) = false := beq_eq_false_iff_ne.mpr h
theorem ev_tup (xs ys : List PyData) : PyData.eqv (.tuple xs) (.tuple ys) = PyData.eqvAll xs ys := by simp only [PyData.eqv]
theorem ev_lst (xs ys : List PyData) : PyData.eqv (.list xs) (.list ys) = PyData.eqvAll xs ys := by simp only [PyData.eqv]
theorem ev_str (x y : Str) : PyData.eqv (.str x) (.str y) = (x == y) := by simp only [PyData.eqv]
theorem ev_int (x y : Int) : PyData.eqv (.int x) (.int y) = (x == y) := by simp only [PyData.eqv]
theorem ev_cons (x y : PyData) (xs ys : List PyData) : PyData.eqvAll (x :: xs) (y :: ys) = (PyData.eqv x y && PyData.eqvAll xs ys) := by simp only [PyData.eqvAll]
theorem ev_nil : PyData.eqvAll [] [] = true := by simp only [PyData.eqvAll]
theorem ev_nilc (y : PyData) (ys : List PyData) : PyData.eqvAll [] (y :: ys) = false := by simp only [PyData.eqvAll]
theorem ev_cnil (y : PyData) (ys : List PyData) : PyData.eqvAll (y :: ys) [] = false := by simp only [PyData.eqvAll]
theorem Kd.eqv (x : Kd) : ∀ y : Kd, PyData.eqv x.dat y.dat = decide (x = y) := by
  have n1 := str_ne (show ("both" : Str) ≠ "from" by decide)
  have n2 := str_ne (show ("from" : Str) ≠ "both" by decide)
  induction x with
  | b n =>
    intro y
    cases y with
    | b m =>
      simp only [Kd.dat, ev_tup, ev_cons, ev_nil, ev_str, ev_int, beq_self_eq_true, Bool.true_and, Bool.and_true]
      by_cases h : n = m
      · subst h; simp
      · rw [decide_eq_false (by intro z; cases z; exact h rfl)]
        exact beq_eq_false_iff_ne.mpr (by omega)
    | u => simp [Kd.dat, ev_tup, ev_cons, ev_str, ev_nil, ev_nilc, ev_cnil]
    | p _ _ => simp [Kd.dat, ev_tup, ev_cons, ev_str, ev_nil, ev_nilc, ev_cnil]
    | f _ _ => simp [Kd.dat, ev_tup, ev_cons, ev_str, ev_nil, ev_nilc, ev_cnil]
  | u =>
    intro y
    cases y <;> simp [Kd.dat, ev_tup, ev_cons, ev_str, ev_nil, ev_nilc, ev_cnil]
  | p a1 b1 ih1 ih2 =>
    intro y
    cases y with
    | b _ => simp [Kd.dat, ev_tup, ev_cons, ev_str, ev_nil, ev_nilc, ev_cnil]
    | u => simp [Kd.dat, ev_tup, ev_cons, ev_str, ev_nil, ev_nilc, ev_cnil]
    | f _ _ => simp [Kd.dat, ev_tup, ev_cons, ev_str, n1]
    | p c1 d1 =>
      simp only [Kd.dat, ev_tup, ev_cons, ev_nil, ev_str, beq_self_eq_true, Bool.true_and, Bool.and_true, ih1, ih2]
      by_cases h : a1 = c1 <;> by_cases h2 : b1 = d1 <;> simp [h, h2]
  | f a1 b1 ih1 ih2 =>
    intro y
    cases y with
    | b _ => simp [Kd.dat, ev_tup, ev_cons, ev_str, ev_nil, ev_nilc, ev_cnil]
    | u => simp [Kd.dat, ev_tup, ev_cons, ev_str, ev_nil, ev_nilc, ev_cnil]
    | p _ _ => simp [Kd.dat, ev_tup, ev_cons, ev_str, n2]
    | f c1 d1 =>
      simp only [Kd.dat, ev_tup, ev_cons, ev_nil, ev_str, beq_self_eq_true, Bool.true_and, Bool.and_true, ih1, ih2]
      by_cases h : a1 = c1 <;> by_cases h2 : b1 = d1 <;> simp [h, h2]
theorem Kd.cod_inj {x y : Kd} (hx : x.ok) (hy : y.ok) (h : x.cod = y.cod) : x = y := by
  have := rdK_cod x hx
  rw [h, rdK_cod y hy] at this
  exact (Option.some.inj this).symm
theorem Kd.txt_inj {x y : Kd} (hx : x.ok) (hy : y.ok) (h : x.txt = y.txt) : x = y := Kd.cod_inj hx hy (tx_inj h)
end KB
namespace KB
open PySem L2
/-- a displayed dict of two texts, asked by one of them -/
theorem dget2 {H : Hp} {p : Addr} {a b : Str} {x y : V} (hab : a ≠ b) : DGet (upd H p (.dK (mergeK [] [(Sum.inr a, x), (Sum.inr b, y)]))) p (.str a) (some x) ∧ DGet (upd H p (.dK (mergeK [] [(Sum.inr a, x), (Sum.inr b, y)]))) p (.str b) (some y) := by
  have n1 : ¬ ((Sum.inr a : Key) = Sum.inr b) := fun z => hab (Sum.inr.inj z)
  have e : mergeK [] [(Sum.inr a, x), (Sum.inr b, y)] = [((Sum.inr a : Key), x), (Sum.inr b, y)] := by simp [mergeK, putK, n1]
  rw [e]
  have k1 := DGet.k (k := Sum.inr a) (upd_same (H := H) (a := p) (o := .dK [((Sum.inr a : Key), x), (Sum.inr b, y)]))
  have k2 := DGet.k (k := Sum.inr b) (upd_same (H := H) (a := p) (o := .dK [((Sum.inr a : Key), x), (Sum.inr b, y)]))
  have v1 : valV [((Sum.inr a : Key), x), (Sum.inr b, y)] (Sum.inr a) = some x := by simp [valV]
  have v2 : valV [((Sum.inr a : Key), x), (Sum.inr b, y)] (Sum.inr b) = some y := by simp [valV, n1]
  rw [v1] at k1
  rw [v2] at k2
  exact ⟨k1, k2⟩
end KB
namespace KB
open PySem L2
/-- pairs and functions, told as one -/
structure Mk2 (mk : Kd → Kd → Kd) (wd : Str) : Prop where
  dat : ∀ x y, (mk x y).dat = .tuple [.str wd, x.dat, y.dat]
  ok : ∀ x y, (mk x y).ok ↔ x.ok ∧ y.ok
  leaves : ∀ x y, (mk x y).leaves = x.leaves + y.leaves
  deep : ∀ x y, (mk x y).deep = 1 + max x.deep y.deep
  wd : wd = "both" ∨ wd = "from"
theorem mk_p : Mk2 Kd.p "both" := ⟨fun _ _ => rfl, fun _ _ => Iff.rfl, fun _ _ => rfl, fun _ _ => rfl, .inl rfl⟩
theorem mk_f : Mk2 Kd.f "from" := ⟨fun _ _ => rfl, fun _ _ => Iff.rfl, fun _ _ => rfl, fun _ _ => rfl, .inr rfl⟩
/-- a kind is a leaf, or made of two -/
theorem Kd.cases2 {K : PySem.W.Frag} {H : Hp} {v : V} (k : Kd) (hd : Dq K H v k.dat) :
    (∃ a xs, v = .ref a ∧ SqT K H a xs ∧ xs.length < 3 ∧ k.leaves = 1) ∨
    ∃ (mk mk2 : Kd → Kd → Kd) (wd od : Str) (x y : Kd) (a : Addr) (v1 v2 : V), k = mk x y ∧ Mk2 mk wd ∧ Mk2 mk2 od ∧ ((wd = "both" ∧ od = "from") ∨ (wd = "from" ∧ od = "both")) ∧ v = .ref a ∧ SqT K H a [.str wd, v1, v2] ∧ Dq K H v1 x.dat ∧ Dq K H v2 y.dat := by
  cases k with
  | b n =>
    cases hd with
    | tup hS hA => exact .inl ⟨_, _, rfl, hS, by rw [hA.length]; show 2 < 3; decide, rfl⟩
  | u =>
    cases hd with
    | tup hS hA => exact .inl ⟨_, _, rfl, hS, by rw [hA.length]; show 1 < 3; decide, rfl⟩
  | p x y =>
    cases hd with
    | tup hS hA =>
      cases hA with
      | cons h1 h2 =>
        cases h1
        cases h2 with
        | cons h3 h4 =>
          cases h4 with
          | cons h5 h6 =>
            cases h6
            exact .inr ⟨_, _, _, _, x, y, _, _, _, rfl, mk_p, mk_f, .inl ⟨rfl, rfl⟩, rfl, hS, h3, h5⟩
  | f x y =>
    cases hd with
    | tup hS hA =>
      cases hA with
      | cons h1 h2 =>
        cases h1
        cases h2 with
        | cons h3 h4 =>
          cases h4 with
          | cons h5 h6 =>
            cases h6
            exact .inr ⟨_, _, _, _, x, y, _, _, _, rfl, mk_f, mk_p, .inr ⟨rfl, rfl⟩, rfl, hS, h3, h5⟩
theorem Mk2.dq {K : PySem.W.Frag} {H : Hp} {mk : Kd → Kd → Kd} {wd : Str} (M : Mk2 mk wd) {a : Addr} {v1 v2 : V} {x y : Kd} (h : H a = some (.tup [.str wd, v1, v2])) (h1 : Dq K H v1 x.dat) (h2 : Dq K H v2 y.dat) : Dq K H (.ref a) (mk x y).dat := by
  rw [M.dat]
  exact .tup (.of h) (.cons (.str _) (.cons h1 (.cons h2 .nil)))
end KB
namespace KB
open PySem L2
theorem at_mk {K : PySem.W.Frag} {h : Heap} {mg : Str → Option Value} {x : Str} {st : Stmt} {f : Addr} {od an : Option Addr} {sl : Array (Option Value)} {oc kV dc pm cd ct : Value} (X : K.In h) (G : h.Ns mainGlobals mg)
    (a : PySem.W.nsIn K mainGlobals x = some (some (.ref f))) (l : K.lookup f = some ⟨oc, od, .func (PySem.W.fnOf x x (defArgs st) (defBody st) (defScope st) .none kV dc pm an cd ct), sl⟩) (c : PySem.W.codeIn K cd x = true) (k : PySem.W.keepIn K (.ref f) = true) : At K mg x st :=
  ⟨f, _, fun_mk (st := st) l c k, PySem.W.mg_of X G a⟩
theorem ds_mk {K : PySem.W.Frag} {h : Heap} {mg : Str → Option Value} {w : World} {x : Str} {d : Addr} {es : Array DictEntry} {n : Nat} {kvs : List (Str × V)} (X : K.In h) (G : h.Ns mainGlobals mg)
    (a : PySem.W.nsIn K mainGlobals x = some (some (.ref d))) (l : K.lookup d = some ⟨.type "dict", none, .dict es n, #[]⟩) (k : PySem.W.KeysLit w.params es.toList) (s : (d == sysModules) = false) (e : Ents kvs es.toList) : ∃ d, mg x = some (.ref d) ∧ DictS K w d kvs :=
  ⟨d, PySem.W.mg_of X G a, es, n, l, k, s, e⟩
theorem exc_mk {K : PySem.W.Frag} {h : Heap} {mg : Str → Option Value} {x : Str} {C : Addr} (X : K.In h) (G : h.Ns mainGlobals mg)
    (a : PySem.W.nsIn K mainGlobals x = some (some (.ref C))) (q : PySem.W.excIn K C [.type "ValueError", .type "Exception", .type "BaseException", .type "object"] "ValueError.__new__" = true) (k : PySem.W.keepIn K (.ref C) = true)
    (b : PySem.W.subIn K (.ref C) (.type "BaseException") = some true) (t : PySem.W.typeIn K (.ref C) = some (.type "type")) (i : PySem.W.isClsIn K C = true) (s : PySem.W.subIn K (.ref C) (.ref C) = some true) : ExcF K mg x C :=
  ⟨PySem.W.mg_of X G a, q, k, b, t, i, s⟩
end KB

namespace KB
open PySem PySem.Spec PyProof.Rows L2
/-! ## what is raised is caught by the first clause, whichever clauses follow -/
def wHit (K : PySem.W.Frag) (C : Addr) (c : Value) (i : Nat) (ts : Addr → TS) (D : Ends) : WX := fun cls d σ H =>
  cls = .ref C ∧ d = none ∧ PySem.W.exmOne K (.ref C) c = some true ∧ ∀ a, H a = none → ts a { nx := fun z H' => D.nx (z.set i none) H', rt := D.rt, bk := fun z H' => D.bk (z.set i none) H', ct := fun z H' => D.ct (z.set i none) H' } (σ.set i (some (.ref a))) H
theorem ps_try_hit {X : Cx} {x n : Str} {c : Value} {i : Nat} {body suite : List Stmt} {b₀ : Stmt} {np pos pos' : Pos} {hds : List ExceptHandler} {tb : WX → TS} {ts : Addr → TS} {C : Addr}
    (hs : X.stack = X.env :: X.outer) (hf : X.env.frame = some X.env.locals) (hN : X.N.Nodup) (hi : X.N[i]? = some n) (hln : X.env.kindOf n = some .local) (hc : Names X x c)
    (hb : ∀ (W : WX) (pn : List (Addr × Obj)) (xe : Value → Shared → Prop), Takes (X.tr pn xe) W → PassesOwn (model X.prog X.w) X.A X.env xe → PSs (X.tr pn xe) body (tb W))
    (hsu : ∀ (a : Addr) (oe : Obj) (pn : List (Addr × Obj)), Zc (.ref C) none oe → (∃ vs, oe.data = .fields vs) → PSs (X.suite a ((a, oe) :: pn)) (b₀ :: suite) (ts a)) :
    PS X (.Try body (.ExceptHandler (some (.Name x np)) (some n) (b₀ :: suite) pos' :: hds) [] [] pos) (fun D σ H => tb (wHit X.K C c i ts D) D σ H) := by
  refine ⟨fun pins s σ H D I h => ?_⟩
  have ok := I.ok
  have hfr : X.A.frames = some (X.env :: X.outer) := by rw [ok.frames, hs]
  refine wpAny_Try_except (wpAny_mono ((hb (wHit X.K C c i ts D) (X.pn ++ pins) _ (fun u s' xx => ?take) PassesOwn.looking).run [] s σ H D (Inv.toTry I _) h) (fun f s1 hsp => ?_) fun e s1 he => he)
  case take =>
    obtain ⟨a, B, sI, pins', σ', H', cls, d, rfl, J', nb, up, sky, na, os, ag, rfl, rfl, hit, yes⟩ := xx
    have J := Inv.ofTry J' ok
    have sky2 : Sky B (X.env :: X.outer) a (Zc (.ref C) none) X.env.locals s'.heap := hs ▸ sky
    refine Sky.land Zc.steady hfr hf sky2 fun h3 fl3 up3 => ?_
    have J3 := Inv.landed (s' := { heap := h3, gens := s'.gens, drawn := s'.drawn, toks := s'.toks, os := s'.os }) J nb fl3.left (up.trans up3) os ag
    obtain ⟨oe3, vs3, he3, hz3, hd3⟩ := HandSPX.FlyingZ.there fl3
    have far : a ∉ List.filterMap (fun y : Env => y.frame) (X.env :: X.outer) := fun hm => by
      obtain ⟨_, o', e', hnf⟩ := Heap.FunFrames.mem fl3.2.2.1 hm
      rw [he3] at e'
      cases e'
      exact hnf vs3 hd3
    have nL : a ≠ X.env.locals := fun z => far (List.mem_filterMap.mpr ⟨X.env, List.mem_cons_self, by rw [hf, z]⟩)
    have nF : a ∉ X.fs := fun hm => by
      obtain ⟨y, hy, q⟩ := List.mem_filterMap.mp hm
      exact far (List.mem_filterMap.mpr ⟨y, List.mem_cons_of_mem _ hy, q⟩)
    have S3 := Inv.suite J3 he3 hd3 na nL nF
    refine wpAny_handleBy_cons (codeAny_handlers_test ?_) (fun z => nomatch z)
    have LT : PySem.W.Looks (model X.prog X.w) h3 (typeOf (.ref a)) (.ref C) := fun A Q E s k q => wpAny_typeOf_ref (k a oe3 he3) (by rw [hz3.1]; exact q)
    have LM := PySem.W.exm_one J3.kIn LT hit
    have test : ∀ {Q : Value → Shared → Prop} {E : Value → Shared → Prop}, Q c { heap := h3, gens := s'.gens, drawn := s'.drawn, toks := s'.toks, os := s'.os } →
        wpAny (model X.prog X.w) (X.A.mark (some (.ref a))) (eval (.Name x np) X.env) Q E { heap := h3, gens := s'.gens, drawn := s'.drawn, toks := s'.toks, os := s'.os } := fun q => by
      obtain ⟨hg, hdbg, hm | ⟨hm, hv, hnn⟩⟩ := hc
      · exact ld_glob S3 hg hm q hdbg
      · exact ld_blt S3 hg hm hv q hnn hdbg
    refine test (PySem.W.Looks.here LM ?_)
    refine codeAny_handlers_suite_as (HandSPX.lands_againZ fl3 fun h4 fl4 up4 => ?_)
    have J4 := Inv.landed (s' := { heap := h4, gens := s'.gens, drawn := s'.drawn, toks := s'.toks, os := s'.os }) J nb fl4.left ((up.trans up3).trans up4) os ag
    obtain ⟨oe4, vs4, he4, hz4, hd4⟩ := HandSPX.FlyingZ.there fl4
    have S4 := Inv.suite J4 he4 hd4 na nL nF
    refine store_ok (X := X.suite a ((a, oe4) :: (X.pn ++ pins))) S4 hN hi (.inl hln) (v := .ref a) rfl (fun s5 S5 => ?_) (.inr hln)
    refine wpAny_mono ((hsu a oe4 (X.pn ++ pins) hz4 ⟨vs4, hd4⟩).run [] s5 _ H' _ S5 (yes a na)) (fun f s6 hsp => ?_) fun _ _ z => False.elim z
    cases f with
    | next => obtain ⟨σ6, H6, S6, q6⟩ := hsp; exact gone_ok (Inv.unsuite S6 ok) hN hi hln fun s7 J7 => ⟨_, H6, J7, q6⟩
    | brk => obtain ⟨σ6, H6, S6, q6⟩ := hsp; exact gone_ok (Inv.unsuite S6 ok) hN hi hln fun s7 J7 => ⟨_, H6, J7, q6⟩
    | cont => obtain ⟨σ6, H6, S6, q6⟩ := hsp; exact gone_ok (Inv.unsuite S6 ok) hN hi hln fun s7 J7 => ⟨_, H6, J7, q6⟩
    | ret u => obtain ⟨v6, σ6, H6, S6, r6, q6⟩ := hsp; exact gone_ok (Inv.unsuite S6 ok) hN hi hln fun s7 J7 => ⟨v6, _, H6, J7, r6, q6⟩
  · cases f with
    | next => obtain ⟨σ', H', J', q⟩ := hsp; exact wpAny_execs_nil ⟨σ', H', Inv.ofTry J' ok, q⟩
    | brk => obtain ⟨σ', H', J', q⟩ := hsp; exact ⟨σ', H', Inv.ofTry J' ok, q⟩
    | cont => obtain ⟨σ', H', J', q⟩ := hsp; exact ⟨σ', H', Inv.ofTry J' ok, q⟩
    | ret u => obtain ⟨v, σ', H', J', r, q⟩ := hsp; exact ⟨v, σ', H', Inv.ofTry J' ok, r, q⟩
/-! ## isinstance of what was caught: one class, a tuple of classes -/
def rCaught (K : PySem.W.Frag) (D a : Addr) : List V → Hp → VK → Prop := fun xs H Q => rIsE K D a xs H Q ∨
  ∃ (tp : Addr) (cs : List V) (us : List Value) (b : Bool), xs = [.ref a, .ref tp] ∧ H tp = some (.tup cs) ∧ Paired ClsV cs us ∧ PySem.W.kitAny K (.ref D) us = some b ∧ Q (.bl b) H
theorem call_caught {X : Cx} {a D : Addr} {oe : Obj} {pn : List (Addr × Obj)} (C : ExcC X.K D) (hz : Zc (.ref D) none oe) (hf : ∃ vs, oe.data = .fields vs) :
    CallR (X.suite a ((a, oe) :: pn)) (.builtin "isinstance") (rCaught X.K D a) := by
  intro pins s σ H xs us Q I r h
  rcases h with h | ⟨tp, cs, ws, b, rfl, hT, k, e, q⟩
  · exact call_isE C hz hf pins s σ H xs us Q I r h
  · obtain ⟨u1, u2, rfl, r1, r2⟩ := L2.vals2 r
    cases r1
    cases r2
    obtain ⟨hget, _⟩ := I.pin (a, oe) (List.mem_append.mpr (.inl List.mem_cons_self))
    obtain ⟨vs, hv⟩ := hf
    obtain ⟨oc, od, dt, sl⟩ := oe
    obtain ⟨h1, h2⟩ := hz
    cases h1
    cases h2
    cases hv
    have J : PySem.W.InstAt s.heap a ⟨.ref D, none, .fields vs, sl⟩ D none := ⟨hget, rfl, rfl, trivial⟩
    obtain ⟨_, its, rv, o, e1, e2, n, e3⟩ := I.hok tp (.tup cs) hT
    have e4 := ClsV.all k rv
    subst e4
    obtain ⟨oc2, od2, dt2, sl2⟩ := o
    cases e2
    cases e3
    exact PySem.W.kia_tup (PySem.W.handS_kitx_exc C.hg C.hk C.hs C.hd C.ha C.hn C.ht C.hm) I.kIn J e1 e (fun z => nomatch z) fun tk => ⟨.bl b, H, Inv.tok I tk, rfl, q⟩
/-! ## s[::-1] of a text: some text, no longer -/
def tRevT (te : TE) : TE := fun σ H Q => te σ H fun x H1 => ∃ z : Str, x = .str z ∧ z.length ≤ sizeLine ∧ ∀ y : Str, y.length ≤ z.length → Q (.str y) H1
theorem back_length (n : Nat) : (PySem.Builtin.Str.strSliceIndices none none (-1) n).length ≤ n := by
  simp only [PySem.Builtin.Str.strSliceIndices, PySem.sliceRange, List.length_map, List.length_range]
  simp only [show ¬ ((-1 : Int) > 0) by decide, if_false]
  split
  · simp
  · simp
theorem back_text (z : Str) : (⟨(List.filterMap (fun x => z.cps[x]?) (PySem.Builtin.Str.strSliceIndices none none (-1) z.length)).toArray⟩ : Str).length ≤ z.length := by
  have a : (⟨(List.filterMap (fun x => z.cps[x]?) (PySem.Builtin.Str.strSliceIndices none none (-1) z.length)).toArray⟩ : Str).length = (List.filterMap (fun x => z.cps[x]?) (PySem.Builtin.Str.strSliceIndices none none (-1) z.length)).length := rfl
  rw [a]
  exact Nat.le_trans (List.length_filterMap_le _ _) (back_length _)
theorem pe_revT {X : Cx} {e : Expr} {te : TE} {k : Nat} {p1 p2 p3 pos : Pos} (he : PE X e te) : PE X (.Subscript e (.Slice none none (some (.UnaryOp .USub (.Constant (.int 1) k p1) p2)) p3) pos) (tRevT te) := by
  refine ⟨fun pins s σ H Q I h => Subscript_ (thn (he.run pins s σ H _ I h) ?_)⟩
  rintro v s1 ⟨x, H1, I1, r1, z, rfl, hz, q⟩
  obtain ⟨t, rfl⟩ := r1
  refine wpAny_Slice (thn (po_none.run pins s1 σ H1 (fun o H2 => o = none ∧ H2 = H1) I1 ⟨rfl, rfl⟩) ?_)
  rintro vl s2 ⟨o2, H2, I2, pl, rfl, rfl⟩
  refine thn (po_none.run pins s2 σ H2 (fun o H3 => o = none ∧ H3 = H2) I2 ⟨rfl, rfl⟩) ?_
  rintro vu s3 ⟨o3, H3, I3, pu, rfl, rfl⟩
  have hst : PO X (some (.UnaryOp .USub (.Constant (.int 1) k p1) p2)) _ := po_some (pe_un un_neg pe_int)
  refine thn (hst.run pins s3 σ H3 (fun o H4 => o = some (-1) ∧ H4 = H3) I3 ⟨1, rfl, -1, rfl, rfl, rfl⟩) ?_
  rintro vs s4 ⟨o4, H4, I4, ps, rfl, rfl⟩
  obtain ⟨l1, rfl, e1⟩ := IsPart.raw pl
  obtain ⟨l2, rfl, e2⟩ := IsPart.raw pu
  obtain ⟨l3, rfl, e3⟩ := IsPart.raw ps
  have I5 := Inv.kept (h' := s4.heap.push { cls := .type "slice", data := .fields #[partValue l1, partValue l2, partValue l3] }) (t' := s4.toks) I4 fun b ob q => Heap.get?_push_of_some _ q
  refine tail_any (typeIs_str _ z t) PySem.F.slot_str_getitem.lookup (wpAny_getItem_str_slice (l := l1) (u := l2) (st := l3) ⟨_, Heap.get?_push_size s4.heap rfl, rfl, rfl⟩ (by rw [e3]; rfl) ?_) rfl
  have hp : slicePicked z l1 l2 l3 = PySem.Builtin.Str.strSliceIndices none none (-1) z.length := by
    unfold slicePicked
    rw [e1, e2, e3]; rfl
  unfold sliceMade
  rw [hp, e3, if_neg (by simp)]
  exact ⟨Nat.le_trans (back_text z) hz, .str _, H4, Inv.tok I5 _, ⟨_, rfl⟩, q _ (back_text z)⟩
/-! ## a text, told some times: some text, no longer than that -/
def rTimes : R2 := fun x y H Q => ∃ (z : Str) (n : Int), x = .str z ∧ y = .int n ∧ 0 ≤ n ∧ n ≤ 1000000 ∧ z.length * n.toNat ≤ 1000000 ∧ ∀ u : Str, u.length ≤ z.length * n.toNat → Q (.str u) H
theorem rep_length (n : Nat) (a : Array Nat) : (List.foldl (fun x1 x2 => x1 ++ x2) #[] (List.replicate n a)).size = a.size * n := by
  have h : ∀ (m : Nat) (b : Array Nat), (List.foldl (fun x1 x2 => x1 ++ x2) b (List.replicate m a)).size = b.size + a.size * m := by
    intro m
    induction m with
    | zero => intro b; simp
    | succ m ih => intro b; rw [List.replicate_succ, List.foldl_cons, ih, Array.size_append, Nat.mul_succ]; omega
  rw [h]; simp
theorem op_times {X : Cx} : OpR X (binaryOp .Mult) rTimes := by
  intro pins s σ H x y v u Q I rx ry ⟨z, n, ex, ey, h0, h1, hz, q⟩
  subst ex
  subst ey
  obtain ⟨t, rfl⟩ := rx
  obtain ⟨t', rfl⟩ := ry
  have hs : z.length * n.toNat ≤ sizeLine := Nat.le_trans hz (by decide)
  refine P.mul_str (by rw [decide_eq_false (by omega), decide_eq_false (by omega)]; rfl) (fun _ _ => ?_) (fun _ _ => ?_) ?_
  · have e : ((z.length * n.toNat : Nat) : Int) = (z.length : Int) * n := by rw [Int.natCast_mul, Int.toNat_of_nonneg h0]
    intro hb
    have h3 : (z.length : Int) * n ≤ 1000000 := by rw [← e]; exact Int.ofNat_le.mpr hz
    by_cases hn : n = 0
    · subst hn; omega
    · have : (z.length : Int) ≤ (2 ^ 63 - 1) / n := Int.le_ediv_of_mul_le (by omega) (by omega)
      omega
  · unfold PySem.Builtin.Str.tooLong
    exact decide_eq_false (Nat.not_lt.mpr hs)
  · split
    · exact ⟨Nat.zero_le _, .str _, H, Inv.tok I _, ⟨_, rfl⟩, q _ (Nat.zero_le _)⟩
    · split
      · rename_i hn hc
        refine ⟨.str z, H, I, ⟨_, rfl⟩, q _ ?_⟩
        have : n = 1 ∨ z.length = 0 := by simpa using hc
        rcases this with rfl | h
        · simp
        · omega
      · refine ⟨?_, .str _, H, Inv.tok I _, ⟨_, rfl⟩, q _ ?_⟩
        · show (List.foldl (fun x1 x2 => x1 ++ x2) #[] (List.replicate n.toNat z.cps)).size ≤ sizeLine
          rw [rep_length]; exact hs
        · show (List.foldl (fun x1 x2 => x1 ++ x2) #[] (List.replicate n.toNat z.cps)).size ≤ _
          rw [rep_length]; exact Nat.le_refl _
def rMulT : R2 := fun x y H Q => rMulA x y H Q ∨ rTimes x y H Q
theorem op_mulT {X : Cx} : OpR X (binaryOp .Mult) rMulT := op_mulA.or op_times
/-! ## within a clause: rules that speak of the whole, not of the clause -/
theorem ix_BS {X : Cx} {a : Addr} {pn : List (Addr × Obj)} : IxR (X.suite a pn) (rIxB X.K X.w) := ix_B (X := X.suite a pn)
/-- a call within a try -/
theorem pe_calS {X : Cx} {CX : CXT} {k : Nat} {x : Str} {ps : List Str} {sp : Sp} {E : L2.St → XK} {p pos : Pos} {e : Expr} {es : List Expr} {t : TA} (C : Cal X.prog X.w X.K X.mg X.base CX k x ps sp) (hr : Room k X.A) (hx : ∀ σ : L2.St, PassesAt CX X σ (E σ)) (ha : PA X (e :: es) t)
    (hg : Gl X x := by rfl) (hdb : (x == ("__debug__" : Str)) = false := by decide) (he : starEach (e :: es) X.env = (false, eval e X.env) :: starEach es X.env := by rfl) (hpl : (backTo pos (starEach es X.env)).any (·.1) = false := by rfl) :
    PE X (.Call (.Name x p) (e :: es) [] pos) (tCallS sp E t) := by
  obtain ⟨f, fd, F, b, kp, m⟩ := C
  exact pe_callS F hr hg m kp b hx ha hdb he hpl
/-! ## facts of a class of errors, from the head -/
theorem ExcF.hit {K : PySem.W.Frag} {mg : Str → Option Value} {x : Str} {C : Addr} (F : ExcF K mg x C) : PySem.W.exmOne K (.ref C) (.ref C) = some true := by
  have i : (PySem.W.clsIn K C).isSome = true := F.i
  simp only [PySem.W.exmOne, PySem.W.kitCls, F.b, F.t, F.s, i]
  rfl
theorem excC_mk {K : PySem.W.Frag} {h : Heap} {mg : Str → Option Value} {x : Str} {D : Addr} (_ : K.In h) (_ : ExcF K mg x D) (hg : PySem.W.findIn K (.ref D) "__getattribute__" = some (some (.builtin "BaseException.__getattribute__"))) (hk : PySem.W.findIn K (.ref D) "__getattr__" = some none) (hs : PySem.W.subIn K (.ref D) (.type "BaseException") = some true)
    (hd : PySem.W.hasDictIn K D = true) (ha : PySem.W.findIn K (.ref D) "__class__" = some (some (.builtin "object.__class__"))) (hn : PySem.W.specialIn K (.builtin "object.__class__") "__get__" = some (some (.builtin "getset_descriptor.__get__"))) (ht : PySem.W.takesIn K (.builtin "object.__class__") = some true) (hm : PySem.W.mroIn K D (.type "object") = some true) : ExcC K D := ⟨hg, hk, hs, hd, ha, hn, ht, hm⟩
theorem kitOne_mk {K : PySem.W.Frag} {h : Heap} {mg : Str → Option Value} {x : Str} {D : Addr} {T : String} {b : Bool} (_ : K.In h) (_ : ExcF K mg x D) (e : PySem.W.kitOne K (.ref D) (.type T) = some b) : PySem.W.kitOne K (.ref D) (.type T) = some b := e
theorem cls_mk {K : PySem.W.Frag} {h : Heap} {mg : Str → Option Value} {x : Str} {D : Addr} (X : K.In h) (G : h.Ns mainGlobals mg) (a : PySem.W.nsIn K mainGlobals x = some (some (.ref D))) : mg x = some (.ref D) := PySem.W.mg_of X G a
theorem kitAny_mk {K : PySem.W.Frag} {h : Heap} {mg : Str → Option Value} {x y z : Str} {D A B : Addr} {b : Bool} (_ : K.In h) (_ : ExcF K mg x D) (_ : mg y = some (.ref A)) (_ : mg z = some (.ref B)) (e : PySem.W.kitAny K (.ref D) [.ref A, .ref B] = some b) : PySem.W.kitAny K (.ref D) [.ref A, .ref B] = some b := e
end KB

namespace KB
open PySem PySem.Spec PyProof.Rows L2
/-! ## defs that are called where no repr is under way -/
structure FnG (P : Program) (w : World) (K : PySem.W.Frag) (mg : Str → Option Value) (base : Heap) (CX : CXT) (k : Nat) (f : Addr) (fd : FuncData) (ps : List Str) (sp : Sp) : Prop where
  len : ∀ vs H Q E, sp vs H Q E → vs.length = ps.length
  run : ∀ (A : Around) (outer : List Env) (s : Shared) (H : Hp) (args : Args) (us : List Value) (vs : List V) (Q : VK) (E : XK), Room k A → A.guards = some [] → Env0 P w K mg base A outer s H → BindsTo s fd args (ps.zip us) → Vals vs us → sp vs H Q E →
    codeAny (model P w) A (.call (.ref f) args) (CR CX outer P w H s Q E) s
theorem FnOk.toG {P : Program} {w : World} {K : PySem.W.Frag} {mg : Str → Option Value} {base : Heap} {CX : CXT} {k : Nat} {f : Addr} {fd : FuncData} {ps : List Str} {sp : Sp} (F : FnOk P w K mg base CX k f fd ps sp) : FnG P w K mg base CX k f fd ps sp :=
  ⟨F.len, fun A outer s H args us vs Q E hr _ e0 hb r h => F.run A outer s H args us vs Q E hr e0 hb r h⟩
theorem fnG_of {CX : CXT} {P : Program} {w : World} {K : PySem.W.Frag} {mg : Str → Option Value} {base : Heap} {k : Nat} {f : Addr} {name qual : Str} {params : Arguments} {body : List Stmt} {scope : Scope} {dV kV doc pm cdv ct oc : Value} {an od : Option Addr} {osl : Array (Option Value)} {N ps : List Str} {sp : Sp}
    (lk : K.lookup f = some ⟨oc, od, .func (PySem.W.fnOf name qual params body scope dV kV doc pm an cdv ct), osl⟩) (hcd : PySem.W.codeIn K cdv qual = true) (S : FnScope N ps scope) (len : ∀ vs H Q E, sp vs H Q E → vs.length = ps.length)
    (hbody : ∀ (A : Around) (outer : List Env) (s : Shared) (H : Hp) (vs : List V) (Q : VK) (E : XK), A.guards = some [] → Room k (A.deeper (envOfC qual scope s.heap.objs.size f cdv)) → sp vs H Q E →
      ∃ t, PSs (cxOf CX P w K mg base N qual scope f cdv A outer s H E) body t ∧ t { nx := fun _ H' => Q .non H', rt := Q } (L2.start N vs) H) :
    FnG P w K mg base CX (k + 1) f (PySem.W.fnOf name qual params body scope dV kV doc pm an cdv ct) ps sp := by
  refine ⟨len, fun A outer s H args us vs Q E hr hg e0 hb r hsp => ?_⟩
  have hl := len vs H Q E hsp
  have KX : K.In s.heap := PySem.W.Frag.In.keeps e0.mod.kin fun b o e => (e0.bs b o e).1
  have lim : s.heap.NoLimit := Heap.NoLimit.keeps e0.mod.nolimit fun b o e => (e0.bs b o e).1
  refine codeAny_call_function hr.depth (KX f _ lk) rfl S.co S.gen rfl (PySem.W.codeRec_of KX hcd) (hb (model P w) A.in1 (fun e s' => CR CX outer P w H s Q E (.error e) s') _ (wpAny_newFunctionEnv_cells S.kind ?_ ?_))
  · rintro ⟨n, v⟩ hy
    rcases S.par n (List.of_mem_zip hy).1 with q | q
    · exact .inl q
    · exact .inr ⟨q, PySem.W.cellsFrom_some scope.names (s.heap.objs.size + 1) [] (.inl q)⟩
  · intro env he s1 x
    subst he
    refine ⟨Heap.NoLimit.keeps lim x.toInCall.keep, codeAny_func ?_⟩
    obtain ⟨t, ht, hq⟩ := hbody A outer s H vs Q E hg (Room.deeper hr (envOfC qual scope s.heap.objs.size f cdv)) hsp
    have I := inv_start (CX := CX) (E := E) S hr.hd e0 hl r x
    refine wpAny_mono (ht.run [] s1 (L2.start N vs) H _ I hq) (fun fl s' hs => ?_) fun e s' hs => hs
    cases fl with
    | next => obtain ⟨σ', H', J, q⟩ := hs; exact ⟨.non, H', J.os, J.bare, J.base, J.hok, rfl, q⟩
    | brk => obtain ⟨_, _, _, q⟩ := hs; exact q.elim
    | cont => obtain ⟨_, _, _, q⟩ := hs; exact q.elim
    | ret u => obtain ⟨v, σ', H', J, rv, q⟩ := hs; exact ⟨v, H', J.os, J.bare, J.base, J.hok, rv, q⟩
theorem okG {P : Program} {w : World} {K : PySem.W.Frag} {mg : Str → Option Value} {base : Heap} {x qual : Str} {st : Stmt} {f : Addr} {fd : FuncData} {N ps : List Str} {k : Nat} {sp : Sp} (F : Fun K x qual st f fd) (S : FnScope N ps (defScope st)) (len : ∀ vs H Q E, sp vs H Q E → vs.length = ps.length)
    (hbody : ∀ (cdv : Value) (A : Around) (outer : List Env) (s : Shared) (H : Hp) (vs : List V) (Q : VK) (E : XK), A.guards = some [] → Room k (A.deeper (envOfC qual (defScope st) s.heap.objs.size f cdv)) → sp vs H Q E →
      ∃ t, PSs (cxOf CX0 P w K mg base N qual (defScope st) f cdv A outer s H E).nox (defBody st) t ∧ t { nx := fun _ H' => Q .non H', rt := Q } (L2.start N vs) H) :
    FnG P w K mg base CX0 (k + 1) f fd ps sp := by
  obtain ⟨oc, od, kV, doc, pm, an, cdv, ct, osl, rfl, lk, hcd⟩ := F.ex
  refine fnG_of lk hcd S len fun A outer s H vs Q E hg hr hsp => ?_
  obtain ⟨t, h, q⟩ := hbody cdv A outer s H vs Q E hg hr hsp
  exact ⟨t, PSs.nox h, q⟩
theorem run_fnG {X : Cx} {CX : CXT} {k : Nat} {f : Addr} {fd : FuncData} {ps : List Str} {sp : Sp} {E : XK} {pins : List (Addr × Obj)} {σ : L2.St} {H : Hp} {s : Shared} {Q : VK} {us : List Value} {vs : List V}
    (F : FnG X.prog X.w X.K X.mg X.base CX k f fd ps sp) (hr : Room k X.A) (hg : X.A.guards = some []) (hb : Binds X.K fd ps []) (hx : Passes CX X E) (I : L2.Inv X pins σ H s) (r : Vals vs us) (h : sp vs H Q E) :
    wpAny (model X.prog X.w) X.A (call (.ref f) us) (EP X pins σ Q) X.xe s := by
  have hl : us.length = ps.length := by rw [← r.length]; exact F.len vs H Q E h
  have hb2 := hb s us I.kIn (by rw [List.append_nil]; exact hl)
  rw [List.append_nil] at hb2
  refine wpAny_call (codeAny_mono (F.run X.A X.stack s H ⟨us, []⟩ us vs Q E hr hg I.env0 hb2 r h) fun rs s' hq => ?_)
  cases rs with
  | error e => exact hx pins σ H s e s' I hq
  | ok fl =>
    cases fl with
    | ret u => exact I.after hq
    | next => exact hq.elim
    | brk => exact hq.elim
    | cont => exact hq.elim
/-- a def's promise, where no repr is under way -/
def CalG (P : Program) (w : World) (K : PySem.W.Frag) (mg : Str → Option Value) (base : Heap) (CX : CXT) (k : Nat) (x : Str) (ps : List Str) (sp : Sp) : Prop :=
  ∃ f fd, FnG P w K mg base CX k f fd ps sp ∧ Binds K fd ps [] ∧ PySem.W.keepIn K (.ref f) = true ∧ mg x = some (.ref f)
theorem pe_calG {X : Cx} {CX : CXT} {k : Nat} {x : Str} {ps : List Str} {sp : Sp} {E : XK} {p pos : Pos} {e : Expr} {es : List Expr} {t : TA} (hg0 : X.A.guards = some []) (C : CalG X.prog X.w X.K X.mg X.base CX k x ps sp) (hr : Room k X.A) (hx : Passes CX X E) (ha : PA X (e :: es) t)
    (hg : Gl X x := by rfl) (hdb : (x == ("__debug__" : Str)) = false := by decide) (he : starEach (e :: es) X.env = (false, eval e X.env) :: starEach es X.env := by rfl) (hpl : (backTo pos (starEach es X.env)).any (·.1) = false := by rfl) :
    PE X (.Call (.Name x p) (e :: es) [] pos) (tCall sp [] E t) := by
  obtain ⟨f, fd, F, b, kp, m⟩ := C
  refine ⟨fun pins s σ H Q I h => wpAny_Call_Name_kw (ld_glob I hg m (PySem.W.callWith_K I.ok.mod.kin kp (thn (ha.run pos pins s σ H _ I h) ?_) he hpl) hdb)⟩
  rintro us s1 ⟨vs, H1, I1, r, q⟩
  have q' : sp vs H1 Q E := by have := q; rwa [List.append_nil] at this
  exact ⟨I1.kIn, run_fnG F hr hg0 b hx I1 r q'⟩
/-! ## the law's call, and its end -/
theorem law_callG {P : Program} {w : World} {K : PySem.W.Frag} {mg mb : Str → Option Value} {k : Nat} {fa a : Addr} {fd : FuncData} {x : Str} {sp : Sp} {s₁ : Shared} {vs : List Value} {ns : List Int}
    (KX : K.In s₁.heap) (hns : s₁.heap.Ns mainGlobals mg) (hb : s₁.heap.Ns builtinsNs mb) (hbb : ∀ x : Str, x ≠ "__name__" → mb x = bootBuiltins x) (hlim : s₁.heap.NoLimit) (hg : s₁.gens = #[]) (ha : s₁.heap.get? a = some { cls := .type "list", data := .seq vs.toArray }) (hi : IntsAre vs ns) (hl : ns.length ≤ sizeLine) (hr : Room k callerA)
    (F : ∀ base : Heap, K.In base → base.Ns mainGlobals mg → FnG P w K mg base CX0 k fa fd [x] sp) (hbind : ∀ (s : Shared) (u : Value), BindsTo s fd ⟨[u], []⟩ [(x, u)])
    (hsp : ∀ H : Hp, Only H → SqL K H a (ns.map V.int) → sp [.ref a] H (fun v _ => v = .bl true) fun _ _ _ => False) :
    codeAny (model P w) callerA (.call (.ref fa) ⟨[.ref a], []⟩) (fun r s' => r = .ok (.ret (.bool true)) ∧ OldK s₁.heap s'.heap ∧ s'.os = s₁.os ∧ AllBare s'.gens) s₁ := by
  have rv := vals_ints hi
  have lenV : vs.length = ns.length := by have := rv.length; rw [List.length_map] at this; exact this.symm
  -- whichever of the two shapes
  have core : ∀ H : Hp, Only H → SqL K H a (ns.map V.int) → HOk P w H s₁.heap → (∀ b, H b ≠ none → b = a) → (H a ≠ none → K.lookup a = none) →
      codeAny (model P w) callerA (.call (.ref fa) ⟨[.ref a], []⟩) (fun r s' => r = .ok (.ret (.bool true)) ∧ OldK s₁.heap s'.heap ∧ s'.os = s₁.os ∧ AllBare s'.gens) s₁ := by
    intro H hO hS hok hA hK
    have noA : ∀ {b : Addr} {o : Obj} {es : Array DictEntry} {ep : Nat}, s₁.heap.get? b = some o → o.data = .dict es ep → H b = none := by
      intro b o es ep e d
      cases q : H b with
      | none => rfl
      | some u =>
        have e2 := hA b (by rw [q]; simp)
        subst e2
        rw [ha] at e
        cases e
        cases d
    have nsK : ∀ {b : Addr} {m : Str → Option Value}, s₁.heap.Ns b m → (hidT s₁.heap H).Ns b m := by
      rintro b m ⟨o, es, ep, e, d, r⟩
      exact ⟨o, es, ep, hidT_get e (noA e d), d, r⟩
    have hKb : K.In (hidT s₁.heap H) := by
      intro b o e
      refine hidT_get (KX b o e) ?_
      cases q : H b with
      | none => rfl
      | some u =>
        have e2 := hA b (by rw [q]; simp)
        subst e2
        have := hK (by rw [q]; simp)
        rw [this] at e
        cases e
    have hM : L2.Mod K mg (hidT s₁.heap H) := ⟨hKb, nsK hns, ⟨mb, nsK hb, hbb⟩, by obtain ⟨mc, h1, h2⟩ := hlim; exact ⟨mc, nsK h1, h2⟩⟩
    have e0 : Env0 P w K mg (hidT s₁.heap H) callerA [] s₁ H := ⟨rfl, hM, fun b o e => of_hidT e, Nat.le_of_eq (hidT_size s₁.heap H), trivial, fun b h => absurd h List.not_mem_nil, hok, AllBare.of_eq hg⟩
    refine codeAny_mono ((F _ hKb (nsK hns)).run callerA [] s₁ H ⟨[.ref a], []⟩ [.ref a] [.ref a] (fun v _ => v = .bl true) (fun _ _ _ => False) hr rfl e0 (hbind s₁ (.ref a)) (.cons rfl .nil) (hsp H hO hS)) fun r s' h => ?_
    cases r with
    | error e => exact absurd h (by intro z; exact z.elim)
    | ok fl =>
      cases fl with
      | next => exact h.elim
      | brk => exact h.elim
      | cont => exact h.elim
      | ret u =>
        obtain ⟨v, H', os, bare, un, hok', r', q⟩ := h
        have q' : v = .bl true := q
        subst q'
        cases r'
        refine ⟨rfl, OldK.of_keep fun b o e => ?_, os, bare⟩
        cases q2 : H b with
        | none => exact un.keep b o e q2 (fun z => absurd z List.not_mem_nil) List.not_mem_nil
        | some u2 =>
          rcases hO b with z | ⟨ob, xs, z⟩
          · rw [q2] at z; cases z
          · have z2 := un.frzs b ob (.lst xs) z
            obtain ⟨e1, _⟩ := hok b _ z
            obtain ⟨e2, _⟩ := hok' b _ z2
            rw [e] at e1
            cases e1
            exact e2
  cases hk : K.lookup a with
  | none =>
    refine core (fun b => if b = a then some (.frz { cls := .type "list", data := .seq vs.toArray } (.lst (ns.map V.int))) else none) (fun b => ?_) (.inl (.inr ⟨_, if_pos rfl⟩)) (fun b u z => ?_) (fun b z => ?_) fun _ => hk
    · by_cases h : b = a
      · exact .inr ⟨_, _, if_pos h⟩
      · exact .inl (if_neg h)
    · by_cases h : b = a
      · subst h
        have z' := (if_pos rfl).symm.trans z
        cases z'
        exact ⟨ha, by rw [List.length_map]; exact hl, vs, 0, rv, ha⟩
      · have z' := (if_neg h).symm.trans z
        cases z'
    · by_cases h : b = a
      · exact h
      · exact absurd (if_neg h) z
  | some o =>
    have e := KX a o hk
    rw [ha] at e
    cases e
    refine core (fun _ => none) (fun _ => .inl rfl) (.inr ⟨_, vs.toArray, 0, hk, rfl, rfl, rfl, by rw [List.size_toArray, lenV]; exact hl, rv⟩) (fun b u z => by cases z) (fun b z => absurd rfl z) fun z => absurd rfl z
theorem walk_ofG {l : PySem.W.OpenLaw} {n k : Nat} {q : Program} {loose : List Str} {XP : (Str → Option Value) → Heap → Prop} {YP : World → Heap → Prop} {d : DefRec} {K : Params → PySem.W.Frag} {sp : World → Sp} {x : Str} (hn : l.most = some n) (hn2 : n ≤ sizeLine) (hdf : d.params.defaults = []) (hr : Room k callerA)
    (hY : ∀ (w : World) (h : Heap), YP w h → (K w.params).In h)
    (F : ∀ (w : World) (mg : Str → Option Value) (fa : Addr) (h : Heap), (K w.params).In h → h.Ns mainGlobals mg → mg d.name = some (.ref fa) →
      ∃ fd : FuncData, (∀ (s : Shared) (u : Value), BindsTo s fd ⟨[u], []⟩ [(x, u)]) ∧ ∀ base : Heap, (K w.params).In base → base.Ns mainGlobals mg → FnG l.prog w (K w.params) mg base CX0 k fa fd [x] (sp w))
    (hsp : ∀ (w : World) (H : Hp) (a : Addr) (ns : List Int), ns.length ≤ n → Only H → SqL (K w.params) H a (ns.map V.int) → sp w [.ref a] H (fun v _ => v = .bl true) fun _ _ _ => False) :
    PySem.W.WalkO q loose XP YP l.row.toRowW d [] fun f vs => call f vs := by
  refine Att.attach_call hn hdf fun w s₀ s₁ mg mb fa o pm cd doc a vs ns G Y ho hd hcd hmg hobj hints hlen hg => ?_
  have KX := hY w s₁.heap Y
  obtain ⟨fd, hb, hF⟩ := F w mg fa s₁.heap KX G.T.g hmg
  exact law_callG KX G.T.g G.T.b G.T.builtins G.T.nolimit hg hobj hints (Nat.le_trans hlen hn2) hr hF hb fun H hO hS => hsp w H a ns hlen hO hS
end KB

namespace KB
open PySem PySem.Spec PyProof.Rows L2
/-! ## data with empty dicts, read as a whole -/
mutual
/-- no list in it -/
def noL : PyData → Bool
  | .list _ => false
  | .tuple ds => noLs ds
  | _ => true
def noLs : List PyData → Bool
  | [] => true
  | d :: r => noL d && noLs r
end
theorem emptyDict {X : Cx} {pins : List (Addr × Obj)} {σ : L2.St} {H : Hp} {s : Shared} (I : L2.Inv X pins σ H s) {a : Addr} (h : H a = some (.dK [])) :
    (a == sysModules) = false ∧ ∃ o n, s.heap.get? a = some o ∧ o.cls = .type "dict" ∧ o.data = .dict #[] n := by
  obtain ⟨_, e, vs, hk, o, es, ep, h1, h2, h3, h4, h5, h6⟩ := I.hok a (.dK []) h
  cases hk
  obtain ⟨el⟩ := es
  cases h5
  exact ⟨e, o, ep, h1, h2.1, h3⟩
mutual
theorem Dq.reads {X : Cx} {pins : List (Addr × Obj)} {σ : L2.St} {H : Hp} {s : Shared} (I : L2.Inv X pins σ H s) : ∀ {d : PyData} {v : V} {u : Value}, Dq X.K H v d → L2.RelV v u → ∃ as, Reads s.heap u d as ∧ (noL d = true → sysModules ∉ as)
  | _, _, _, .non, r => by cases r; exact ⟨[], .none, fun _ => List.not_mem_nil⟩
  | _, _, _, .bl b, r => by cases r; exact ⟨[], .bool b, fun _ => List.not_mem_nil⟩
  | _, _, _, .int i, r => by obtain ⟨t, rfl⟩ := r; exact ⟨[], .int i t, fun _ => List.not_mem_nil⟩
  | _, _, _, .str x, r => by obtain ⟨t, rfl⟩ := r; exact ⟨[], .str x t, fun _ => List.not_mem_nil⟩
  | _, _, _, .lst h hs, r => by
    cases r
    obtain ⟨its, rv, pl, _⟩ := I.list h
    obtain ⟨o, e1, e2, n, e3⟩ := PlainL.isList pl
    obtain ⟨as, ra, _⟩ := DqAll.reads I hs rv
    exact ⟨_, .list e1 e2 e3 (by simpa using ra), fun z => by cases z⟩
  | _, _, _, .tup h hs, r => by
    cases r
    obtain ⟨its, rv, it, _⟩ := I.tuple h
    obtain ⟨o, e1, e2, n, e3⟩ := it
    obtain ⟨as, ra, z⟩ := DqAll.reads I hs rv
    exact ⟨_, .tuple e1 e2 e3 (by simpa using ra), fun q => z (by simpa [noL] using q)⟩
  | _, _, _, .dct h, r => by
    cases r
    obtain ⟨ne, o, n, e1, e2, e3⟩ := emptyDict I h
    refine ⟨_, .dict e1 e2 e3 .nil .nil, fun _ => ?_⟩
    simp only [List.append_nil, List.mem_singleton]
    intro z
    rw [← z] at ne
    simp at ne
theorem DqAll.reads {X : Cx} {pins : List (Addr × Obj)} {σ : L2.St} {H : Hp} {s : Shared} (I : L2.Inv X pins σ H s) : ∀ {ds : List PyData} {vs : List V} {us : List Value}, DqAll X.K H vs ds → Vals vs us → ∃ as, ReadsAll s.heap us ds as ∧ (noLs ds = true → sysModules ∉ as)
  | _, _, _, .nil, r => by cases r; exact ⟨[], .nil, fun _ => List.not_mem_nil⟩
  | _, _, _, .cons h hs, r => by
    cases r with
    | cons r1 r2 =>
      obtain ⟨as, ra, za⟩ := Dq.reads I h r1
      obtain ⟨bs, rb, zb⟩ := DqAll.reads I hs r2
      refine ⟨_, .cons ra rb, fun q => ?_⟩
      simp only [noLs, Bool.and_eq_true] at q
      rw [List.mem_append]
      rintro (h | h)
      · exact za q.1 h
      · exact zb q.2 h
end
/-! ## a tuple beside the empty one, beside a text alone; a list beside the empty one -/
section
variable {X : Cx}
def rEqNil (K : PySem.W.Frag) : R2 := fun x y H Q => ∃ p q xs, x = .ref p ∧ y = .ref q ∧ SqT K H p xs ∧ SqT K H q [] ∧ Q (.bl xs.isEmpty) H
def rNeHd (K : PySem.W.Frag) : R2 := fun x y H Q => ∃ p q a r b, x = .ref p ∧ y = .ref q ∧ SqT K H p (.str a :: r) ∧ SqT K H q [.str b] ∧ Q (.bl (!(a == b && r.isEmpty))) H
def rNeNilL (K : PySem.W.Frag) : R2 := fun x y H Q => ∃ p q xs, x = .ref p ∧ y = .ref q ∧ SqL K H p xs ∧ SqL K H q [] ∧ Q (.bl (!xs.isEmpty)) H
theorem op_eqNil (hu : X.A.units < cLine) : OpR X (compareOp .Eq) (rEqNil X.K) := by
  rintro pins s σ H x y v u Q I rx ry ⟨p, q, xs, rfl, rfl, hp, hq, h⟩
  cases rx
  cases ry
  obtain ⟨it1, r1, t1, _⟩ := I.tuple hp
  obtain ⟨it2, r2, t2, _⟩ := I.tuple hq
  cases r2
  have e := SeqAt.RcAt.tuples (A := X.A) (s := s) (e := fun _ => true) t1 t2 hu (fun j _ h2 => by simp at h2)
  have el : ((List.range (min it1.toArray.size ([] : List Value).toArray.size)).all (fun _ => true) && it1.toArray.size == ([] : List Value).toArray.size) = xs.isEmpty := by
    have := r1.length
    cases xs <;> cases it1 <;> simp at this ⊢
  rw [el] at e
  exact e _ _ _ _ ⟨.bl _, H, I, rfl, h⟩
theorem op_neHd (hu : X.A.units < cLine) : OpR X (compareOp .NotEq) (rNeHd X.K) := by
  rintro pins s σ H x y v u Q I rx ry ⟨p, q, a, r, b, rfl, rfl, hp, hq, h⟩
  cases rx
  cases ry
  obtain ⟨it1, r1, t1, _⟩ := I.tuple hp
  obtain ⟨it2, r2, t2, _⟩ := I.tuple hq
  cases r1 with
  | cons ra rr =>
    cases r2 with
    | cons rb rr2 =>
      cases rr2
      obtain ⟨ta, rfl⟩ := ra
      obtain ⟨tb, rfl⟩ := rb
      rename_i us
      have e := SeqAt.RcNeAt.tuples (A := X.A) (s := s) (e := fun _ => a == b) t1 t2 hu (fun j h1 h2 => by
        have : j = 0 := by simpa using h2
        subst this
        exact SeqAt.EqAt.str_str a ta b tb)
      have el : ((List.range (min (Value.str a ta :: us).toArray.size [Value.str b tb].toArray.size)).all (fun _ => a == b) && (Value.str a ta :: us).toArray.size == [Value.str b tb].toArray.size) = (a == b && r.isEmpty) := by
        have := rr.length
        cases r <;> cases us <;> simp at this ⊢
      rw [el] at e
      exact e _ _ _ _ ⟨.bl _, H, I, rfl, h⟩
theorem op_neNilL (hu : X.A.units < cLine) : OpR X (compareOp .NotEq) (rNeNilL X.K) := by
  rintro pins s σ H x y v u Q I rx ry ⟨p, q, xs, rfl, rfl, hp, hq, h⟩
  cases rx
  cases ry
  obtain ⟨it1, r1, t1, _⟩ := I.list hp
  obtain ⟨it2, r2, t2, _⟩ := I.list hq
  cases r2
  cases r1 with
  | nil =>
    have e := SeqAt.RcNeAt.lists (A := X.A) (s := s) (e := fun _ => true) (PlainL.isList t1) (PlainL.isList t2) rfl hu (fun j h1 _ => by simp at h1)
    exact e _ _ _ _ ⟨.bl _, H, I, rfl, h⟩
  | cons _ _ =>
    have e := SeqAt.RcNeAt.lists_lengths (A := X.A) (s := s) (PlainL.isList t1) (PlainL.isList t2) (by simp) hu
    exact e _ _ _ _ ⟨.bl _, H, I, rfl, h⟩
end
/-! ## repr of data -/
def rRepr (K : PySem.W.Frag) : List V → Hp → VK → Prop := fun xs H Q => ∃ x d, xs = [x] ∧ Dq K H x d ∧ d.showable = true ∧ (d.hasDict = true → noL d = true) ∧ d.depth ≤ 190 ∧ d.shown.length ≤ sizeLine ∧ Q (.str d.shown) H
theorem call_reprD {X : Cx} (hg : X.A.guards = some []) (hu : X.A.units + 200 < cLine) : CallR X (.builtin "repr") (rRepr X.K) := by
  rintro pins s σ H xs us Q I r ⟨x, d, rfl, hd, hsh, hno, hdp, hlen, q⟩
  cases r with
  | cons rx rr =>
    cases rr
    obtain ⟨as, ra, hs⟩ := Dq.reads I hd rx
    cases hd with
    | non => cases rx; exact P.repr_of_none ⟨.str _, H, Inv.tok I _, ⟨_, rfl⟩, q⟩
    | bl b => cases rx; refine P.repr_of_bool ⟨.str (if b = true then "True" else "False"), H, Inv.tok I _, ⟨_, rfl⟩, ?_⟩; cases b <;> exact q
    | int i =>
      obtain ⟨t, rfl⟩ := rx
      exact P.repr_of_int (by rw [PyData.showable] at hsh; exact of_decide_eq_true hsh) ⟨.str _, H, Inv.tok I _, ⟨_, rfl⟩, q⟩
    | str z =>
      obtain ⟨t, rfl⟩ := rx
      exact P.repr_of_str ⟨.str _, H, Inv.tok I _, ⟨_, rfl⟩, q⟩ hlen
    | lst h hs' =>
      cases rx
      exact repr_of_reads' ra hsh (fun z => hs (hno z)) hg (by omega) (fun _ _ e => e) (fun h' u tk k => ⟨.str _, H, I.kept k, ⟨_, rfl⟩, q⟩) hlen
    | tup h hs' =>
      cases rx
      exact repr_of_reads' ra hsh (fun z => hs (hno z)) hg (by omega) (fun _ _ e => e) (fun h' u tk k => ⟨.str _, H, I.kept k, ⟨_, rfl⟩, q⟩) hlen
    | dct h =>
      cases rx
      exact repr_of_reads' ra hsh (fun z => hs (hno z)) hg (by omega) (fun _ _ e => e) (fun h' u tk k => ⟨.str _, H, I.kept k, ⟨_, rfl⟩, q⟩) hlen
/-! ## small data: what its repr is at most -/
mutual
def Sm : PyData → Bool
  | .none => true
  | .bool _ => true
  | .int i => decide (i.natAbs ≤ 20)
  | .str x => x.cps.toList.all (fun c => decide (c < 128)) && decide (x.cps.size ≤ 10)
  | .list xs => Sms xs
  | .tuple xs => Sms xs
  | .dict kvs => kvs.isEmpty
def Sms : List PyData → Bool
  | [] => true
  | d :: r => Sm d && Sms r
end
theorem small_int (i : Int) (h : i.natAbs ≤ 20) : (PyData.int i).shown.length ≤ 10 ∧ (PyData.int i).showable = true := by
  have a : ∀ n : Fin 21, (PyData.int (n.val : Int)).shown.length ≤ 10 ∧ (PyData.int (n.val : Int)).showable = true := by decide +kernel
  have b : ∀ n : Fin 21, (PyData.int (-(n.val : Int))).shown.length ≤ 10 ∧ (PyData.int (-(n.val : Int))).showable = true := by decide +kernel
  rcases Int.natAbs_eq i with e | e <;> rw [e]
  · exact a ⟨i.natAbs, by omega⟩
  · exact b ⟨i.natAbs, by omega⟩
mutual
theorem Sm.fine : ∀ d : PyData, Sm d = true → d.showable = true ∧ PyData.leavesShort 10 d = true ∧ d.bulk + 3 ≤ 13 * sz d
  | .none, _ => ⟨by rw [PyData.showable], by rw [PyData.leavesShort], by simp [PyData.bulk, sz]⟩
  | .bool _, _ => ⟨by rw [PyData.showable], by rw [PyData.leavesShort], by simp [PyData.bulk, sz]⟩
  | .int i, h => by
    have h' : i.natAbs ≤ 20 := of_decide_eq_true h
    exact ⟨(small_int i h').2, by rw [PyData.leavesShort]; exact decide_eq_true (small_int i h').1, by simp [PyData.bulk, sz]⟩
  | .str x, h => by
    have h' : (x.cps.toList.all fun c => decide (c < 128)) = true ∧ x.cps.size ≤ 10 := by
      rw [Sm, Bool.and_eq_true] at h
      exact ⟨h.1, of_decide_eq_true h.2⟩
    refine ⟨by rw [PyData.showable], ?_, by simp only [PyData.bulk, sz]; omega⟩
    rw [PyData.leavesShort, List.all_eq_true]
    intro c hc
    have := of_decide_eq_true (List.all_eq_true.mp h'.1 c hc)
    exact decide_eq_true (Nat.lt_trans this (by decide))
  | .list xs, h => by
    have := Sms.fine xs (by rwa [Sm] at h)
    exact ⟨by rw [PyData.showable]; exact this.1, by rw [PyData.leavesShort]; exact this.2.1, by simp only [PyData.bulk, sz]; omega⟩
  | .tuple xs, h => by
    have := Sms.fine xs (by rwa [Sm] at h)
    exact ⟨by rw [PyData.showable]; exact this.1, by rw [PyData.leavesShort]; exact this.2.1, by simp only [PyData.bulk, sz]; omega⟩
  | .dict [], _ => ⟨by rw [PyData.showable, PyData.showableKv], by rw [PyData.leavesShort, PyData.leavesShortKv], by simp [PyData.bulk, PyData.bulkKv, sz]⟩
  | .dict (_ :: _), h => by rw [Sm] at h; cases h
theorem Sms.fine : ∀ ds : List PyData, Sms ds = true → PyData.showableAll ds = true ∧ PyData.leavesShortAll 10 ds = true ∧ PyData.bulkAll ds ≤ 13 * szs ds
  | [], _ => ⟨by rw [PyData.showableAll], by rw [PyData.leavesShortAll], by simp [PyData.bulkAll]⟩
  | d :: r, h => by
    rw [Sms, Bool.and_eq_true] at h
    have a := Sm.fine d h.1
    have b := Sms.fine r h.2
    have c := sz_pos d
    exact ⟨by rw [PyData.showableAll, a.1, b.1]; rfl, by rw [PyData.leavesShortAll, a.2.1, b.2.1]; rfl, by simp only [PyData.bulkAll, szs]; omega⟩
end
/-- what a law's thing is like: small, and not both a list and a dict in it -/
structure Fine (d : PyData) : Prop where
  sm : Sm d = true
  nd : d.hasDict = true → noL d = true
theorem Fine.shown {d : PyData} (f : Fine d) (h : sz d ≤ 10000) : d.shown.length ≤ sizeLine := by
  have a := Sm.fine d f.sm
  have b := PyData.shown_le_bulk 10 (by decide) d a.2.1
  exact fits (by omega)
theorem Kd.noD : ∀ k : Kd, k.dat.hasDict = false ∧ noL k.dat = true
  | .b _ => by simp [Kd.dat, PyData.hasDict, PyData.hasDictAll, noL, noLs]
  | .u => by simp [Kd.dat, PyData.hasDict, PyData.hasDictAll, noL, noLs]
  | .p x y => by simp [Kd.dat, PyData.hasDict, PyData.hasDictAll, noL, noLs, Kd.noD x, Kd.noD y]
  | .f x y => by simp [Kd.dat, PyData.hasDict, PyData.hasDictAll, noL, noLs, Kd.noD x, Kd.noD y]
theorem Kd.sm : ∀ k : Kd, k.ok → Sm k.dat = true
  | .b n, h => by
    have h' : n < 8 := h
    have e : Sm (.str "base") = true := by decide +kernel
    simp only [Kd.dat, Sm, Sms, Bool.and_true] at e ⊢
    rw [e]
    simp
    omega
  | .u, _ => by decide +kernel
  | .p x y, h => by
    have e : Sm (.str "both") = true := by decide +kernel
    simp only [Kd.dat, Sm, Sms, Kd.sm x h.1, Kd.sm y h.2, Bool.and_true] at e ⊢
    exact e
  | .f x y, h => by
    have e : Sm (.str "from") = true := by decide +kernel
    simp only [Kd.dat, Sm, Sms, Kd.sm x h.1, Kd.sm y h.2, Bool.and_true] at e ⊢
    exact e
theorem Kd.fine (k : Kd) (h : k.ok) : Fine k.dat := ⟨k.sm h, fun z => by rw [k.noD.1] at z; cases z⟩
end KB

namespace KB
open PySem PySem.Spec PyProof.Rows L2
/-! ## factors, and the order of tuples on them -/
inductive Fc where
  | mk (ws : List Fc) (n : Nat)
namespace Fc
mutual
def dat : Fc → PyData
  | mk ws n => .tuple [.tuple (dats ws), .int n]
def dats : List Fc → List PyData
  | [] => []
  | f :: r => dat f :: dats r
end
mutual
def cmp : Fc → Fc → Ordering
  | mk ws n, mk vs m => (cmps ws vs).then (compare n m)
def cmps : List Fc → List Fc → Ordering
  | [], [] => .eq
  | [], _ :: _ => .lt
  | _ :: _, [] => .gt
  | a :: r, b :: s => (cmp a b).then (cmps r s)
end
mutual
theorem cmp_eq : ∀ a b : Fc, cmp a b = .eq ↔ a = b
  | mk ws n, mk vs m => by
    rw [cmp, Ordering.then_eq_eq, cmps_eq ws vs, Nat.compare_eq_eq, mk.injEq]
theorem cmps_eq : ∀ a b : List Fc, cmps a b = .eq ↔ a = b
  | [], [] => by simp [cmps]
  | [], _ :: _ => by simp [cmps]
  | _ :: _, [] => by simp [cmps]
  | a :: r, b :: s => by rw [cmps, Ordering.then_eq_eq, cmp_eq a b, cmps_eq r s, List.cons.injEq]
end
mutual
theorem cmp_swap : ∀ a b : Fc, cmp b a = (cmp a b).swap
  | mk ws n, mk vs m => by
    rw [cmp, cmp, Ordering.swap_then, cmps_swap ws vs, Nat.compare_swap]
theorem cmps_swap : ∀ a b : List Fc, cmps b a = (cmps a b).swap
  | [], [] => by simp [cmps]
  | [], _ :: _ => by simp [cmps]
  | _ :: _, [] => by simp [cmps]
  | a :: r, b :: s => by rw [cmps, cmps, Ordering.swap_then, cmp_swap a b, cmps_swap r s]
end
mutual
theorem cmp_tr : ∀ a b c : Fc, cmp a b = .lt → cmp b c = .lt → cmp a c = .lt
  | mk ws n, mk vs m, mk us k => by
    rw [cmp, cmp, cmp, Ordering.then_eq_lt, Ordering.then_eq_lt, Ordering.then_eq_lt, Nat.compare_eq_lt, Nat.compare_eq_lt, Nat.compare_eq_lt]
    rintro (h1 | ⟨h1, h2⟩) (h3 | ⟨h3, h4⟩)
    · exact .inl (cmps_tr ws vs us h1 h3)
    · rw [cmps_eq] at h3; subst h3; exact .inl h1
    · rw [cmps_eq] at h1; subst h1; exact .inl h3
    · rw [cmps_eq] at h1 h3; subst h1; subst h3; exact .inr ⟨(cmps_eq _ _).mpr rfl, by omega⟩
theorem cmps_tr : ∀ a b c : List Fc, cmps a b = .lt → cmps b c = .lt → cmps a c = .lt
  | [], [], c => by simp [cmps]
  | [], _ :: _, [] => by simp [cmps]
  | [], _ :: _, _ :: _ => by simp [cmps]
  | _ :: _, [], _ => by simp [cmps]
  | _ :: _, _ :: _, [] => by simp [cmps]
  | a :: r, b :: s, c :: t => by
    rw [cmps, cmps, cmps, Ordering.then_eq_lt, Ordering.then_eq_lt, Ordering.then_eq_lt]
    rintro (h1 | ⟨h1, h2⟩) (h3 | ⟨h3, h4⟩)
    · exact .inl (cmp_tr a b c h1 h3)
    · rw [cmp_eq] at h3; subst h3; exact .inl h1
    · rw [cmp_eq] at h1; subst h1; exact .inl h3
    · rw [cmp_eq] at h1 h3; subst h1; subst h3; exact .inr ⟨(cmp_eq _ _).mpr rfl, cmps_tr r s t h2 h4⟩
end
def lt (a b : Fc) : Bool := cmp a b == .lt
theorem swo : SrtO.Swo lt := by
  refine ⟨fun x y h => ?_, fun x y z h1 h2 => ?_⟩
  · have h' : cmp x y = .lt := by simpa [lt] using h
    simp [lt, cmp_swap x y, h']
  · have h1' : cmp y x ≠ .lt := by simpa [lt] using h1
    have h2' : cmp z y ≠ .lt := by simpa [lt] using h2
    have : cmp z x ≠ .lt := by
      intro h
      cases e : cmp y x with
      | lt => exact h1' e
      | eq => rw [cmp_eq] at e; subst e; exact h2' h
      | gt => exact h2' (cmp_tr z x y h (by rw [cmp_swap y x, e]; rfl))
    simpa [lt] using this
mutual
theorem lay : ∀ f : Fc, (dat f).canLay0 = true
  | mk ws n => by simp [dat, PyData.canLay0, PyData.canLayAll0, lays ws]
theorem lays : ∀ fs : List Fc, PyData.canLayAll0 (dats fs) = true
  | [] => by simp [dats, PyData.canLayAll0]
  | f :: r => by simp [dats, PyData.canLayAll0, lay f, lays r]
end
theorem nat_ev (n m : Nat) : ((n : Int) == (m : Int)) = (compare n m == .eq) := by
  by_cases h : n = m
  · subst h; simp
  · have h2 : ¬ compare n m = .eq := fun z => h (Nat.compare_eq_eq.mp z)
    rw [beq_eq_false_iff_ne.mpr (fun z => h (by omega)), beq_eq_false_iff_ne.mpr h2]
theorem then_ev (a b : Ordering) : (a.then b == .eq) = (a == .eq && b == .eq) := by cases a <;> cases b <;> rfl
mutual
theorem eqv : ∀ f g : Fc, (dat f).eqv (dat g) = (cmp f g == .eq)
  | mk ws n, mk vs m => by
    rw [dat, dat, ev_tup, ev_cons, ev_cons, ev_nil, ev_tup, ev_int, eqvs ws vs, nat_ev, cmp, then_ev, Bool.and_true]
theorem eqvs : ∀ fs gs : List Fc, PyData.eqvAll (dats fs) (dats gs) = (cmps fs gs == .eq)
  | [], [] => by rw [dats, ev_nil, cmps]; rfl
  | [], g :: r => by rw [dats, dats, ev_nilc, cmps]; rfl
  | f :: r, [] => by rw [dats, dats, ev_cnil, cmps]; rfl
  | f :: r, g :: t => by rw [dats, dats, ev_cons, eqv f g, eqvs r t, cmps, then_ev]
end
theorem dats_length : ∀ fs : List Fc, (dats fs).length = fs.length
  | [] => rfl
  | f :: r => by rw [dats, List.length_cons, dats_length r, List.length_cons]
def eF (fs gs : List Fc) (j : Nat) : Bool := match fs[j]?, gs[j]? with | some f, some g => cmp f g == .eq | _, _ => false
def rF (fs gs : List Fc) (j : Nat) : Bool := match fs[j]?, gs[j]? with | some f, some g => lt f g | _, _ => false
theorem firstLt_map (e r : Nat → Bool) (fin : Bool) (g : Nat → Nat) : ∀ l : List Nat, SeqAt.firstLt e r fin (l.map g) = SeqAt.firstLt (fun j => e (g j)) (fun j => r (g j)) fin l
  | [] => by rw [List.map_nil, SeqAt.firstLt.eq_1, SeqAt.firstLt.eq_1]
  | j :: t => by rw [List.map_cons, SeqAt.firstLt.eq_2, SeqAt.firstLt.eq_2, firstLt_map e r fin g t]
theorem then_lt (a b : Ordering) : (a.then b == .lt) = (if (a == .eq) = true then (b == .lt) else (a == .lt)) := by cases a <;> cases b <;> rfl
theorem firstLt_cmps : ∀ fs gs : List Fc, SeqAt.firstLt (eF fs gs) (rF fs gs) (decide (fs.length < gs.length)) (List.range (min fs.length gs.length)) = (cmps fs gs == .lt)
  | [], [] => by simp [SeqAt.firstLt.eq_1, cmps]
  | [], _ :: _ => by simp [SeqAt.firstLt.eq_1, cmps]
  | _ :: _, [] => by simp [SeqAt.firstLt.eq_1, cmps]
  | f :: r, g :: t => by
    have hm : min (f :: r).length (g :: t).length = min r.length t.length + 1 := by simp only [List.length_cons]; omega
    have hd : decide ((f :: r).length < (g :: t).length) = decide (r.length < t.length) := by simp
    rw [hm, hd, List.range_succ_eq_map, SeqAt.firstLt.eq_2, firstLt_map]
    have h1 : (fun j => eF (f :: r) (g :: t) (Nat.succ j)) = eF r t := funext fun j => rfl
    have h2 : (fun j => rF (f :: r) (g :: t) (Nat.succ j)) = rF r t := funext fun j => rfl
    rw [h1, h2, firstLt_cmps r t, cmps, then_lt]
    rfl
theorem tup_inv {h : Heap} {v : Value} {ds : List PyData} {as : List Addr} (r : Reads h v (.tuple ds) as) : ∃ a items, v = .ref a ∧ h.IsTuple a items ∧ ReadsAll h items.toList ds as := by
  cases r with
  | tuple e1 e2 e3 ra => exact ⟨_, _, rfl, ⟨_, e1, e2, _, e3⟩, ra⟩
theorem rc_int {A : Around} {s : Shared} (a : Int) (t : Tok) (b : Int) (u : Tok) : SeqAt.RcLt A s (.int a t) (.int b u) (decide (a < b)) := fun prog w E Q h => lt_int h
theorem reads_at {h : Heap} : ∀ {vs : List Value} {fs : List Fc} {as : List Addr}, ReadsAll h vs (dats fs) as → vs.length = fs.length ∧ ∀ (j : Nat) (hj : j < vs.length), ∃ f bs, fs[j]? = some f ∧ Reads h vs[j] (dat f) bs
  | _, [], _, r => by
    rw [dats] at r
    cases r
    exact ⟨rfl, fun j hj => absurd hj (Nat.not_lt_zero _)⟩
  | _, f :: t, _, r => by
    rw [dats] at r
    cases r with
    | cons r1 r2 =>
      obtain ⟨hl, hr⟩ := reads_at r2
      refine ⟨by simp [hl], fun j hj => ?_⟩
      cases j with
      | zero => exact ⟨f, _, rfl, r1⟩
      | succ j =>
        obtain ⟨g, bs, e, q⟩ := hr j (by simpa using hj)
        exact ⟨g, bs, by simpa using e, q⟩
theorem depth_mem {fs : List Fc} {f : Fc} {j : Nat} (h : fs[j]? = some f) : (dat f).depth ≤ PyData.depthAll (dats fs) := by
  induction fs generalizing j with
  | nil => simp at h
  | cons g r ih =>
    rw [dats]
    simp only [PyData.depthAll]
    cases j with
    | zero => simp at h; subst h; omega
    | succ j => have := ih (j := j) (by simpa using h); omega
mutual
theorem rcLt : ∀ (f g : Fc) {A : Around} {s : Shared} {v u : Value} {as bs : List Addr}, Reads s.heap v (dat f) as → Reads s.heap u (dat g) bs → A.units + (dat f).depth < cLine → SeqAt.RcLt A s v u (lt f g)
  | mk ws n, mk vs m, A, s, v, u, as, bs, rv, ru, hu => by
    rw [dat] at rv ru hu
    simp only [PyData.depth, PyData.depthAll] at hu
    obtain ⟨a, items, rfl, t1, ra⟩ := tup_inv rv
    obtain ⟨b, items2, rfl, t2, rb⟩ := tup_inv ru
    obtain ⟨il⟩ := items
    obtain ⟨il2⟩ := items2
    cases ra with
    | cons r1 r2 => cases r2 with
    | cons r3 r4 => cases r4 with
    | nil => cases rb with
    | cons p1 p2 => cases p2 with
    | cons p3 p4 => cases p4 with
    | nil =>
    cases r3
    cases p3
    have eq0 := SeqAt.eqAt_reads _ _ A.in1 s _ _ _ _ r1 p1 (by simpa [PyData.canLay0] using lays ws) (by simpa [PyData.canLay0] using lays vs) (by show A.units + 1 + _ < cLine; simp only [PyData.depth]; omega)
    rw [ev_tup, eqvs] at eq0
    obtain ⟨a1, w1, rfl, tw, rw1⟩ := tup_inv r1
    obtain ⟨b1, w2, rfl, tv, rv1⟩ := tup_inv p1
    obtain ⟨l1, f1⟩ := reads_at rw1
    obtain ⟨l2, f2⟩ := reads_at rv1
    have lt0 : SeqAt.RcLt A.in1 s (.ref a1) (.ref b1) (cmps ws vs == .lt) := by
      have h := SeqAt.RcLt.tuples (A := A.in1) (s := s) (e := eF ws vs) (r := rF ws vs) tw tv (by show A.units + 1 < cLine; omega) (fun j h1 h2 => ?_) (fun j h1 h2 _ => ?_)
      · have s1 : w1.size = ws.length := by rw [← l1]; simp
        have s2 : w2.size = vs.length := by rw [← l2]; simp
        rw [s1, s2, firstLt_cmps] at h
        exact h
      · obtain ⟨f, as1, e1, q1⟩ := f1 j (by simpa using h1)
        obtain ⟨g, bs1, e2, q2⟩ := f2 j (by simpa using h2)
        have d1 := depth_mem e1
        have := SeqAt.eqAt_reads _ _ A.in1.in1 s _ _ _ _ q1 q2 (lay f) (lay g) (by show A.units + 1 + 1 + _ < cLine; omega)
        rw [eqv f g] at this
        have ef : eF ws vs j = (cmp f g == .eq) := by simp [eF, e1, e2]
        rw [ef]
        simpa using this
      · obtain ⟨f, as1, e1, q1⟩ := f1 j (by simpa using h1)
        obtain ⟨g, bs1, e2, q2⟩ := f2 j (by simpa using h2)
        have := rcLts ws vs (A := A.in1.in1) j e1 q1 q2 (by show A.units + 1 + 1 + _ < cLine; omega)
        have ef : rF ws vs j = lt f g := by simp [rF, e1, e2]
        rw [ef]
        simpa using this
    have h := SeqAt.RcLt.tuples (A := A) (s := s) (e := fun j => if j = 0 then (cmps ws vs == .eq) else ((n : Int) == (m : Int))) (r := fun j => if j = 0 then (cmps ws vs == .lt) else decide ((n : Int) < (m : Int))) t1 t2 (by omega) (fun j h1 h2 => ?_) (fun j h1 h2 _ => ?_)
    · have e : SeqAt.firstLt (fun j => if j = 0 then (cmps ws vs == .eq) else ((n : Int) == (m : Int))) (fun j => if j = 0 then (cmps ws vs == .lt) else decide ((n : Int) < (m : Int))) (decide (2 < 2)) [0, 1] = lt (mk ws n) (mk vs m) := by
        rw [SeqAt.firstLt.eq_2, SeqAt.firstLt.eq_2, SeqAt.firstLt.eq_1, lt, cmp, then_lt]
        have hnm : decide ((n : Int) < (m : Int)) = (compare n m == .lt) := by
          by_cases h : n < m
          · have h2 : compare n m = .lt := Nat.compare_eq_lt.mpr h
            have h3 : ((n : Int) < (m : Int)) := by omega
            simp [h2, h3]
          · have h2 : compare n m ≠ .lt := fun z => h (Nat.compare_eq_lt.mp z)
            have h3 : ¬ ((n : Int) < (m : Int)) := by omega
            simp [h2, h3]
        simp only [hnm, nat_ev]
        generalize cmps ws vs = c
        generalize compare n m = d
        cases c <;> cases d <;> rfl
      rw [← e]
      exact h
    · match j, h1, h2 with
      | 0, _, _ => exact eq0
      | 1, _, _ => exact SeqAt.EqAt.int_int _ _ _ _
      | j + 2, h1, _ => exact absurd h1 (by simp)
    · match j, h1, h2 with
      | 0, _, _ => exact lt0
      | 1, _, _ => exact rc_int _ _ _ _
      | j + 2, h1, _ => exact absurd h1 (by simp)
theorem rcLts : ∀ (fs gs : List Fc) {A : Around} {s : Shared} (j : Nat) {f g : Fc} {v u : Value} {as bs : List Addr}, fs[j]? = some f → Reads s.heap v (dat f) as → Reads s.heap u (dat g) bs → A.units + PyData.depthAll (dats fs) < cLine → SeqAt.RcLt A s v u (lt f g)
  | [], _, _, _, _, _, _, _, _, _, _, h, _, _, _ => by simp at h
  | f0 :: r, gs, A, s, 0, f, g, v, u, as, bs, h, rv, ru, hu => by
    have e : f0 = f := by simpa using h
    subst e
    rw [dats] at hu
    simp only [PyData.depthAll] at hu
    exact rcLt f0 g rv ru (by omega)
  | f0 :: r, gs, A, s, j + 1, f, g, v, u, as, bs, h, rv, ru, hu => by
    rw [dats] at hu
    simp only [PyData.depthAll] at hu
    exact rcLts r gs j (by simpa using h) rv ru (by omega)
end
theorem rcLtW {ws vs : List Fc} {A : Around} {s : Shared} {v u : Value} {as bs : List Addr} (r1 : Reads s.heap v (.tuple (dats ws)) as) (p1 : Reads s.heap u (.tuple (dats vs)) bs) (hu : A.units + (PyData.depthAll (dats ws) + 2) < cLine) : SeqAt.RcLt A s v u (cmps ws vs == .lt) := by
  obtain ⟨a1, w1, rfl, tw, rw1⟩ := tup_inv r1
  obtain ⟨b1, w2, rfl, tv, rv1⟩ := tup_inv p1
  obtain ⟨l1, f1⟩ := reads_at rw1
  obtain ⟨l2, f2⟩ := reads_at rv1
  have h := SeqAt.RcLt.tuples (A := A) (s := s) (e := eF ws vs) (r := rF ws vs) tw tv (by omega) (fun j h1 h2 => ?_) (fun j h1 h2 _ => ?_)
  · have s1 : w1.size = ws.length := by rw [← l1]; simp
    have s2 : w2.size = vs.length := by rw [← l2]; simp
    rw [s1, s2, firstLt_cmps] at h
    exact h
  · obtain ⟨f, as1, e1, q1⟩ := f1 j (by simpa using h1)
    obtain ⟨g, bs1, e2, q2⟩ := f2 j (by simpa using h2)
    have d1 := depth_mem e1
    have := SeqAt.eqAt_reads _ _ A.in1 s _ _ _ _ q1 q2 (lay f) (lay g) (by show A.units + 1 + _ < cLine; omega)
    rw [eqv f g] at this
    have ef : eF ws vs j = (cmp f g == .eq) := by simp [eF, e1, e2]
    rw [ef]
    simpa using this
  · obtain ⟨f, as1, e1, q1⟩ := f1 j (by simpa using h1)
    obtain ⟨g, bs1, e2, q2⟩ := f2 j (by simpa using h2)
    have := rcLts ws vs (A := A.in1) j e1 q1 q2 (by show A.units + 1 + _ < cLine; omega)
    have ef : rF ws vs j = lt f g := by simp [rF, e1, e2]
    rw [ef]
    simpa using this
mutual
theorem keeps {h h' : Heap} (k : ∀ (b : Addr) (o : Obj), o.cls = .type "tuple" → h.get? b = some o → h'.get? b = some o) : ∀ (f : Fc) {v : Value} {as : List Addr}, Reads h v (dat f) as → Reads h' v (dat f) as
  | mk ws n, v, as, r => by
    rw [dat] at r ⊢
    obtain ⟨a, ⟨il⟩, rfl, ⟨o, e1, e2, n1, e3⟩, ra⟩ := tup_inv r
    cases ra with
    | cons r1 r2 => cases r2 with
    | cons r3 r4 =>
      cases r4
      cases r3
      obtain ⟨a2, ⟨il2⟩, rfl, ⟨o2, g1, g2, n2, g3⟩, rb⟩ := tup_inv r1
      exact .tuple (k _ _ e2 e1) e2 e3 (.cons (.tuple (k _ _ g2 g1) g2 g3 (keepsAll k ws rb)) (.cons (.int _ _) .nil))
theorem keepsAll {h h' : Heap} (k : ∀ (b : Addr) (o : Obj), o.cls = .type "tuple" → h.get? b = some o → h'.get? b = some o) : ∀ (fs : List Fc) {vs : List Value} {as : List Addr}, ReadsAll h vs (dats fs) as → ReadsAll h' vs (dats fs) as
  | [], _, _, r => by rw [dats] at r ⊢; cases r; exact .nil
  | f :: t, _, _, r => by
    rw [dats] at r ⊢
    cases r with
    | cons r1 r2 => exact .cons (keeps k f r1) (keepsAll k t r2)
end
theorem nat_ltv (n m : Nat) : decide ((n : Int) < (m : Int)) = (compare n m == .lt) := by
  by_cases h : n < m
  · have h2 : compare n m = .lt := Nat.compare_eq_lt.mpr h
    have h3 : ((n : Int) < (m : Int)) := by omega
    simp [h2, h3]
  · have h2 : compare n m ≠ .lt := fun z => h (Nat.compare_eq_lt.mp z)
    have h3 : ¬ ((n : Int) < (m : Int)) := by omega
    simp [h2, h3]
theorem cmp_self (f : Fc) : cmp f f = .eq := (cmp_eq f f).mpr rfl
theorem dat_inj {f g : Fc} (h : dat f = dat g) : f = g := by
  have a := eqv f g
  have b := eqv f f
  rw [cmp_self] at b
  rw [← h, b] at a
  exact (cmp_eq f g).mp (by simpa using a.symm)
open Classical in
noncomputable def kOf (h : Heap) (v : Value) : Fc := if e : ∃ f as, Reads h v (dat f) as then e.choose else .mk [] 0
theorem kOf_eq {h : Heap} {v : Value} {f : Fc} {as : List Addr} (r : Reads h v (dat f) as) : kOf h v = f := by
  have e : ∃ f as, Reads h v (dat f) as := ⟨f, as, r⟩
  unfold kOf
  rw [dif_pos e]
  obtain ⟨bs, q⟩ := e.choose_spec
  exact dat_inj (SeqAt.Reads.unique _ _ _ _ _ (lay _) q r)
theorem firsts {h : Heap} : ∀ {vs : List Value}, (∀ v ∈ vs, ∃ f as, Reads h v (dat f) as) → ∃ fs, PySem.W.KatTups h vs fs ∧ fs.length = vs.length ∧ ∀ f ∈ fs, ∃ a o, f = Value.ref a ∧ h.get? a = some o ∧ o.cls = .type "tuple"
  | [], _ => ⟨[], by simp only [PySem.W.KatTups], rfl, fun f hf => absurd hf List.not_mem_nil⟩
  | v :: r, hv => by
    obtain ⟨fs, h1, h2, h3⟩ := firsts (vs := r) fun x hx => hv x (List.mem_cons_of_mem _ hx)
    obtain ⟨f, as, rf⟩ := hv v List.mem_cons_self
    obtain ⟨ws, n⟩ := f
    rw [dat] at rf
    obtain ⟨a, ⟨il⟩, rfl, ⟨o, e1, e2, n1, e3⟩, ra⟩ := tup_inv rf
    cases ra with
    | cons r1 r2 =>
      obtain ⟨a2, ⟨il2⟩, rfl, ⟨o2, g1, g2, n2, g3⟩, rb⟩ := tup_inv r1
      refine ⟨.ref a2 :: fs, by simp only [PySem.W.KatTups]; exact ⟨⟨a, o, _, _, rfl, e1, e2, e3, rfl⟩, h1⟩, by simp [h2], fun f hf => ?_⟩
      rcases List.mem_cons.mp hf with rfl | hf
      · exact ⟨a2, o2, rfl, g1, g2⟩
      · exact h3 f hf
theorem cmp_sort {prog : Program} {w : World} {A : Around} {s : Shared} {vs : List Value} {k : Value → Fc} (hp : ∀ v ∈ vs, ∃ as, Reads s.heap v (dat (k v)) as ∧ A.units + ((dat (k v)).depth + 2) < cLine) :
    SrtO.Cmp prog w A s (tuples' false) (fun p => p.fst ∈ vs) (SrtO.lt2 fun v u => lt (k v) (k u)) := by
  intro p q hm hm'
  obtain ⟨as, rf, hu⟩ := hp p.fst hm
  obtain ⟨bs, rg, _⟩ := hp q.fst hm'
  show wpAny (model prog w) A (keyLt' (tuples' false) p.fst q.fst) (fun r s' => s' = s ∧ r = lt (k p.fst) (k q.fst)) (fun x x_1 => False) s
  generalize k p.fst = f at rf hu ⊢
  generalize k q.fst = g at rg ⊢
  obtain ⟨ws, n⟩ := f
  obtain ⟨us, m⟩ := g
  rw [dat] at rf rg hu
  simp only [PyData.depth, PyData.depthAll] at hu
  obtain ⟨a, ⟨il⟩, e0, ⟨o, e1, e2, n1, e3⟩, ra⟩ := tup_inv rf
  obtain ⟨b, ⟨il2⟩, g0, ⟨o2, g1, g2, n2, g3⟩, rb⟩ := tup_inv rg
  rw [e0, g0]
  cases ra with
  | cons r1 r2 => cases r2 with
  | cons r3 r4 =>
    cases r4
    cases r3
    cases rb with
    | cons p1 p2 => cases p2 with
    | cons p3 p4 =>
      cases p4
      cases p3
      have eq0 := SeqAt.eqAt_reads _ _ A s _ _ _ _ r1 p1 (by simpa [PyData.canLay0] using lays ws) (by simpa [PyData.canLay0] using lays us) (by simp only [PyData.depth]; omega)
      rw [ev_tup, eqvs] at eq0
      have lt0 := rcLtW (A := A) r1 p1 (by omega)
      have val : lt (mk ws n) (mk us m) = (if (cmps ws us == .eq) = true then (compare n m == .lt) else (cmps ws us == .lt)) := by rw [lt, cmp, then_lt]
      refine PySem.W.kat_lt e1 e3 g1 g3 (PySem.W.kat_cons (eq0 prog w _ _ (PySem.W.kat_go (fun c1 => PySem.W.kat_yes (PySem.W.kat_cons (SeqAt.EqAt.int_int _ _ _ _ prog w _ _ (PySem.W.kat_go (fun c2 => PySem.W.kat_yes (PySem.W.kat_nil ⟨rfl, ?_⟩)) fun c2 => PySem.W.kat_no (PySem.W.kat_one _ _ (lt_int ⟨rfl, ?_⟩)))))) fun c1 => PySem.W.kat_no (PySem.W.kat_one _ _ (lt0 prog w _ _ ⟨rfl, ?_⟩)))))
      · rw [val, if_pos c1]
        have : n = m := by have := eq_of_beq c2; omega
        subst this; simp
      · rw [val, if_pos c1]; exact nat_ltv n m
      · rw [val, c1]; rfl
theorem sortable {prog : Program} {w : World} {A : Around} {s : Shared} {a : Addr} {vs : List Value} {k : Value → Fc} (h0 : 0 < vs.length) (hp : ∀ v ∈ vs, ∃ as, Reads s.heap v (dat (k v)) as ∧ A.units + ((dat (k v)).depth + 2) < cLine)
    (ha : ∀ o : Obj, s.heap.get? a = some o → o.cls ≠ .type "tuple") : SrtO.SortableO prog w A s a vs (fun v u => lt (k v) (k u)) := by
  intro h' keep
  have kp : ∀ (b : Addr) (o : Obj), o.cls = .type "tuple" → s.heap.get? b = some o → h'.get? b = some o := fun b o c e => keep b o (fun z => by subst z; exact ha o e c) e
  have hp' : ∀ v ∈ vs, ∃ as, Reads h' v (dat (k v)) as ∧ A.units + ((dat (k v)).depth + 2) < cLine := fun v hv => by
    obtain ⟨as, r, u⟩ := hp v hv
    exact ⟨as, keeps kp _ r, u⟩
  obtain ⟨fs, h1, h2, h3⟩ := firsts (h := h') (vs := vs) fun v hv => by
    obtain ⟨as, r, _⟩ := hp' v hv
    exact ⟨_, as, r⟩
  refine ⟨tuples' false, fun Q E hq => PySem.W.kat_kind (T := .type "tuple") h1 (by omega) (fun f hf => ?_) (by decide) ?_, cmp_sort (s := { heap := h', gens := s.gens, drawn := s.drawn, toks := s.toks, os := s.os }) hp'⟩
  · obtain ⟨b, o, rfl, e1, e2⟩ := h3 f hf
    exact fun A Q E s k q => wpAny_typeOf_ref (k b o e1) (by rw [e2]; exact q)
  · have e : ((Value.type "tuple" : Value) != .type "tuple") = false := by decide
    rw [e]; exact hq
theorem sorted_fc {prog : Program} {w : World} {A : Around} {E : Value → Shared → Prop} {s : Shared} {l : Addr} {vs : List Value} {k : Value → Fc} {Q : Value → Shared → Prop} (hl : s.heap.IsList l vs.toArray) (hz : vs.length ≤ sizeLine)
    (hp : ∀ v ∈ vs, ∃ as, Reads s.heap v (dat (k v)) as ∧ A.units + ((dat (k v)).depth + 4) < cLine)
    (h : ∀ (h' : Heap) (d : Addr) (out : List Value), SrtO.Srtd (fun v u => lt (k v) (k u)) out → out.Perm vs → (∀ (b : Addr) (o : Obj), s.heap.get? b = some o → h'.get? b = some o) → s.heap.objs.size ≤ d → (∃ n, h'.get? d = some (seqObj "list" out.toArray n)) →
      Q (.ref d) { heap := h', gens := s.gens, drawn := s.drawn, toks := s.toks, os := s.os }) :
    wpAny (model prog w) A (call (.builtin "sorted") [.ref l]) Q E s := by
  refine SrtO.sorted_ord (ltv := fun v u => lt (k v) (k u)) ⟨fun x y => swo.asym _ _, fun x y z => swo.tr _ _ _⟩ hl hz (fun h2 h₁ a ha kk => ?_) fun out hs hb => ?_
  · refine sortable (s := { heap := h₁, gens := s.gens, drawn := s.drawn, toks := s.toks, os := s.os }) (by omega) (fun v hv => ?_) fun o e => ?_
    · obtain ⟨as, r, u⟩ := hp v hv
      exact ⟨as, keeps (fun b o _ e => (kk b o e).2) _ r, by show A.units + 1 + 1 + _ < cLine; omega⟩
    · have e2 := ha.symm.trans e
      cases e2
      intro z
      exact absurd (Value.type.inj z) (by decide)
  · obtain ⟨n, e⟩ := sortedAll_at s.heap vs out.toArray
    exact h _ _ out hs hb.perm (fun b o e => sortedAll_old e) (Nat.le_succ _) ⟨n, e⟩
/-! ## the one sorted list -/
def ins (f : Fc) : List Fc → List Fc
  | [] => [f]
  | g :: r => if lt g f = true then g :: ins f r else f :: g :: r
def srt : List Fc → List Fc
  | [] => []
  | f :: r => ins f (srt r)
theorem ins_perm (f : Fc) : ∀ l : List Fc, (ins f l).Perm (f :: l)
  | [] => .refl _
  | g :: r => by
    unfold ins
    split
    · exact ((ins_perm f r).cons g).trans (.swap f g r)
    · exact .refl _
theorem srt_perm : ∀ l : List Fc, (srt l).Perm l
  | [] => .refl _
  | f :: r => (ins_perm f (srt r)).trans ((srt_perm r).cons f)
abbrev Ord (l : List Fc) : Prop := l.Pairwise fun x y => lt y x = false
theorem ins_ord (f : Fc) : ∀ l : List Fc, Ord l → Ord (ins f l)
  | [], _ => List.pairwise_singleton _ _
  | g :: r, h => by
    have h' := List.pairwise_cons.mp h
    unfold ins
    split
    · rename_i c
      refine List.pairwise_cons.mpr ⟨fun x hx => ?_, ins_ord f r h'.2⟩
      rcases List.mem_cons.mp ((ins_perm f r).mem_iff.mp hx) with rfl | hx
      · exact swo.asym _ _ c
      · exact h'.1 x hx
    · rename_i c
      have c' : lt g f = false := Bool.eq_false_iff.mpr c
      refine List.pairwise_cons.mpr ⟨fun x hx => ?_, h⟩
      rcases List.mem_cons.mp hx with rfl | hx
      · exact c'
      · exact swo.tr _ _ _ c' (h'.1 x hx)
theorem srt_ord : ∀ l : List Fc, Ord (srt l)
  | [] => List.Pairwise.nil
  | f :: r => ins_ord f _ (srt_ord r)
theorem anti {a b : Fc} (h1 : lt a b = false) (h2 : lt b a = false) : a = b := by
  have h1' : cmp a b ≠ .lt := by simpa [lt] using h1
  have h2' : cmp b a ≠ .lt := by simpa [lt] using h2
  cases e : cmp a b with
  | lt => exact absurd e h1'
  | eq => exact (cmp_eq a b).mp e
  | gt => exact absurd (by rw [cmp_swap a b, e]; rfl) h2'
theorem ord_one : ∀ l m : List Fc, Ord l → Ord m → l.Perm m → l = m
  | [], m, _, _, p => p.nil_eq
  | a :: r, [], _, _, p => absurd p.length_eq (by simp)
  | a :: r, b :: t, h1, h2, p => by
    have g1 := List.pairwise_cons.mp h1
    have g2 := List.pairwise_cons.mp h2
    have e : a = b := by
      have ma : a ∈ b :: t := p.mem_iff.mp List.mem_cons_self
      have mb : b ∈ a :: r := p.mem_iff.mpr List.mem_cons_self
      rcases List.mem_cons.mp ma with h | h
      · exact h
      · rcases List.mem_cons.mp mb with k | k
        · exact k.symm
        · exact anti (g2.1 a h) (g1.1 b k)
    subst e
    rw [ord_one r t g1.2 g2.2 (p.cons_inv)]
/-! ## sorted of factors -/
theorem map_k {h : Heap} : ∀ {vs : List Value} {fs : List Fc} {as : List Addr}, ReadsAll h vs (dats fs) as → vs.map (kOf h) = fs
  | _, [], _, r => by rw [dats] at r; cases r; rfl
  | _, f :: t, _, r => by
    rw [dats] at r
    cases r with
    | cons r1 r2 => rw [List.map_cons, kOf_eq r1, map_k r2]
theorem dq_each {K : PySem.W.Frag} {H : Hp} (f : Value → V) (g : Value → Fc) : ∀ {l : List Value}, DqAll K H (l.map f) (dats (l.map g)) → ∀ v ∈ l, Dq K H (f v) (dat (g v))
  | [], _, v, hv => absurd hv List.not_mem_nil
  | x :: r, h, v, hv => by
    rw [List.map_cons, List.map_cons, dats] at h
    cases h with
    | cons a b =>
      rcases List.mem_cons.mp hv with rfl | hv
      · exact a
      · exact dq_each f g b v hv
theorem dq_all {K : PySem.W.Frag} {H : Hp} (f : Value → V) (g : Value → Fc) : ∀ {l : List Value}, (∀ v ∈ l, Dq K H (f v) (dat (g v))) → DqAll K H (l.map f) (dats (l.map g))
  | [], _ => by rw [List.map_nil, List.map_nil, dats]; exact .nil
  | x :: r, h => by
    rw [List.map_cons, List.map_cons, dats]
    exact .cons (h x List.mem_cons_self) (dq_all f g fun v hv => h v (List.mem_cons_of_mem _ hv))
theorem dq_ref {K : PySem.W.Frag} {H : Hp} {v : V} {f : Fc} (h : Dq K H v (dat f)) : ∃ a, v = .ref a := by
  obtain ⟨ws, n⟩ := f
  rw [dat] at h
  cases h
  exact ⟨_, rfl⟩
theorem dq_refs {K : PySem.W.Frag} {H : Hp} : ∀ {xs : List V} {fs : List Fc}, DqAll K H xs (dats fs) → ∀ x ∈ xs, ∃ a, x = .ref a
  | _, [], h, x, hx => by rw [dats] at h; cases h; exact absurd hx List.not_mem_nil
  | _, f :: r, h, x, hx => by
    rw [dats] at h
    cases h with
    | cons a b =>
      rcases List.mem_cons.mp hx with rfl | hx
      · exact dq_ref a
      · exact dq_refs b x hx
end Fc
def rSortF (K : PySem.W.Frag) : List V → Hp → VK → Prop := fun vs H Q => ∃ a xs fs, vs = [.ref a] ∧ SqL K H a xs ∧ DqAll K H xs (Fc.dats fs) ∧ PyData.depthAll (Fc.dats fs) ≤ 180 ∧
  ∀ ys p, DqAll K H ys (Fc.dats (Fc.srt fs)) → H p = none → Q (.ref p) (upd H p (.lst ys))
theorem call_sortF {X : Cx} (hu : X.A.units + 200 < cLine) : CallR X (.builtin "sorted") (rSortF X.K) := by
  rintro pins s σ H vs us Q I r ⟨a, xs, fs, rfl, hs, hd, hdep, q⟩
  obtain ⟨its, rv, hl, hz⟩ := I.list hs
  cases r with
  | cons r1 r2 =>
    cases r2
    cases r1
    obtain ⟨as, ra, _⟩ := DqAll.reads I hd rv
    obtain ⟨e1, e2⟩ := L2.refs_back rv (Fc.dq_refs hd)
    have hk := Fc.map_k ra
    obtain ⟨hlen, hat⟩ := Fc.reads_at ra
    have hd' : DqAll X.K H (its.map L2.backV) (Fc.dats (its.map (Fc.kOf s.heap))) := by rw [← e1, hk]; exact hd
    have each := Fc.dq_each _ _ hd'
    refine Fc.sorted_fc (k := Fc.kOf s.heap) (PlainL.isList hl) (by rw [← rv.length]; exact hz) (fun v hv => ?_) fun h' d out ho hp kp hsz hn => ?_
    · obtain ⟨j, hj, rfl⟩ := List.getElem_of_mem hv
      obtain ⟨f, bs, ef, rf⟩ := hat j hj
      rw [Fc.kOf_eq rf]
      have := Fc.depth_mem ef
      exact ⟨bs, rf, by omega⟩
    · obtain ⟨n, hn⟩ := hn
      have h3 : ∀ u ∈ out, ∃ a, u = Value.ref a := fun u hu => e2 u (hp.mem_iff.mp hu)
      have es : out.map (Fc.kOf s.heap) = Fc.srt fs := by
        refine Fc.ord_one _ _ (List.pairwise_map.mpr ho) (Fc.srt_ord _) ?_
        have p1 := hp.map (Fc.kOf s.heap)
        rw [hk] at p1
        exact p1.trans (Fc.srt_perm fs).symm
      refine ⟨.ref d, upd H d (.lst (out.map L2.backV)), I.laid kp hsz ⟨?_, out, n, L2.vals_back h3, hn⟩, rfl, q _ d ?_ (HOk.fresh I.hok hsz)⟩
      · rw [List.length_map, hp.length_eq, ← rv.length]; exact hz
      · rw [← es]
        exact Fc.dq_all _ _ fun v hv => each v (hp.mem_iff.mp hv)
end KB

namespace KB
open PySem L2
/-! ## the factors of a kind -/
namespace Fc
theorem srt_congr {l m : List Fc} (p : l.Perm m) : srt l = srt m := ord_one _ _ (srt_ord l) (srt_ord m) ((srt_perm l).trans (p.trans (srt_perm m).symm))
theorem srt_of {l : List Fc} (h : Ord l) : srt l = l := ord_one _ _ (srt_ord l) h (srt_perm l)
theorem srt_srt (l : List Fc) : srt (srt l) = srt l := srt_of (srt_ord l)
theorem srt_left (a b : List Fc) : srt (srt a ++ b) = srt (a ++ b) := srt_congr ((srt_perm a).append_right b)
theorem srt_right (a b : List Fc) : srt (a ++ srt b) = srt (a ++ b) := srt_congr ((srt_perm b).append_left a)
mutual
theorem pure_dat : ∀ f : Fc, pureT (dat f) = true
  | mk ws n => by simp [dat, pureT, pureTs, pure_dats ws]
theorem pure_dats : ∀ l : List Fc, pureTs (dats l) = true
  | [] => by simp [dats, pureTs]
  | f :: r => by simp [dats, pureTs, pure_dat f, pure_dats r]
end
theorem dats_append : ∀ a b : List Fc, dats (a ++ b) = dats a ++ dats b
  | [], b => by rw [dats]; rfl
  | f :: r, b => by rw [List.cons_append, dats, dats_append r b, dats]; rfl
theorem depth_le {B : Nat} : ∀ {l : List Fc}, (∀ f ∈ l, (dat f).depth ≤ B) → PyData.depthAll (dats l) ≤ B
  | [], _ => by rw [dats]; simp [PyData.depthAll]
  | f :: r, h => by
    rw [dats]
    simp only [PyData.depthAll]
    have a := h f List.mem_cons_self
    have b := depth_le (l := r) fun g hg => h g (List.mem_cons_of_mem _ hg)
    omega
theorem depth_of {l : List Fc} {f : Fc} (h : f ∈ l) : (dat f).depth ≤ PyData.depthAll (dats l) := by
  obtain ⟨j, hj, e⟩ := List.getElem_of_mem h
  exact depth_mem (j := j) (by rw [List.getElem?_eq_getElem hj, e])
theorem depth_perm {l m : List Fc} (p : l.Perm m) : PyData.depthAll (dats l) = PyData.depthAll (dats m) :=
  Nat.le_antisymm (depth_le fun f hf => depth_of (p.mem_iff.mp hf)) (depth_le fun f hf => depth_of (p.mem_iff.mpr hf))
theorem depth_srt (l : List Fc) : PyData.depthAll (dats (srt l)) = PyData.depthAll (dats l) := depth_perm (srt_perm l)
theorem depth_append (a b : List Fc) : PyData.depthAll (dats (a ++ b)) = max (PyData.depthAll (dats a)) (PyData.depthAll (dats b)) := by
  refine Nat.le_antisymm (depth_le fun f hf => ?_) (Nat.max_le.mpr ⟨depth_le fun f hf => depth_of (List.mem_append.mpr (.inl hf)), depth_le fun f hf => depth_of (List.mem_append.mpr (.inr hf))⟩)
  rcases List.mem_append.mp hf with h | h
  · have := depth_of h; omega
  · have := depth_of h; omega
end Fc
/-- the factors of a kind, each wanting W besides, in no order -/
def Kd.fac : Kd → List Fc → List Fc
  | .b n, W => [.mk W n]
  | .u, _ => []
  | .p x y, W => x.fac W ++ y.fac W
  | .f x y, W => y.fac (Fc.srt (W ++ Fc.srt (x.fac [])))
def Kd.form (k : Kd) : List Fc := Fc.srt (k.fac [])
/-- how far functions are handed to functions -/
def Kd.rk : Kd → Nat
  | .b _ => 0
  | .u => 0
  | .p x y => max x.rk y.rk
  | .f x y => max (x.rk + 1) y.rk
theorem Kd.fac_depth : ∀ (k : Kd) (W : List Fc), PyData.depthAll (Fc.dats (k.fac W)) ≤ 2 + max (PyData.depthAll (Fc.dats W)) (2 * k.rk)
  | .b n, W => by
    rw [Kd.fac, Fc.dats, Fc.dats, Fc.dat]
    simp only [PyData.depthAll, PyData.depth]
    omega
  | .u, W => by rw [Kd.fac, Fc.dats]; simp [PyData.depthAll]
  | .p x y, W => by
    have a := Kd.fac_depth x W
    have b := Kd.fac_depth y W
    rw [Kd.fac, Fc.depth_append, Kd.rk]
    omega
  | .f x y, W => by
    have a := Kd.fac_depth x []
    have b := Kd.fac_depth y (Fc.srt (W ++ Fc.srt (x.fac [])))
    rw [Fc.depth_srt, Fc.depth_append, Fc.depth_srt] at b
    rw [Fc.dats] at a
    simp only [PyData.depthAll] at a
    rw [Kd.fac, Kd.rk]
    omega
/-- a factor that wants V besides -/
def Fc.add (V : List Fc) : Fc → Fc
  | .mk ws n => .mk (Fc.srt (V ++ ws)) n
theorem Kd.fac_add : ∀ (k : Kd) (V W : List Fc), k.fac (Fc.srt (V ++ W)) = (k.fac W).map (Fc.add V)
  | .b n, V, W => by rw [Kd.fac, Kd.fac]; rfl
  | .u, V, W => by rw [Kd.fac, Kd.fac]; rfl
  | .p x y, V, W => by rw [Kd.fac, Kd.fac, List.map_append, Kd.fac_add x V W, Kd.fac_add y V W]
  | .f x y, V, W => by
    rw [Kd.fac, Kd.fac, Fc.srt_left, List.append_assoc, ← Kd.fac_add y V]
    rw [Fc.srt_right]
theorem Kd.fac_length : ∀ (k : Kd) (W : List Fc), (k.fac W).length ≤ k.leaves
  | .b n, W => by rw [Kd.fac]; simp [Kd.leaves]
  | .u, W => by rw [Kd.fac]; simp
  | .p x y, W => by have := Kd.fac_length x W; have := Kd.fac_length y W; rw [Kd.fac, List.length_append, Kd.leaves]; omega
  | .f x y, W => by have := Kd.fac_length y (Fc.srt (W ++ Fc.srt (x.fac []))); rw [Kd.fac, Kd.leaves]; omega
theorem Fc.srt_length (l : List Fc) : (Fc.srt l).length = l.length := (Fc.srt_perm l).length_eq
theorem Kd.form_length (k : Kd) : k.form.length ≤ k.leaves := by rw [Kd.form, Fc.srt_length]; exact k.fac_length []
theorem Kd.form_depth (k : Kd) : PyData.depthAll (Fc.dats k.form) ≤ 2 + 2 * k.rk := by
  have := k.fac_depth []
  rw [Kd.form, Fc.depth_srt]
  simp only [Fc.dats, PyData.depthAll] at this
  omega
/-- a walk over what is either of two sorts -/
theorem pi_or {X : Cx} {tg l : Expr} {w1 w2 : TI} (a : PI X tg l w1) (b : PI X tg l w2) : PI X tg l (fun σ H R => w1 σ H R ∨ w2 σ H R) :=
  ⟨fun pins s σ H R I h => h.elim (a.run pins s σ H R I) (b.run pins s σ H R I)⟩
theorem pi_seq {X : Cx} {tg l : Expr} {tl : TE} (h : PE X l tl) : PI X tg l (fun σ H R => iList X.K tl σ H R ∨ iTup X.K tl σ H R) := pi_or (pi_list h) (pi_tup h)
/-! ## the kind of factors -/
mutual
def Fc.kd : Fc → Kd
  | .mk ws n => Fc.kdw (.b n) ws
/-- what wants these gives the base -/
def Fc.kdw (b : Kd) : List Fc → Kd
  | [] => b
  | f :: r => .f (Fc.kdf (Fc.kd f) r) b
/-- a first kind, and those of the rest behind it -/
def Fc.kdf (k : Kd) : List Fc → Kd
  | [] => k
  | f :: r => .p k (Fc.kdf (Fc.kd f) r)
end
def Fc.kds : List Fc → Kd
  | [] => .u
  | f :: r => Fc.kdf f.kd r
end KB

namespace KB
open PySem L2
/-! ## forms by their parts; what keeps them -/
theorem Kd.form_p (x y : Kd) : (Kd.p x y).form = Fc.srt (x.form ++ y.form) := by
  rw [Kd.form, Kd.fac, Kd.form, Kd.form, Fc.srt_left, Fc.srt_right]
theorem Kd.fac_f (x y : Kd) : (Kd.f x y).fac [] = (y.fac []).map (Fc.add x.form) := by
  rw [Kd.fac, List.nil_append, Fc.srt_srt]
  have := Kd.fac_add y x.form []
  rw [List.append_nil, Kd.form, Fc.srt_srt] at this
  rw [Kd.form]; exact this
theorem Kd.form_f (x y : Kd) : (Kd.f x y).form = Fc.srt (y.form.map (Fc.add x.form)) := by
  rw [Kd.form, Kd.fac_f]
  exact Fc.srt_congr ((Fc.srt_perm (y.fac [])).map _).symm
theorem Kd.form_u : Kd.u.form = [] := by rw [Kd.form, Kd.fac]; rfl
theorem Kd.form_b (n : Nat) : (Kd.b n).form = [.mk [] n] := by rw [Kd.form, Kd.fac]; rfl
theorem Kd.cong_p {x x' y y' : Kd} (a : x.form = x'.form) (b : y.form = y'.form) : (Kd.p x y).form = (Kd.p x' y').form := by rw [Kd.form_p, Kd.form_p, a, b]
theorem Kd.cong_f {x x' y y' : Kd} (a : x.form = x'.form) (b : y.form = y'.form) : (Kd.f x y).form = (Kd.f x' y').form := by rw [Kd.form_f, Kd.form_f, a, b]
theorem Kd.form_srt (k : Kd) : Fc.srt k.form = k.form := Fc.srt_srt _
theorem Kd.q_unitR (x : Kd) : (Kd.p x .u).form = x.form := by rw [Kd.form_p, Kd.form_u, List.append_nil, Kd.form_srt]
theorem Kd.q_unitF (x : Kd) : (Kd.f .u x).form = x.form := by
  rw [Kd.form, Kd.fac, Kd.fac]
  rfl
theorem Kd.q_toU (x : Kd) : (Kd.f x .u).form = Kd.u.form := by rw [Kd.form, Kd.form, Kd.fac, Kd.fac, Kd.fac]
theorem Kd.q_comm (x y : Kd) : (Kd.p y x).form = (Kd.p x y).form := by rw [Kd.form_p, Kd.form_p]; exact Fc.srt_congr List.perm_append_comm
theorem Kd.q_assoc (x y z : Kd) : (Kd.p (.p x y) z).form = (Kd.p x (.p y z)).form := by
  rw [Kd.form, Kd.form, Kd.fac, Kd.fac, Kd.fac, Kd.fac, List.append_assoc]
theorem Kd.q_part (a x y : Kd) : (Kd.p (.f a x) (.f a y)).form = (Kd.f a (.p x y)).form := by
  rw [Kd.form, Kd.form, Kd.fac, Kd.fac, Kd.fac, Kd.fac, Kd.fac]
theorem Kd.q_curry (a b y : Kd) : (Kd.f (.p a b) y).form = (Kd.f a (.f b y)).form := by
  have h : Fc.srt ([] ++ Fc.srt ((Kd.p a b).fac [])) = Fc.srt (Fc.srt ([] ++ Fc.srt (a.fac [])) ++ Fc.srt (b.fac [])) := by
    rw [Kd.fac, List.nil_append, List.nil_append, Fc.srt_srt, Fc.srt_srt, Fc.srt_left, Fc.srt_right]
  show Fc.srt (y.fac (Fc.srt ([] ++ Fc.srt ((Kd.p a b).fac [])))) = Fc.srt (y.fac (Fc.srt (Fc.srt ([] ++ Fc.srt (a.fac [])) ++ Fc.srt (b.fac []))))
  rw [h]
theorem Kd.rk_lt : ∀ k : Kd, k.rk < k.leaves
  | .b _ => by simp [Kd.rk, Kd.leaves]
  | .u => by simp [Kd.rk, Kd.leaves]
  | .p x y => by have := Kd.rk_lt x; have := Kd.rk_lt y; simp only [Kd.rk, Kd.leaves]; omega
  | .f x y => by have := Kd.rk_lt x; have := Kd.rk_lt y; have := y.leaves_pos; simp only [Kd.rk, Kd.leaves]; omega
/-! ## the numbers in factors; bases -/
namespace Fc
mutual
def num : Fc → List Nat
  | mk ws n => n :: nums ws
def nums : List Fc → List Nat
  | [] => []
  | f :: r => num f ++ nums r
end
theorem mem_nums {n : Nat} : ∀ {l : List Fc}, n ∈ nums l ↔ ∃ f ∈ l, n ∈ num f
  | [] => by rw [nums]; simp
  | f :: r => by rw [nums, List.mem_append, mem_nums (l := r)]; simp
theorem nums_perm {n : Nat} {l m : List Fc} (p : l.Perm m) : n ∈ nums l ↔ n ∈ nums m := by
  rw [mem_nums, mem_nums]
  exact ⟨fun ⟨f, h, e⟩ => ⟨f, p.mem_iff.mp h, e⟩, fun ⟨f, h, e⟩ => ⟨f, p.mem_iff.mpr h, e⟩⟩
theorem nums_srt {n : Nat} (l : List Fc) : n ∈ nums (srt l) ↔ n ∈ nums l := nums_perm (srt_perm l)
theorem nums_app {n : Nat} (a b : List Fc) : n ∈ nums (a ++ b) ↔ n ∈ nums a ∨ n ∈ nums b := by
  rw [mem_nums, mem_nums, mem_nums]
  constructor
  · rintro ⟨f, h, e⟩
    rcases List.mem_append.mp h with h | h
    · exact .inl ⟨f, h, e⟩
    · exact .inr ⟨f, h, e⟩
  · rintro (⟨f, h, e⟩ | ⟨f, h, e⟩)
    · exact ⟨f, List.mem_append.mpr (.inl h), e⟩
    · exact ⟨f, List.mem_append.mpr (.inr h), e⟩
theorem num_add {n : Nat} (V : List Fc) : ∀ f : Fc, n ∈ num (add V f) ↔ n ∈ nums V ∨ n ∈ num f
  | mk ws m => by
    rw [add, num, num, List.mem_cons, List.mem_cons, nums_srt, nums_app]
    constructor
    · rintro (h | h | h)
      · exact .inr (.inl h)
      · exact .inl h
      · exact .inr (.inr h)
    · rintro (h | h | h)
      · exact .inr (.inl h)
      · exact .inl h
      · exact .inr (.inr h)
theorem nums_addL {n : Nat} (V : List Fc) (l : List Fc) : n ∈ nums (l.map (add V)) ↔ (l ≠ [] ∧ n ∈ nums V) ∨ n ∈ nums l := by
  rw [mem_nums (l := l.map (add V)), mem_nums (l := l)]
  constructor
  · rintro ⟨f, h, e⟩
    obtain ⟨g, hg, rfl⟩ := List.mem_map.mp h
    rcases (num_add V g).mp e with e | e
    · exact .inl ⟨fun z => (by rw [z] at hg; cases hg), e⟩
    · exact .inr ⟨g, hg, e⟩
  · rintro (⟨h, e⟩ | ⟨g, hg, e⟩)
    · cases l with
      | nil => exact absurd rfl h
      | cons g r => exact ⟨_, List.mem_map.mpr ⟨g, List.mem_cons_self, rfl⟩, (num_add V g).mpr (.inl e)⟩
    · exact ⟨_, List.mem_map.mpr ⟨g, hg, rfl⟩, (num_add V g).mpr (.inr e)⟩
end Fc
namespace Kd
def bases : Kd → List Nat
  | b n => [n]
  | u => []
  | p x y => x.bases ++ y.bases
  | f x y => x.bases ++ y.bases
theorem bases_ok : ∀ {k : Kd}, k.ok → ∀ n ∈ k.bases, n < 8
  | b m, h, n, e => by rw [bases, List.mem_singleton] at e; rw [e]; exact h
  | u, _, n, e => by rw [bases] at e; cases e
  | p x y, h, n, e => by rw [bases] at e; exact (List.mem_append.mp e).elim (bases_ok h.1 n) (bases_ok h.2 n)
  | f x y, h, n, e => by rw [bases] at e; exact (List.mem_append.mp e).elim (bases_ok h.1 n) (bases_ok h.2 n)
theorem bases_length : ∀ k : Kd, k.bases.length ≤ k.leaves
  | b _ => Nat.le_refl _
  | u => by simp [bases]
  | p x y => by have := bases_length x; have := bases_length y; simp only [bases, List.length_append, leaves]; omega
  | f x y => by have := bases_length x; have := bases_length y; simp only [bases, List.length_append, leaves]; omega
/-- one base exchanged, by its place -/
def chg (c : Nat) : Kd → Int → Kd
  | b n, i => if i = 0 then b c else b n
  | u, _ => u
  | p x y, i => p (x.chg c i) (y.chg c (i - x.bases.length))
  | f x y, i => f (x.chg c i) (y.chg c (i - x.bases.length))
theorem chg_ok {c : Nat} (hc : c < 8) : ∀ {k : Kd} (i : Int), k.ok → (k.chg c i).ok
  | b n, i, h => by rw [chg]; split; exact hc; exact h
  | u, _, h => h
  | p x y, i, h => ⟨chg_ok hc _ h.1, chg_ok hc _ h.2⟩
  | f x y, i, h => ⟨chg_ok hc _ h.1, chg_ok hc _ h.2⟩
theorem chg_leaves {c : Nat} : ∀ (k : Kd) (i : Int), (k.chg c i).leaves = k.leaves
  | b n, i => by rw [chg]; split <;> rfl
  | u, _ => rfl
  | p x y, i => by rw [chg, leaves, leaves, chg_leaves x, chg_leaves y]
  | f x y, i => by rw [chg, leaves, leaves, chg_leaves x, chg_leaves y]
/-- where the base exchanged is not in the form, this is as it was -/
theorem chg_form {c : Nat} : ∀ (k : Kd) (i : Int), c ∉ Fc.nums (k.chg c i).form → (k.chg c i).form = k.form
  | b n, i, h => by
    rw [chg] at h ⊢
    split at h
    · rw [form_b] at h; exact absurd (by simp [Fc.nums, Fc.num]) h
    · rename_i z; rw [if_neg z]
  | u, _, _ => rfl
  | p x y, i, h => by
    rw [chg] at h ⊢
    rw [form_p, Fc.nums_srt, Fc.nums_app] at h
    exact cong_p (chg_form x _ fun z => h (.inl z)) (chg_form y _ fun z => h (.inr z))
  | f x y, i, h => by
    rw [chg] at h ⊢
    rw [form_f, Fc.nums_srt, Fc.nums_addL] at h
    have hy := chg_form y (i - x.bases.length) fun z => h (.inr z)
    by_cases e : (y.chg c (i - x.bases.length)).form = []
    · rw [form_f, form_f, ← hy, e]; rfl
    · exact cong_f (chg_form x _ fun z => h (.inl ⟨e, z⟩)) hy
theorem nums_form {n : Nat} : ∀ {k : Kd}, n ∈ Fc.nums k.form → n ∈ k.bases
  | b m, h => by rw [form_b] at h; simpa [Fc.nums, Fc.num, bases] using h
  | u, h => by rw [form_u] at h; cases h
  | p x y, h => by
    rw [form_p, Fc.nums_srt, Fc.nums_app] at h
    rw [bases, List.mem_append]
    exact h.imp nums_form nums_form
  | f x y, h => by
    rw [form_f, Fc.nums_srt, Fc.nums_addL] at h
    rw [bases, List.mem_append]
    exact h.imp (fun z => nums_form z.2) nums_form
end Kd
mutual
theorem Fc.bases_kd (n : Nat) : ∀ f : Fc, n ∈ f.kd.bases ↔ n ∈ Fc.num f
  | .mk ws m => by
    rw [Fc.kd, Fc.num, Fc.bases_kdw n (.b m) ws, Kd.bases]
    simp only [List.mem_cons, List.not_mem_nil, or_false]
    exact or_comm
theorem Fc.bases_kdw (n : Nat) (b : Kd) : ∀ l : List Fc, n ∈ (Fc.kdw b l).bases ↔ n ∈ Fc.nums l ∨ n ∈ b.bases
  | [] => by rw [Fc.kdw, Fc.nums]; simp
  | f :: r => by rw [Fc.kdw, Kd.bases, List.mem_append, Fc.bases_kdf n f.kd r, Fc.nums, List.mem_append, Fc.bases_kd n f]
theorem Fc.bases_kdf (n : Nat) (k : Kd) : ∀ l : List Fc, n ∈ (Fc.kdf k l).bases ↔ n ∈ k.bases ∨ n ∈ Fc.nums l
  | [] => by rw [Fc.kdf, Fc.nums]; simp
  | f :: r => by rw [Fc.kdf, Kd.bases, List.mem_append, Fc.bases_kdf n f.kd r, Fc.nums, List.mem_append, Fc.bases_kd n f]
end
theorem Fc.bases_kds (n : Nat) : ∀ l : List Fc, n ∈ (Fc.kds l).bases ↔ n ∈ Fc.nums l
  | [] => by rw [Fc.kds, Fc.nums]; simp [Kd.bases]
  | f :: r => by rw [Fc.kds, Fc.bases_kdf, Fc.nums, List.mem_append, Fc.bases_kd n f]
/-- what the law of the base exchanged asks -/
theorem Kd.chg_law {k : Kd} {c : Nat} (hc : c ∉ k.bases) (i : Int) : (Fc.cmps k.form (k.chg c i).form == .eq) = !decide (c ∈ (Fc.kds (k.chg c i).form).bases) := by
  by_cases h : c ∈ (Fc.kds (k.chg c i).form).bases
  · rw [decide_eq_true h]
    rw [Fc.bases_kds] at h
    have : k.form ≠ (k.chg c i).form := fun e => hc (Kd.nums_form (by rw [e]; exact h))
    have : Fc.cmps k.form (k.chg c i).form ≠ .eq := fun z => this ((Fc.cmps_eq _ _).mp z)
    simpa using this
  · rw [decide_eq_false h]
    rw [Fc.bases_kds] at h
    rw [Kd.chg_form k i h, (Fc.cmps_eq _ _).mpr rfl]
    rfl
end KB

namespace KB
open PySem PySem.Spec PyProof.Rows L2
/-! ## sorted of a tuple of factors -/
section
variable {P : Program} {W : World} {A : Around} {X : Value → Shared → Prop} {s : Shared}
/-- the heap behind the gathering of the items -/
abbrev gath (h : Heap) (its : List Value) : Heap := (h.push (seqObj "list" #[] 0)).update h.objs.size (Obj.mapSeq (· ++ its.toArray))
theorem gather_tup {t : Addr} {its : List Value} {R : List Value → Shared → Prop} (ht : IsTup s.heap t its.toArray) (hn : its.length ≤ sizeLine) (q : R its { s with heap := gath s.heap its }) : wpAny (model P W) A (collect (.ref t)) R X s := by
  obtain ⟨ob, get, cl, m, dat⟩ := id ht
  have get2 : (s.heap.push (seqObj "list" #[] 0)).get? t = some ob := Heap.get?_push_of_some _ get
  have new : (s.heap.push (seqObj "list" #[] 0)).get? s.heap.objs.size = some (seqObj "list" #[] 0) := Heap.get?_push_size _ rfl
  unfold collect
  refine wpAny_bind (wpAny_runValue (codeAny_builtin entry_proto_collect' (?_ : wpAny _ _ (do again (.builtin "list.__iadd__" ⟨[← newList [], .ref t], []⟩)) _ _ s)))
  refine wpAny_bind (wpAny_newList (wpAny_pure ⟨Code.quiet_builtin _ (by decide +kernel), codeAny_builtin entry_list_iadd' (?_ : wpAny _ _ (Builtin.List.listExtendWith (.ref s.heap.objs.size) (.ref t) (.ref s.heap.objs.size)) _ _ { s with heap := s.heap.push (seqObj "list" #[] 0) })⟩))
  unfold Builtin.List.listExtendWith
  refine wpAny_bind (wpAny_typeOf (T := "tuple") ⟨ob, get2, cl⟩ (?_ : wpAny _ _ _ _ _ _))
  have yes : (Value.type "tuple" == Value.type "tuple") = true := by decide
  rw [if_pos (by rw [yes]; simp)]
  refine wpAny_bind (listItems_at get2 dat (wpAny_bind (listItems_at new rfl ?_)))
  rw [if_neg (by simp)]
  have fits : (#[] ++ its.toArray).size ≤ sizeLine + 1 := by simp only [Array.size_append, List.size_toArray, List.length_nil]; omega
  refine wpAny_bind (listUpdate_at new rfl (wpAny_pure ?_) (Nat.zero_le _) fits)
  have back : (#[] ++ its.toArray).toList = its := by simp
  refine wpAny_bind (wpAny_load (get?_update_seq new _) (?_ : wpAny _ _ (pure ((#[] : Array Value) ++ its.toArray).toList) R X _))
  rw [back]
  exact wpAny_pure q
theorem sorted_tup {t : Addr} {its : List Value} {lt : Value → Value → Bool} {R : Value → Shared → Prop} (O : SrtO.Swo lt) (ht : IsTup s.heap t its.toArray) (hn : its.length ≤ sizeLine)
    (S : 2 ≤ its.length → ∀ (g : Heap) (a : Addr), g.get? a = some (seqObj "list" its.toArray 0) → (∀ b o, s.heap.get? b = some o → b ≠ a ∧ g.get? b = some o) → SrtO.SortableO P W A.in1.in1 { s with heap := g } a its lt)
    (q : ∀ res : List Value, SrtO.Srtd lt res → SrtO.Stb lt res its → R (.ref (s.heap.objs.size + 1)) { s with heap := sortedAll s.heap its res.toArray }) :
    wpAny (model P W) A (call (.builtin "sorted") [.ref t]) R X s := by
  have size2 : (gath s.heap its).objs.size = s.heap.objs.size + 1 := by rw [Heap.size_update, size_push']
  have at2 : ((gath s.heap its).push (seqObj "list" its.toArray 0)).get? (s.heap.objs.size + 1) = some (seqObj "list" its.toArray 0) := by rw [← size2]; exact Heap.get?_push_size _ rfl
  have old : ∀ b o, s.heap.get? b = some o → b ≠ s.heap.objs.size + 1 ∧ ((gath s.heap its).push (seqObj "list" its.toArray 0)).get? b = some o := fun b o e => by
    have below : b < s.heap.objs.size := Heap.lt_size e
    refine ⟨Nat.ne_of_lt (Nat.lt_succ_of_lt below), Heap.get?_push_of_some _ ?_⟩
    rw [Heap.get?_update_ne _ _ _ _ (Nat.ne_of_lt below)]; exact Heap.get?_push_of_some _ e
  refine Calls.call_function_entry kind_sorted plain_sorted entry_sorted (args_sorted1 _) (?_ : wpAny _ _ _ _ _ _)
  unfold Builtin.«sorted»
  refine wpAny_bind (m := checkCount "sorted" 1 1 _) (wpAny_pure (wpAny_bind (gather_tup ht hn (wpAny_bind (wpAny_newList ?_ hn)))))
  show wpAny _ _ _ _ _ { s with heap := (gath s.heap its).push (seqObj "list" its.toArray 0) }
  rw [size2]
  refine wpAny_bind (wpAny_holding (wpAny_call_entry slot_list_sort ⟨_, at2, rfl⟩ entry_list_sort (SrtO.list_sort_ord O at2 hn (fun two => S two _ _ at2 old) fun res a b => ⟨_, rfl, (?_ : wpAny _ _ _ _ _ _)⟩) (args_list_sort _)))
  exact wpAny_pure ⟨_, rfl, q res a b⟩
theorem Fc.sorted_fcT {l : Addr} {vs : List Value} {k : Value → Fc} {Q : Value → Shared → Prop} (hl : IsTup s.heap l vs.toArray) (hz : vs.length ≤ sizeLine)
    (hp : ∀ v ∈ vs, ∃ as, Reads s.heap v (dat (k v)) as ∧ A.units + ((dat (k v)).depth + 4) < cLine)
    (h : ∀ (h' : Heap) (d : Addr) (out : List Value), SrtO.Srtd (fun v u => Fc.lt (k v) (k u)) out → out.Perm vs → (∀ (b : Addr) (o : Obj), s.heap.get? b = some o → h'.get? b = some o) → s.heap.objs.size ≤ d → (∃ n, h'.get? d = some (seqObj "list" out.toArray n)) →
      Q (.ref d) { heap := h', gens := s.gens, drawn := s.drawn, toks := s.toks, os := s.os }) :
    wpAny (model P W) A (call (.builtin "sorted") [.ref l]) Q X s := by
  refine sorted_tup (lt := fun v u => Fc.lt (k v) (k u)) ⟨fun x y => swo.asym _ _, fun x y z => swo.tr _ _ _⟩ hl hz (fun h2 h₁ a ha kk => ?_) fun out hs hb => ?_
  · refine sortable (s := { heap := h₁, gens := s.gens, drawn := s.drawn, toks := s.toks, os := s.os }) (by omega) (fun v hv => ?_) fun o e => ?_
    · obtain ⟨as, r, u⟩ := hp v hv
      exact ⟨as, keeps (fun b o _ e => (kk b o e).2) _ r, by show A.units + 1 + 1 + _ < cLine; omega⟩
    · have e2 := ha.symm.trans e
      cases e2
      intro z
      exact absurd (Value.type.inj z) (by decide)
  · obtain ⟨n, e⟩ := sortedAll_at s.heap vs out.toArray
    exact h _ _ out hs hb.perm (fun b o e => sortedAll_old e) (Nat.le_succ _) ⟨n, e⟩
end
def rSortG (K : PySem.W.Frag) : List V → Hp → VK → Prop := fun vs H Q => ∃ a xs fs, vs = [.ref a] ∧ (SqL K H a xs ∨ SqT K H a xs) ∧ DqAll K H xs (Fc.dats fs) ∧ PyData.depthAll (Fc.dats fs) ≤ 180 ∧
  ∀ ys p, DqAll K H ys (Fc.dats (Fc.srt fs)) → H p = none → Q (.ref p) (upd H p (.lst ys))
theorem call_sortG {X : Cx} (hu : X.A.units + 200 < cLine) : CallR X (.builtin "sorted") (rSortG X.K) := by
  rintro pins s σ H vs us Q I r ⟨a, xs, fs, rfl, hs, hd, hdep, q⟩
  rcases hs with hs | hs
  · exact call_sortF hu pins s σ H _ us Q I r ⟨a, xs, fs, rfl, hs, hd, hdep, q⟩
  obtain ⟨its, rv, hl, hz⟩ := I.tuple hs
  cases r with
  | cons r1 r2 =>
    cases r2
    cases r1
    obtain ⟨as, ra, _⟩ := DqAll.reads I hd rv
    obtain ⟨e1, e2⟩ := L2.refs_back rv (Fc.dq_refs hd)
    have hk := Fc.map_k ra
    obtain ⟨hlen, hat⟩ := Fc.reads_at ra
    have hd' : DqAll X.K H (its.map L2.backV) (Fc.dats (its.map (Fc.kOf s.heap))) := by rw [← e1, hk]; exact hd
    have each := Fc.dq_each _ _ hd'
    refine Fc.sorted_fcT (k := Fc.kOf s.heap) hl (by rw [← rv.length]; exact hz) (fun v hv => ?_) fun h' d out ho hp kp hsz hn => ?_
    · obtain ⟨j, hj, rfl⟩ := List.getElem_of_mem hv
      obtain ⟨f, bs, ef, rf⟩ := hat j hj
      rw [Fc.kOf_eq rf]
      have := Fc.depth_mem ef
      exact ⟨bs, rf, by omega⟩
    · obtain ⟨n, hn⟩ := hn
      have h3 : ∀ u ∈ out, ∃ a, u = Value.ref a := fun u hu => e2 u (hp.mem_iff.mp hu)
      have es : out.map (Fc.kOf s.heap) = Fc.srt fs := by
        refine Fc.ord_one _ _ (List.pairwise_map.mpr ho) (Fc.srt_ord _) ?_
        have p1 := hp.map (Fc.kOf s.heap)
        rw [hk] at p1
        exact p1.trans (Fc.srt_perm fs).symm
      refine ⟨.ref d, upd H d (.lst (out.map L2.backV)), I.laid kp hsz ⟨?_, out, n, L2.vals_back h3, hn⟩, rfl, q _ d ?_ (HOk.fresh I.hok hsz)⟩
      · rw [List.length_map, hp.length_eq, ← rv.length]; exact hz
      · rw [← es]
        exact Fc.dq_all _ _ fun v hv => each v (hp.mem_iff.mp hv)
/-! ## rows of a form: it, and what each factor wants, and so on -/
def Fc.ws : Fc → List Fc
  | .mk ws _ => ws
def Fc.n : Fc → Nat
  | .mk _ n => n
mutual
def Fc.rowsF : Fc → List (List Fc)
  | .mk ws _ => ws :: Fc.rowsW ws
def Fc.rowsW : List Fc → List (List Fc)
  | [] => []
  | f :: r => Fc.rowsF f ++ Fc.rowsW r
end
def Fc.rows (l : List Fc) : List (List Fc) := l :: Fc.rowsW l
theorem Fc.rowsW_map (l : List Fc) : Fc.rowsW l = (l.map fun f => Fc.rows f.ws).flatten := by
  induction l with
  | nil => rfl
  | cons f r ih => obtain ⟨ws, n⟩ := f; rw [Fc.rowsW, ih, Fc.rowsF]; rfl
def Fc.her (l : List Fc) : Bool := (Fc.rows l).all fun r => Fc.cmps r (Fc.srt r) == .eq
mutual
/-- each row in order, each number that of a base -/
def Fc.good : Fc → Prop
  | .mk ws n => n < 8 ∧ Fc.Ord ws ∧ Fc.goods ws
def Fc.goods : List Fc → Prop
  | [] => True
  | f :: r => Fc.good f ∧ Fc.goods r
end
theorem Fc.goods_iff : ∀ {l : List Fc}, Fc.goods l ↔ ∀ f ∈ l, Fc.good f
  | [] => by rw [Fc.goods]; simp
  | f :: r => by rw [Fc.goods, Fc.goods_iff (l := r)]; simp
theorem Fc.goods_srt (l : List Fc) : Fc.goods (Fc.srt l) ↔ Fc.goods l := by
  rw [Fc.goods_iff, Fc.goods_iff]
  exact ⟨fun h f hf => h f ((Fc.srt_perm l).mem_iff.mpr hf), fun h f hf => h f ((Fc.srt_perm l).mem_iff.mp hf)⟩
theorem Fc.goods_app (a b : List Fc) : Fc.goods (a ++ b) ↔ Fc.goods a ∧ Fc.goods b := by
  rw [Fc.goods_iff, Fc.goods_iff, Fc.goods_iff]
  exact ⟨fun h => ⟨fun f hf => h f (List.mem_append.mpr (.inl hf)), fun f hf => h f (List.mem_append.mpr (.inr hf))⟩, fun h f hf => (List.mem_append.mp hf).elim (h.1 f) (h.2 f)⟩
theorem Kd.fac_good : ∀ {k : Kd} {W : List Fc}, k.ok → Fc.Ord W → Fc.goods W → Fc.goods (k.fac W)
  | .b n, W, h, o, g => by rw [Kd.fac, Fc.goods, Fc.goods, Fc.good]; exact ⟨⟨h, o, g⟩, trivial⟩
  | .u, W, h, o, g => by rw [Kd.fac, Fc.goods]; trivial
  | .p x y, W, h, o, g => by rw [Kd.fac, Fc.goods_app]; exact ⟨Kd.fac_good h.1 o g, Kd.fac_good h.2 o g⟩
  | .f x y, W, h, o, g => by
    rw [Kd.fac]
    refine Kd.fac_good h.2 (Fc.srt_ord _) ?_
    rw [Fc.goods_srt, Fc.goods_app, Fc.goods_srt]
    exact ⟨g, Kd.fac_good h.1 .nil (by rw [Fc.goods]; trivial)⟩
theorem Kd.form_good {k : Kd} (h : k.ok) : Fc.goods k.form := by
  rw [Kd.form, Fc.goods_srt]
  exact Kd.fac_good h .nil (by rw [Fc.goods]; trivial)
mutual
theorem Fc.her_rowsF : ∀ {f : Fc}, Fc.good f → ∀ r ∈ Fc.rowsF f, Fc.Ord r
  | .mk ws n, g, r, h => by
    rw [Fc.good] at g
    rw [Fc.rowsF] at h
    rcases List.mem_cons.mp h with h | h
    · rw [h]; exact g.2.1
    · exact Fc.her_rowsW g.2.2 r h
theorem Fc.her_rowsW : ∀ {l : List Fc}, Fc.goods l → ∀ r ∈ Fc.rowsW l, Fc.Ord r
  | [], g, r, h => by rw [Fc.rowsW] at h; cases h
  | f :: t, g, r, h => by
    rw [Fc.goods] at g
    rw [Fc.rowsW] at h
    exact (List.mem_append.mp h).elim (Fc.her_rowsF g.1 r) (Fc.her_rowsW g.2 r)
end
theorem Kd.form_her {k : Kd} (h : k.ok) : Fc.her k.form = true := by
  refine List.all_eq_true.mpr fun r hr => ?_
  have o : Fc.Ord r := by
    rcases List.mem_cons.mp hr with e | e
    · rw [e]; exact Fc.srt_ord _
    · exact Fc.her_rowsW (Kd.form_good h) r e
  rw [Fc.srt_of o, (Fc.cmps_eq _ _).mpr rfl]; rfl
mutual
theorem Fc.good_num : ∀ {f : Fc}, Fc.good f → ∀ n ∈ Fc.num f, n < 8
  | .mk ws m, g, n, h => by
    rw [Fc.good] at g
    rw [Fc.num] at h
    rcases List.mem_cons.mp h with e | e
    · rw [e]; exact g.1
    · exact Fc.goods_num g.2.2 n e
theorem Fc.goods_num : ∀ {l : List Fc}, Fc.goods l → ∀ n ∈ Fc.nums l, n < 8
  | [], g, n, h => by rw [Fc.nums] at h; cases h
  | f :: r, g, n, h => by
    rw [Fc.goods] at g
    rw [Fc.nums] at h
    exact (List.mem_append.mp h).elim (Fc.good_num g.1 n) (Fc.goods_num g.2 n)
end
/-! ## how much there is of a form -/
mutual
def Fc.cnt : Fc → Nat
  | .mk ws _ => 1 + Fc.cnts ws
def Fc.cnts : List Fc → Nat
  | [] => 0
  | f :: r => Fc.cnt f + Fc.cnts r
end
theorem Fc.cnts_app (a b : List Fc) : Fc.cnts (a ++ b) = Fc.cnts a + Fc.cnts b := by
  induction a with
  | nil => rw [List.nil_append, Fc.cnts, Nat.zero_add]
  | cons f r ih => rw [List.cons_append, Fc.cnts, Fc.cnts, ih, Nat.add_assoc]
theorem Fc.cnts_perm {l m : List Fc} (p : l.Perm m) : Fc.cnts l = Fc.cnts m := by
  induction p with
  | nil => rfl
  | cons x _ ih => rw [Fc.cnts, Fc.cnts, ih]
  | swap x y l => simp only [Fc.cnts]; omega
  | trans _ _ a b => exact a.trans b
theorem Fc.cnts_add (V : List Fc) : ∀ l : List Fc, Fc.cnts (l.map (Fc.add V)) = Fc.cnts l + l.length * Fc.cnts V
  | [] => by rw [List.map_nil, Fc.cnts]; simp
  | .mk ws n :: r => by
    rw [List.map_cons, Fc.cnts, Fc.cnts_add V r, Fc.cnts, Fc.add, Fc.cnt, Fc.cnt, Fc.cnts_perm (Fc.srt_perm _), Fc.cnts_app, List.length_cons, Nat.succ_mul]
    omega
theorem Kd.cnts_form : ∀ k : Kd, Fc.cnts k.form + 1 ≤ 2 ^ k.leaves
  | .b n => by rw [Kd.form_b]; simp [Fc.cnts, Fc.cnt, Kd.leaves]
  | .u => by rw [Kd.form_u]; simp [Fc.cnts, Kd.leaves]
  | .p x y => by
    have a := Kd.cnts_form x
    have b := Kd.cnts_form y
    rw [Kd.form_p, Fc.cnts_perm (Fc.srt_perm _), Fc.cnts_app, Kd.leaves, Nat.pow_add]
    have c : 2 ^ x.leaves * 2 ^ y.leaves ≥ 2 ^ x.leaves * 1 + 1 * 2 ^ y.leaves - 1 := by
      have p1 : 1 ≤ 2 ^ x.leaves := Nat.one_le_two_pow
      have p2 : 1 ≤ 2 ^ y.leaves := Nat.one_le_two_pow
      obtain ⟨i, hi⟩ : ∃ i, 2 ^ x.leaves = i + 1 := ⟨_, (Nat.sub_add_cancel p1).symm⟩
      obtain ⟨j, hj⟩ : ∃ j, 2 ^ y.leaves = j + 1 := ⟨_, (Nat.sub_add_cancel p2).symm⟩
      rw [hi, hj, Nat.add_mul, Nat.mul_add]
      omega
    omega
  | .f x y => by
    have a := Kd.cnts_form x
    have b := Kd.cnts_form y
    have l := y.form_length
    have lt : y.leaves < 2 ^ y.leaves := Nat.lt_two_pow_self
    rw [Kd.form_f, Fc.cnts_perm (Fc.srt_perm _), Fc.cnts_add, Kd.leaves, Nat.pow_add]
    obtain ⟨i, hi⟩ : ∃ i, 2 ^ x.leaves = i + 1 := ⟨_, (Nat.sub_add_cancel Nat.one_le_two_pow).symm⟩
    obtain ⟨j, hj⟩ : ∃ j, 2 ^ y.leaves = j + 1 := ⟨_, (Nat.sub_add_cancel Nat.one_le_two_pow).symm⟩
    rw [hi] at a
    rw [hj] at b lt
    rw [hi, hj, Nat.add_mul, Nat.mul_add]
    have m : y.form.length * Fc.cnts x.form ≤ j * i := Nat.mul_le_mul (by omega) (by omega)
    have e := Nat.mul_comm i j
    omega
mutual
theorem Fc.sz_cnt : ∀ f : Fc, sz (Fc.dat f) = 3 * Fc.cnt f
  | .mk ws n => by rw [Fc.dat, Fc.cnt]; simp only [sz, szs]; rw [Fc.szs_cnt ws]; omega
theorem Fc.szs_cnt : ∀ l : List Fc, szs (Fc.dats l) = 3 * Fc.cnts l
  | [] => by rw [Fc.dats, Fc.cnts]; rfl
  | f :: r => by rw [Fc.dats, Fc.cnts]; simp only [szs]; rw [Fc.sz_cnt f, Fc.szs_cnt r]; omega
end
theorem Kd.form_szs (k : Kd) (h : k.leaves ≤ 16) : szs (Fc.dats k.form) ≤ 200000 := by
  have a := Kd.cnts_form k
  have b : 2 ^ k.leaves ≤ 2 ^ 16 := Nat.pow_le_pow_right (by decide) h
  rw [Fc.szs_cnt]
  have : (2 : Nat) ^ 16 = 65536 := by decide
  omega
end KB

namespace KB
open PySem PySem.Spec PyProof.Rows L2
/-- what follows is asked by a name of one's own -/
theorem pss_gen {X : Cx} {S : List Stmt} {t I : TS} (h : PSs X S t) (w : ∀ (D : Ends) (σ : L2.St) (H : Hp), I D σ H → t D σ H) : PSs X S I :=
  ⟨fun pins s σ H D J i => h.run pins s σ H D J (w D σ H i)⟩
/-- both ways of a test lead to the same -/
theorem ite2' {p : Prop} [Decidable p] {A B : Prop} (a : A) (b : ¬ p → B) : if p then A else B := by
  split
  · exact a
  · rename_i h; exact b h
end KB

namespace KB
open PySem L2
/-! ## how wide and deep the kind of a form is -/
theorem Kd.chg_rk {c : Nat} : ∀ (k : Kd) (i : Int), (k.chg c i).rk = k.rk
  | .b n, i => by rw [Kd.chg]; split <;> rfl
  | .u, _ => rfl
  | .p x y, i => by rw [Kd.chg, Kd.rk, Kd.rk, Kd.chg_rk x, Kd.chg_rk y]
  | .f x y, i => by rw [Kd.chg, Kd.rk, Kd.rk, Kd.chg_rk x, Kd.chg_rk y]
mutual
def Fc.wid : Fc → Nat
  | .mk ws _ => max ws.length (Fc.wids ws)
def Fc.wids : List Fc → Nat
  | [] => 0
  | f :: r => max (Fc.wid f) (Fc.wids r)
end
theorem Fc.wids_le {B : Nat} : ∀ {l : List Fc}, Fc.wids l ≤ B ↔ ∀ f ∈ l, Fc.wid f ≤ B
  | [] => by rw [Fc.wids]; simp
  | f :: r => by
    rw [Fc.wids, Nat.max_le, Fc.wids_le (l := r)]
    simp
theorem Fc.wids_app {B : Nat} (a b : List Fc) : Fc.wids (a ++ b) ≤ B ↔ Fc.wids a ≤ B ∧ Fc.wids b ≤ B := by
  rw [Fc.wids_le, Fc.wids_le, Fc.wids_le]
  exact ⟨fun h => ⟨fun f hf => h f (List.mem_append.mpr (.inl hf)), fun f hf => h f (List.mem_append.mpr (.inr hf))⟩, fun h f hf => (List.mem_append.mp hf).elim (h.1 f) (h.2 f)⟩
theorem Fc.wids_srt {B : Nat} (l : List Fc) : Fc.wids (Fc.srt l) ≤ B ↔ Fc.wids l ≤ B := by
  rw [Fc.wids_le, Fc.wids_le]
  exact ⟨fun h f hf => h f ((Fc.srt_perm l).mem_iff.mpr hf), fun h f hf => h f ((Fc.srt_perm l).mem_iff.mp hf)⟩
theorem Kd.fac_wid {B : Nat} : ∀ (k : Kd) {W : List Fc}, Fc.wids W ≤ B → W.length + k.leaves ≤ B → Fc.wids (k.fac W) ≤ B
  | .b n, W, h, l => by
    rw [Kd.fac, Fc.wids, Fc.wids, Fc.wid]
    simp only [Kd.leaves] at l
    omega
  | .u, W, h, l => by rw [Kd.fac, Fc.wids]; exact Nat.zero_le _
  | .p x y, W, h, l => by
    simp only [Kd.leaves] at l
    rw [Kd.fac, Fc.wids_app]
    exact ⟨Kd.fac_wid x h (by omega), Kd.fac_wid y h (by omega)⟩
  | .f x y, W, h, l => by
    simp only [Kd.leaves] at l
    have lx := x.fac_length []
    rw [Kd.fac]
    refine Kd.fac_wid y ?_ ?_
    · rw [Fc.wids_srt, Fc.wids_app, Fc.wids_srt]
      exact ⟨h, Kd.fac_wid x (by rw [Fc.wids]; exact Nat.zero_le _) (by simp only [List.length_nil]; omega)⟩
    · rw [Fc.srt_length, List.length_append, Fc.srt_length]; omega
theorem Kd.form_wid (k : Kd) : Fc.wids k.form ≤ k.leaves := by
  rw [Kd.form, Fc.wids_srt]
  exact Kd.fac_wid k (by rw [Fc.wids]; exact Nat.zero_le _) (by simp)
theorem Fc.kdf_deep {B : Nat} : ∀ (r : List Fc) (k : Kd), k.deep ≤ B → (∀ g ∈ r, g.kd.deep ≤ B) → (Fc.kdf k r).deep ≤ B + r.length
  | [], k, h, _ => by rw [Fc.kdf]; exact h
  | f :: r, k, h, hr => by
    have := Fc.kdf_deep r f.kd (hr f List.mem_cons_self) fun g hg => hr g (List.mem_cons_of_mem _ hg)
    rw [Fc.kdf, Kd.deep, List.length_cons]
    omega
theorem Fc.kds_deep (M : Nat) : ∀ (j : Nat) (l : List Fc), l.length ≤ M → Fc.wids l ≤ M → PyData.depthAll (Fc.dats l) ≤ 2 * j → (Fc.kds l).deep ≤ (M + 1) * j + 1
  | 0, l, _, _, hd => by
    cases l with
    | nil => rw [Fc.kds]; simp [Kd.deep]
    | cons f r =>
      obtain ⟨ws, n⟩ := f
      rw [Fc.dats, Fc.dat] at hd
      simp only [PyData.depthAll, PyData.depth] at hd
      omega
  | j + 1, l, hl, hw, hd => by
    cases l with
    | nil => rw [Fc.kds]; simp [Kd.deep]
    | cons f r =>
      have each : ∀ g ∈ f :: r, g.kd.deep ≤ (M + 1) * j + 2 := by
        intro g hg
        have dg := Fc.depth_of hg
        have wg := Fc.wids_le.mp hw g hg
        obtain ⟨ws, n⟩ := g
        rw [Fc.dat] at dg
        simp only [PyData.depthAll, PyData.depth] at dg
        rw [Fc.wid] at wg
        cases ws with
        | nil => rw [Fc.kd, Fc.kdw]; simp only [Kd.deep]; omega
        | cons g0 r0 =>
          have ih := Fc.kds_deep M j (g0 :: r0) (by omega) (by omega) (by omega)
          have e : (Fc.mk (g0 :: r0) n).kd = .f (Fc.kds (g0 :: r0)) (.b n) := by rw [Fc.kd, Fc.kdw, Fc.kds]
          rw [e]
          simp only [Kd.deep]
          omega
      have := Fc.kdf_deep r f.kd (each f List.mem_cons_self) fun g hg => each g (List.mem_cons_of_mem _ hg)
      rw [Fc.kds]
      rw [List.length_cons] at hl
      have e : (M + 1) * (j + 1) = (M + 1) * j + (M + 1) := Nat.mul_succ _ _
      omega
mutual
theorem Fc.kd_leaves : ∀ f : Fc, f.kd.leaves ≤ Fc.cnt f
  | .mk [] n => by rw [Fc.kd, Fc.kdw, Fc.cnt, Fc.cnts]; simp [Kd.leaves]
  | .mk (g :: r) n => by
    have a := Fc.kd_leaves g
    have b := Fc.kdf_leaves g.kd r
    rw [Fc.kd, Fc.kdw, Fc.cnt, Fc.cnts]
    simp only [Kd.leaves]
    omega
theorem Fc.kdf_leaves (k : Kd) : ∀ l : List Fc, (Fc.kdf k l).leaves ≤ k.leaves + Fc.cnts l
  | [] => by rw [Fc.kdf, Fc.cnts]; exact Nat.le_refl _
  | f :: r => by
    have a := Fc.kd_leaves f
    have b := Fc.kdf_leaves f.kd r
    rw [Fc.kdf, Kd.leaves, Fc.cnts]
    omega
end
theorem Fc.kds_leaves : ∀ l : List Fc, (Fc.kds l).leaves ≤ 1 + Fc.cnts l
  | [] => by rw [Fc.kds, Fc.cnts]; exact Nat.le_refl _
  | f :: r => by
    have a := Fc.kd_leaves f
    have b := Fc.kdf_leaves f.kd r
    rw [Fc.kds, Fc.cnts]
    omega
mutual
theorem Fc.kd_ok : ∀ {f : Fc}, Fc.good f → f.kd.ok
  | .mk [] n, h => by rw [Fc.good] at h; rw [Fc.kd, Fc.kdw]; exact h.1
  | .mk (g :: r) n, h => by
    rw [Fc.good, Fc.goods] at h
    rw [Fc.kd, Fc.kdw]
    exact ⟨Fc.kdf_ok (Fc.kd_ok h.2.2.1) h.2.2.2, h.1⟩
theorem Fc.kdf_ok {k : Kd} (hk : k.ok) : ∀ {l : List Fc}, Fc.goods l → (Fc.kdf k l).ok
  | [], _ => by rw [Fc.kdf]; exact hk
  | f :: r, h => by
    rw [Fc.goods] at h
    rw [Fc.kdf]
    exact ⟨hk, Fc.kdf_ok (Fc.kd_ok h.1) h.2⟩
end
theorem Fc.kds_ok : ∀ {l : List Fc}, Fc.goods l → (Fc.kds l).ok
  | [], _ => trivial
  | f :: r, h => by
    rw [Fc.goods] at h
    rw [Fc.kds]
    exact Fc.kdf_ok (Fc.kd_ok h.1) h.2
end KB

namespace KB
open PySem PySem.Spec PyProof.Rows L2
/-! ## kinds so deep; the kind of a form has this form -/
theorem Kd.rk_deep : ∀ k : Kd, k.rk + 1 ≤ k.deep
  | .b _ => by simp [Kd.rk, Kd.deep]
  | .u => by simp [Kd.rk, Kd.deep]
  | .p x y => by have := Kd.rk_deep x; have := Kd.rk_deep y; simp only [Kd.rk, Kd.deep]; omega
  | .f x y => by have := Kd.rk_deep x; have := Kd.rk_deep y; simp only [Kd.rk, Kd.deep]; omega
theorem Kd.leaves_deep : ∀ (n : Nat) (k : Kd), k.deep ≤ n + 1 → k.leaves ≤ 2 ^ n
  | _, .b _, _ => Nat.one_le_two_pow
  | _, .u, _ => Nat.one_le_two_pow
  | 0, .p x y, h => by have := x.leaves_pos; have := x.deep_le; have : 1 ≤ x.deep := by cases x <;> simp [Kd.deep] <;> omega
                       simp only [Kd.deep] at h; omega
  | 0, .f x y, h => by have : 1 ≤ x.deep := by cases x <;> simp [Kd.deep] <;> omega
                       simp only [Kd.deep] at h; omega
  | n + 1, .p x y, h => by
    simp only [Kd.deep] at h
    have a := Kd.leaves_deep n x (by omega)
    have b := Kd.leaves_deep n y (by omega)
    simp only [Kd.leaves]; rw [Nat.pow_succ]; omega
  | n + 1, .f x y, h => by
    simp only [Kd.deep] at h
    have a := Kd.leaves_deep n x (by omega)
    have b := Kd.leaves_deep n y (by omega)
    simp only [Kd.leaves]; rw [Nat.pow_succ]; omega
def cb : Nat → Nat
  | 0 => 1
  | n + 1 => cb n * (1 + 2 ^ n)
theorem cb_pos : ∀ n, 1 ≤ cb n
  | 0 => Nat.le_refl _
  | n + 1 => by
    rw [cb]
    have := cb_pos n
    exact Nat.le_trans this (Nat.le_mul_of_pos_right _ (Nat.lt_of_lt_of_le Nat.zero_lt_one (Nat.le_add_right 1 _)))
theorem Kd.cnts_deep : ∀ (n : Nat) (k : Kd), k.deep ≤ n + 1 → Fc.cnts k.form ≤ cb n
  | n, .b m, _ => by rw [Kd.form_b]; have := cb_pos n; simp [Fc.cnts, Fc.cnt]; omega
  | n, .u, _ => by rw [Kd.form_u]; simp [Fc.cnts]
  | 0, .p x y, h => by have : 1 ≤ x.deep := by cases x <;> simp [Kd.deep] <;> omega
                       simp only [Kd.deep] at h; omega
  | 0, .f x y, h => by have : 1 ≤ x.deep := by cases x <;> simp [Kd.deep] <;> omega
                       simp only [Kd.deep] at h; omega
  | n + 1, .p x y, h => by
    simp only [Kd.deep] at h
    have a := Kd.cnts_deep n x (by omega)
    have b := Kd.cnts_deep n y (by omega)
    rw [Kd.form_p, Fc.cnts_perm (Fc.srt_perm _), Fc.cnts_app, cb, Nat.mul_add]
    have : cb n * 1 ≤ cb n * 2 ^ n := Nat.mul_le_mul (Nat.le_refl _) Nat.one_le_two_pow
    omega
  | n + 1, .f x y, h => by
    simp only [Kd.deep] at h
    have a := Kd.cnts_deep n x (by omega)
    have b := Kd.cnts_deep n y (by omega)
    have l := y.form_length
    have ly := Kd.leaves_deep n y (by omega)
    rw [Kd.form_f, Fc.cnts_perm (Fc.srt_perm _), Fc.cnts_add, cb, Nat.mul_add, Nat.mul_comm (cb n) (2 ^ n)]
    have m : y.form.length * Fc.cnts x.form ≤ 2 ^ n * cb n := Nat.mul_le_mul (by omega) a
    omega
mutual
theorem Fc.kd_form : ∀ {f : Fc}, Fc.good f → f.kd.form = [f]
  | .mk [] n, h => by rw [Fc.kd, Fc.kdw, Kd.form_b]
  | .mk (g :: r) n, h => by
    rw [Fc.good, Fc.goods] at h
    have e : (Fc.kdf g.kd r).form = g :: r := by
      rw [Fc.kdf_form h.2.2.2, Fc.kd_form h.2.2.1, List.singleton_append, Fc.srt_of h.2.1]
    rw [Fc.kd, Fc.kdw, Kd.form_f, Kd.form_b, e, List.map_cons, List.map_nil, Fc.add, List.append_nil, Fc.srt_of h.2.1]
    rfl
theorem Fc.kdf_form {k : Kd} : ∀ {l : List Fc}, Fc.goods l → (Fc.kdf k l).form = Fc.srt (k.form ++ l)
  | [], _ => by rw [Fc.kdf, List.append_nil, Kd.form_srt]
  | f :: r, h => by
    rw [Fc.goods] at h
    rw [Fc.kdf, Kd.form_p, Fc.kdf_form h.2, Fc.kd_form h.1, Fc.srt_right, List.singleton_append]
end
theorem Fc.kds_form {l : List Fc} (g : Fc.goods l) (o : Fc.Ord l) : (Fc.kds l).form = l := by
  cases l with
  | nil => rw [Fc.kds, Kd.form_u]
  | cons f r =>
    rw [Fc.goods] at g
    rw [Fc.kds, Fc.kdf_form g.2, Fc.kd_form g.1, List.singleton_append, Fc.srt_of o]
theorem Kd.kds_form {k : Kd} (h : k.ok) : (Fc.kds k.form).form = k.form := Fc.kds_form (Kd.form_good h) (Fc.srt_ord _)
mutual
theorem Fc.kd_rk : ∀ f : Fc, 2 * f.kd.rk + 2 ≤ (Fc.dat f).depth
  | .mk [] n => by rw [Fc.kd, Fc.kdw, Fc.dat, Fc.dats]; simp only [Kd.rk, PyData.depth, PyData.depthAll]; omega
  | .mk (g :: r) n => by
    have a := Fc.kdf_rk g.kd r
    have b := Fc.kd_rk g
    have e : (Fc.mk (g :: r) n).kd.rk = (Fc.kdf g.kd r).rk + 1 := by rw [Fc.kd, Fc.kdw]; simp only [Kd.rk]; exact Nat.max_eq_left (Nat.zero_le _)
    rw [e, Fc.dat, Fc.dats]
    simp only [PyData.depth, PyData.depthAll]
    omega
theorem Fc.kdf_rk (k : Kd) : ∀ l : List Fc, 2 * (Fc.kdf k l).rk + 2 ≤ max (2 * k.rk + 2) (PyData.depthAll (Fc.dats l))
  | [] => by rw [Fc.kdf]; omega
  | f :: r => by
    have a := Fc.kdf_rk f.kd r
    have b := Fc.kd_rk f
    rw [Fc.kdf, Fc.dats]
    simp only [Kd.rk, PyData.depthAll]
    omega
end
theorem Fc.kds_rk (l : List Fc) : 2 * (Fc.kds l).rk ≤ PyData.depthAll (Fc.dats l) := by
  cases l with
  | nil => rw [Fc.kds]; simp [Kd.rk]
  | cons f r =>
    have a := Fc.kdf_rk f.kd r
    have b := Fc.kd_rk f
    rw [Fc.kds, Fc.dats]
    simp only [PyData.depthAll]
    omega
/-! ## what is read stays, but for tables of code -/
def notab (H : Hp) : Hp := fun b => match H b with | some (.tbl _) => none | o => o
theorem notab_sub (H : Hp) : Same (notab H) H := fun b o e => by
  unfold notab at e
  split at e
  · cases e
  · exact e
theorem notab_at {H : Hp} {b : Addr} {o : HO} (h : H b = some o) (n : ∀ ps, o ≠ .tbl ps) : notab H b = some o := by
  unfold notab
  rw [h]
  split
  · rename_i e
    exact absurd (Option.some.inj e) (n _)
  · rfl
theorem notab_ext {H H' : Hp} (e : LamX.ExtN H H') : Same (notab H) (notab H') := fun b o h => by
  have n : ∀ ps, o ≠ .tbl ps := fun ps z => by
    unfold notab at h
    split at h
    · cases h
    · rename_i hx; exact hx ps (by rw [h, z])
  exact notab_at (e b o (notab_sub H b o h) n) n
theorem notab_seq {K : PySem.W.Frag} {H : Hp} {a : Addr} {xs : List V} (h : SqL K H a xs) : SqL K (notab H) a xs := by
  rcases h with (h | ⟨o, h⟩) | h
  · exact .inl (.inl (notab_at h fun _ z => by cases z))
  · exact .inl (.inr ⟨o, notab_at h fun _ z => by cases z⟩)
  · exact .inr h
theorem notab_tup {K : PySem.W.Frag} {H : Hp} {a : Addr} {xs : List V} (h : SqT K H a xs) : SqT K (notab H) a xs := by
  rcases h with (h | ⟨o, h⟩) | h
  · exact .inl (.inl (notab_at h fun _ z => by cases z))
  · exact .inl (.inr ⟨o, notab_at h fun _ z => by cases z⟩)
  · exact .inr h
mutual
theorem Dq.notab {K : PySem.W.Frag} {H : Hp} : ∀ {d : PyData} {v : V}, Dq K H v d → Dq K (KB.notab H) v d
  | _, _, .non => .non
  | _, _, .bl b => .bl b
  | _, _, .int i => .int i
  | _, _, .str x => .str x
  | _, _, .lst h a => .lst (notab_seq h) (DqAll.notab a)
  | _, _, .tup h a => .tup (notab_tup h) (DqAll.notab a)
  | _, _, .dct h => .dct (notab_at h fun _ z => by cases z)
theorem DqAll.notab {K : PySem.W.Frag} {H : Hp} : ∀ {ds : List PyData} {vs : List V}, DqAll K H vs ds → DqAll K (KB.notab H) vs ds
  | _, _, .nil => .nil
  | _, _, .cons h a => .cons (Dq.notab h) (DqAll.notab a)
end
theorem Dq.extN {K : PySem.W.Frag} {H H' : Hp} {d : PyData} {v : V} (e : LamX.ExtN H H') (h : Dq K H v d) : Dq K H' v d := (h.notab.same (notab_ext e)).same (notab_sub H')
theorem seq_extN {K : PySem.W.Frag} {H H' : Hp} {a : Addr} {xs : List V} (e : LamX.ExtN H H') (h : SqL K H a xs) : SqL K H' a xs := L2.Same.seq (notab_sub H') (L2.Same.seq (notab_ext e) (notab_seq h))
end KB

namespace KB
open PySem PySem.Spec PyProof.Rows L2
/-! ## which of two tuples is greater -/
def RcGt (A : Around) (s : Shared) (y x : Value) (k : Bool) : Prop := ∀ (P : Program) (w : World) (E Q : Value → Shared → Prop), Q (.bool k) s → wpAny (model P w) A (richCompare .Gt y x) Q E s
section
open SeqAt AutoSeq1
theorem gt_at (p q : Addr) (us vs : Array Value) (m m2 : Nat) (d1 d2 : Option Addr) (k1 k2 : Array (Option Value)) (e r : Nat → Bool) :
    Meets (Builtin.«tuple.__gt__» ⟨[.ref p, .ref q], []⟩) fun A R s => s.heap.get? p = some ⟨.type "tuple", d1, .seq us m, k1⟩ ∧ s.heap.get? q = some ⟨.type "tuple", d2, .seq vs m2, k2⟩ ∧
      (∀ j (a : j < us.size) (b : j < vs.size), EqAt A.in1 s us[j] vs[j] (e j)) ∧ (∀ j (a : j < us.size) (b : j < vs.size), e j = false → RcGt A.in1 s us[j] vs[j] (r j)) ∧ R (.ok (.ret (.bool (firstLt e r (decide (us.size > vs.size)) (List.range (min us.size vs.size)))))) s :=
  .of_wp fun P w A R s ⟨gp, gq, heq, hgt, hR⟩ => by
    obtain ⟨hp, g, d, tk, os⟩ := s
    have kinds := AutoSeq1.sub_tuple_tuple
    have both : (us.toList.zip vs.toList).length = min us.size vs.size := by simp
    wp_walk using wpAny_loadPart' gp, wpAny_loadPart' gq, wpAny_forIn_list _ (fun left st s' => st.1 = none ∧ s' = ⟨hp, g, d, tk, os⟩ ∧ ∃ i, left = (us.toList.zip vs.toList).drop i ∧ R (.ok (.ret (.bool (firstLt e r (decide (us.size > vs.size)) ((List.range (min us.size vs.size)).drop i))))) ⟨hp, g, d, tk, os⟩) _
    case turn =>
      rintro ⟨y, x⟩ left st s' ⟨h0, rfl, i, hz, hR⟩
      have lt : i < (us.toList.zip vs.toList).length := by
        by_cases z : i < (us.toList.zip vs.toList).length
        · exact z
        · rw [List.drop_of_length_le (by omega)] at hz; cases hz
      have im : i < min us.size vs.size := both ▸ lt
      have i1 : i < us.size := by omega
      have i2 : i < vs.size := by omega
      rw [List.drop_eq_getElem_cons lt] at hz
      injection hz with hyx rest
      obtain rfl : y = us[i] := by simpa using congrArg Prod.fst hyx
      obtain rfl : x = vs[i] := by simpa using congrArg Prod.snd hyx
      have cut : (List.range (min us.size vs.size)).drop i = i :: (List.range (min us.size vs.size)).drop (i + 1) := by simp [List.drop_eq_getElem_cons, im]
      rw [cut] at hR
      refine wpAny_bind (heq i i1 i2 P w _ _ ?_)
      cases same : e i with
      | true => rw [firstLt_yes same] at hR; wp_walk; exact ⟨rfl, rfl, i + 1, rest, hR⟩
      | false =>
        rw [firstLt_no same] at hR
        have hg : ∀ (E Q : Value → Shared → Prop), Q (.bool (r i)) ⟨hp, g, d, tk, os⟩ → wpAny (model P w) A.in1 (richCompare .Gt us[i] vs[i]) Q E ⟨hp, g, d, tk, os⟩ := fun E Q h => hgt i i1 i2 same P w E Q h
        clear heq hgt
        generalize @PySem.richCompare = rc at hg ⊢
        wp_walk
        refine hg _ _ ?_
        wp_walk
        exact ⟨_, rfl, hR⟩
    case fin =>
      rintro ⟨c1, c2⟩ s' ⟨h0, rfl, i, hz, hR⟩
      simp only at h0
      subst h0
      have past : min us.size vs.size ≤ i := by
        by_cases z : i < (us.toList.zip vs.toList).length
        · rw [List.drop_eq_getElem_cons z] at hz; cases hz
        · omega
      rw [List.drop_of_length_le (by simpa using past)] at hR
      wp_walk
      exact ⟨_, rfl, by simpa [Builtin.Tuple.tupleCompareSizes, firstLt] using hR⟩
    case h => exact ⟨rfl, rfl, 0, rfl, by simpa using hR⟩
theorem gt_tuples {A : Around} {s : Shared} {p q : Addr} {us vs : Array Value} {e r : Nat → Bool} (hp : s.heap.IsTuple p us) (hq : s.heap.IsTuple q vs) (hu : A.units < cLine)
    (heq : ∀ j (a : j < us.size) (b : j < vs.size), EqAt A.in1 s us[j] vs[j] (e j)) (hgt : ∀ j (a : j < us.size) (b : j < vs.size), e j = false → RcGt A.in1 s us[j] vs[j] (r j)) :
    RcGt A s (.ref p) (.ref q) (firstLt e r (decide (us.size > vs.size)) (List.range (min us.size vs.size))) := fun P w E Q h => by
  obtain ⟨⟨c1, d1, da1, k1⟩, g1, t1, m1, z1⟩ := id hp
  obtain ⟨⟨c2, d2, da2, k2⟩, g2, t2, m2, z2⟩ := id hq
  simp only at t1 z1 t2 z2
  subst t1 z1 t2 z2
  exact richCompare_meets_room (op := .Gt) ⟨_, g1, rfl⟩ ⟨_, g2, rfl⟩ F.slot_tuple_gt F.entry_tuple_gt (F.args_tuple_gt_2 _ _) (gt_at p q us vs m1 m2 d1 d2 k1 k2 e r) ⟨g1, g2, heq, hgt, show _ ≠ Value.notImplemented ∧ Q (.bool _) s from ⟨(fun z => nomatch z), h⟩⟩ hu
end
namespace Fc
def gt (a b : Fc) : Bool := cmp a b == .gt
def gF (fs gs : List Fc) (j : Nat) : Bool := match fs[j]?, gs[j]? with | some f, some g => gt f g | _, _ => false
theorem then_gt (a b : Ordering) : (a.then b == .gt) = (if (a == .eq) = true then (b == .gt) else (a == .gt)) := by cases a <;> cases b <;> rfl
theorem firstGt_cmps : ∀ fs gs : List Fc, SeqAt.firstLt (eF fs gs) (gF fs gs) (decide (fs.length > gs.length)) (List.range (min fs.length gs.length)) = (cmps fs gs == .gt)
  | [], [] => by simp [SeqAt.firstLt.eq_1, cmps]
  | [], _ :: _ => by simp [SeqAt.firstLt.eq_1, cmps]
  | _ :: _, [] => by simp [SeqAt.firstLt.eq_1, cmps]
  | f :: r, g :: t => by
    have hm : min (f :: r).length (g :: t).length = min r.length t.length + 1 := by simp only [List.length_cons]; omega
    have hd : decide ((f :: r).length > (g :: t).length) = decide (r.length > t.length) := by simp
    rw [hm, hd, List.range_succ_eq_map, SeqAt.firstLt.eq_2, firstLt_map]
    have h1 : (fun j => eF (f :: r) (g :: t) (Nat.succ j)) = eF r t := funext fun j => rfl
    have h2 : (fun j => gF (f :: r) (g :: t) (Nat.succ j)) = gF r t := funext fun j => rfl
    rw [h1, h2, firstGt_cmps r t, cmps, then_gt]
    rfl
theorem rg_int {A : Around} {s : Shared} (a : Int) (t : Tok) (b : Int) (u : Tok) : RcGt A s (.int a t) (.int b u) (decide (b < a)) := fun prog w E Q h => gt_int h
mutual
theorem rcGt : ∀ (f g : Fc) {A : Around} {s : Shared} {v u : Value} {as bs : List Addr}, Reads s.heap v (dat f) as → Reads s.heap u (dat g) bs → A.units + (dat f).depth < cLine → RcGt A s v u (gt f g)
  | mk ws n, mk vs m, A, s, v, u, as, bs, rv, ru, hu => by
    rw [dat] at rv ru hu
    simp only [PyData.depth, PyData.depthAll] at hu
    obtain ⟨a, items, rfl, t1, ra⟩ := tup_inv rv
    obtain ⟨b, items2, rfl, t2, rb⟩ := tup_inv ru
    obtain ⟨il⟩ := items
    obtain ⟨il2⟩ := items2
    cases ra with
    | cons r1 r2 => cases r2 with
    | cons r3 r4 => cases r4 with
    | nil => cases rb with
    | cons p1 p2 => cases p2 with
    | cons p3 p4 => cases p4 with
    | nil =>
    cases r3
    cases p3
    have eq0 := SeqAt.eqAt_reads _ _ A.in1 s _ _ _ _ r1 p1 (by simpa [PyData.canLay0] using lays ws) (by simpa [PyData.canLay0] using lays vs) (by show A.units + 1 + _ < cLine; simp only [PyData.depth]; omega)
    rw [ev_tup, eqvs] at eq0
    obtain ⟨a1, w1, rfl, tw, rw1⟩ := tup_inv r1
    obtain ⟨b1, w2, rfl, tv, rv1⟩ := tup_inv p1
    obtain ⟨l1, f1⟩ := reads_at rw1
    obtain ⟨l2, f2⟩ := reads_at rv1
    have lt0 : RcGt A.in1 s (.ref a1) (.ref b1) (cmps ws vs == .gt) := by
      have h := gt_tuples (A := A.in1) (s := s) (e := eF ws vs) (r := gF ws vs) tw tv (by show A.units + 1 < cLine; omega) (fun j h1 h2 => ?_) (fun j h1 h2 _ => ?_)
      · have s1 : w1.size = ws.length := by rw [← l1]; simp
        have s2 : w2.size = vs.length := by rw [← l2]; simp
        rw [s1, s2, firstGt_cmps] at h
        exact h
      · obtain ⟨f, as1, e1, q1⟩ := f1 j (by simpa using h1)
        obtain ⟨g, bs1, e2, q2⟩ := f2 j (by simpa using h2)
        have d1 := depth_mem e1
        have := SeqAt.eqAt_reads _ _ A.in1.in1 s _ _ _ _ q1 q2 (lay f) (lay g) (by show A.units + 1 + 1 + _ < cLine; omega)
        rw [eqv f g] at this
        have ef : eF ws vs j = (cmp f g == .eq) := by simp [eF, e1, e2]
        rw [ef]
        simpa using this
      · obtain ⟨f, as1, e1, q1⟩ := f1 j (by simpa using h1)
        obtain ⟨g, bs1, e2, q2⟩ := f2 j (by simpa using h2)
        have := rcGts ws vs (A := A.in1.in1) j e1 q1 q2 (by show A.units + 1 + 1 + _ < cLine; omega)
        have ef : gF ws vs j = gt f g := by simp [gF, e1, e2]
        rw [ef]
        simpa using this
    have h := gt_tuples (A := A) (s := s) (e := fun j => if j = 0 then (cmps ws vs == .eq) else ((n : Int) == (m : Int))) (r := fun j => if j = 0 then (cmps ws vs == .gt) else decide ((m : Int) < (n : Int))) t1 t2 (by omega) (fun j h1 h2 => ?_) (fun j h1 h2 _ => ?_)
    · have e : SeqAt.firstLt (fun j => if j = 0 then (cmps ws vs == .eq) else ((n : Int) == (m : Int))) (fun j => if j = 0 then (cmps ws vs == .gt) else decide ((m : Int) < (n : Int))) (decide (2 > 2)) [0, 1] = gt (mk ws n) (mk vs m) := by
        rw [SeqAt.firstLt.eq_2, SeqAt.firstLt.eq_2, SeqAt.firstLt.eq_1, gt, cmp, then_gt]
        have hnm : decide ((m : Int) < (n : Int)) = (compare n m == .gt) := by
          by_cases h : m < n
          · have h2 : compare n m = .gt := Nat.compare_eq_gt.mpr h
            have h3 : ((m : Int) < (n : Int)) := by omega
            simp [h2, h3]
          · have h2 : compare n m ≠ .gt := fun z => h (Nat.compare_eq_gt.mp z)
            have h3 : ¬ ((m : Int) < (n : Int)) := by omega
            simp [h2, h3]
        simp only [hnm, nat_ev]
        generalize cmps ws vs = c
        generalize compare n m = d
        cases c <;> cases d <;> rfl
      rw [← e]
      exact h
    · match j, h1, h2 with
      | 0, _, _ => exact eq0
      | 1, _, _ => exact SeqAt.EqAt.int_int _ _ _ _
      | j + 2, h1, _ => exact absurd h1 (by simp)
    · match j, h1, h2 with
      | 0, _, _ => exact lt0
      | 1, _, _ => exact rg_int _ _ _ _
      | j + 2, h1, _ => exact absurd h1 (by simp)
theorem rcGts : ∀ (fs gs : List Fc) {A : Around} {s : Shared} (j : Nat) {f g : Fc} {v u : Value} {as bs : List Addr}, fs[j]? = some f → Reads s.heap v (dat f) as → Reads s.heap u (dat g) bs → A.units + PyData.depthAll (dats fs) < cLine → RcGt A s v u (gt f g)
  | [], _, _, _, _, _, _, _, _, _, _, h, _, _, _ => by simp at h
  | f0 :: r, gs, A, s, 0, f, g, v, u, as, bs, h, rv, ru, hu => by
    have e : f0 = f := by simpa using h
    subst e
    rw [dats] at hu
    simp only [PyData.depthAll] at hu
    exact rcGt f0 g rv ru (by omega)
  | f0 :: r, gs, A, s, j + 1, f, g, v, u, as, bs, h, rv, ru, hu => by
    rw [dats] at hu
    simp only [PyData.depthAll] at hu
    exact rcGts r gs j (by simpa using h) rv ru (by omega)
end
theorem gt_lt (a b : Fc) : gt a b = lt b a := by
  unfold gt lt
  rw [cmp_swap a b]
  cases cmp a b <;> rfl
end Fc
/-- a > b of two factors -/
def rGtF (K : PySem.W.Frag) : R2 := fun x y H Q => ∃ f g : Fc, Dq K H x (Fc.dat f) ∧ Dq K H y (Fc.dat g) ∧ (Fc.dat f).depth ≤ 190 ∧ Q (.bl (Fc.lt g f)) H
theorem op_gtF {X : Cx} (hu : X.A.units + 200 < cLine) : OpR X (compareOp .Gt) (rGtF X.K) := by
  intro pins s σ H x y v u Q I rx ry ⟨f, g, df, dg, dep, q⟩
  obtain ⟨as, ra, _⟩ := Dq.reads I df rx
  obtain ⟨bs, rb, _⟩ := Dq.reads I dg ry
  have h := Fc.rcGt f g (A := X.A) (s := s) ra rb (by omega)
  rw [Fc.gt_lt] at h
  exact h _ _ _ _ ⟨.bl _, H, I, rfl, q⟩
end KB

namespace KB
open PySem PySem.Spec L2
/-! ## data read as factors -/
def pQ (o : Option (List Fc)) (r : List PyData) : Option Fc := match o with
  | none => none
  | some ws => match r with
    | [.int n] => if 0 ≤ n ∧ n < 8 then some (.mk ws n.toNat) else none
    | _ => none
mutual
def pF : PyData → Option Fc
  | .tuple xs => pP xs
  | _ => none
def pP : List PyData → Option Fc
  | [] => none
  | w :: r => pQ (pW w) r
def pW : PyData → Option (List Fc)
  | .tuple ws => pL ws
  | _ => none
def pL : List PyData → Option (List Fc)
  | [] => some []
  | d :: r => match pF d, pL r with
    | some f, some l => some (f :: l)
    | _, _ => none
end
/-- a factor but for what stands in what it wants -/
def facSh : PyData → Bool
  | .tuple [w, b] => tyN w == "tuple" && isBn b
  | _ => false
def wOf : PyData → List PyData
  | .tuple (.tuple ws :: _) => ws
  | _ => []
theorem facSh_is {d : PyData} (h : facSh d = true) : ∃ (ws : List PyData) (n : Nat), d = .tuple [.tuple ws, .int (n : Int)] ∧ n < 8 := by
  match d, h with
  | .tuple [w, b], h =>
    simp only [facSh, Bool.and_eq_true, beq_iff_eq] at h
    cases w <;> simp [tyN] at h
    rename_i ws
    cases b <;> simp [isBn] at h
    rename_i n
    exact ⟨ws, n.toNat, by rw [Int.toNat_of_nonneg h.1], by omega⟩
theorem pF_sh (ws : List PyData) (n : Nat) (h : n < 8) : pF (.tuple [.tuple ws, .int (n : Int)]) = (pL ws).map fun l => .mk l n := by
  simp only [pF, pP, pW]
  cases pL ws with
  | none => rfl
  | some l =>
    have e : (0 : Int) ≤ (n : Int) ∧ (n : Int) < 8 := by omega
    simp only [Option.map_some, pQ]
    rw [if_pos e]; simp
theorem pQ_is {o : Option (List Fc)} {r : List PyData} {f : Fc} (h : pQ o r = some f) : ∃ (ws : List Fc) (n : Nat), o = some ws ∧ r = [.int (n : Int)] ∧ n < 8 ∧ f = .mk ws n := by
  cases o with
  | none => cases h
  | some ws =>
    simp only [pQ] at h
    split at h
    · rename_i n
      split at h
      · rename_i c
        cases h
        exact ⟨ws, n.toNat, rfl, by rw [Int.toNat_of_nonneg c.1], by omega, rfl⟩
      · cases h
    · cases h
mutual
theorem pF_dat : ∀ {d : PyData} {f : Fc}, pF d = some f → facSh d = true ∧ d = Fc.dat f ∧ ∀ n ∈ Fc.num f, n < 8
  | .tuple xs, f, h => by
    simp only [pF] at h
    obtain ⟨ws, n, e, hn, rfl, g⟩ := pP_dat h
    rw [e]
    refine ⟨?_, by rw [Fc.dat], fun k hk => ?_⟩
    · simp [facSh, tyN, isBn]; omega
    · rw [Fc.num] at hk
      rcases List.mem_cons.mp hk with z | z
      · rw [z]; exact hn
      · exact g k z
  | .none, f, h => by simp [pF] at h
  | .bool _, f, h => by simp [pF] at h
  | .int _, f, h => by simp [pF] at h
  | .str _, f, h => by simp [pF] at h
  | .list _, f, h => by simp [pF] at h
  | .dict _, f, h => by simp [pF] at h
theorem pP_dat : ∀ {xs : List PyData} {f : Fc}, pP xs = some f → ∃ (ws : List Fc) (n : Nat), xs = [.tuple (Fc.dats ws), .int (n : Int)] ∧ n < 8 ∧ f = .mk ws n ∧ ∀ k ∈ Fc.nums ws, k < 8
  | [], f, h => by simp [pP] at h
  | w :: r, f, h => by
    simp only [pP] at h
    obtain ⟨ws, n, e, rfl, hn, rfl⟩ := pQ_is h
    obtain ⟨ew, g⟩ := pW_dat e
    exact ⟨ws, n, by rw [ew], hn, rfl, g⟩
theorem pW_dat : ∀ {w : PyData} {ws : List Fc}, pW w = some ws → w = .tuple (Fc.dats ws) ∧ ∀ k ∈ Fc.nums ws, k < 8
  | .tuple xs, ws, h => by
    simp only [pW] at h
    obtain ⟨e, g⟩ := pL_dats h
    exact ⟨by rw [e], g⟩
  | .none, f, h => by simp [pW] at h
  | .bool _, f, h => by simp [pW] at h
  | .int _, f, h => by simp [pW] at h
  | .str _, f, h => by simp [pW] at h
  | .list _, f, h => by simp [pW] at h
  | .dict _, f, h => by simp [pW] at h
theorem pL_dats : ∀ {ds : List PyData} {F : List Fc}, pL ds = some F → ds = Fc.dats F ∧ ∀ n ∈ Fc.nums F, n < 8
  | [], F, h => by simp only [pL] at h; cases h; rw [Fc.dats]; exact ⟨rfl, fun n z => by rw [Fc.nums] at z; cases z⟩
  | d :: r, F, h => by
    simp only [pL] at h
    cases hd : pF d with
    | none => rw [hd] at h; cases h
    | some f =>
      cases hr : pL r with
      | none => rw [hd, hr] at h; cases h
      | some l =>
        rw [hd, hr] at h
        cases h
        obtain ⟨_, a, b⟩ := pF_dat hd
        obtain ⟨c, e⟩ := pL_dats hr
        refine ⟨by rw [Fc.dats, ← a, ← c], fun n hn => ?_⟩
        rw [Fc.nums] at hn
        exact (List.mem_append.mp hn).elim (b n) (e n)
end
theorem pF_no {d : PyData} (h : facSh d = false) : pF d = none := by
  cases e : pF d with
  | none => rfl
  | some f => rw [(pF_dat e).1] at h; cases h
mutual
theorem pF_of : ∀ {f : Fc}, (∀ n ∈ Fc.num f, n < 8) → pF (Fc.dat f) = some f
  | .mk ws n, h => by
    rw [Fc.num] at h
    rw [Fc.dat, pF_sh _ n (h n List.mem_cons_self), pL_of (l := ws) fun k hk => h k (List.mem_cons_of_mem _ hk)]
    rfl
theorem pL_of : ∀ {l : List Fc}, (∀ n ∈ Fc.nums l, n < 8) → pL (Fc.dats l) = some l
  | [], _ => by rw [Fc.dats, pL]
  | f :: r, h => by
    rw [Fc.nums] at h
    rw [Fc.dats, pL, pF_of fun n hn => h n (List.mem_append.mpr (.inl hn)), pL_of fun n hn => h n (List.mem_append.mpr (.inr hn))]
end
/-- where all are factors but for what is wanted, and what each wants is read, all is -/
theorem pL_all : ∀ {ds : List PyData}, (∀ d ∈ ds, facSh d = true) → (∀ d ∈ ds, pL (wOf d) ≠ none) → pL ds ≠ none
  | [], _, _ => by rw [pL]; simp
  | d :: r, h, g => by
    obtain ⟨ws, n, rfl, hn⟩ := facSh_is (h d List.mem_cons_self)
    have g1 := g _ List.mem_cons_self
    have g2 := pL_all (ds := r) (fun e he => h e (List.mem_cons_of_mem _ he)) fun e he => g e (List.mem_cons_of_mem _ he)
    rw [pL, pF_sh ws n hn]
    have e : wOf (.tuple [.tuple ws, .int (n : Int)]) = ws := rfl
    rw [e] at g1
    cases a : pL ws with
    | none => exact absurd a g1
    | some l => cases b : pL r with
      | none => exact absurd b g2
      | some m => simp
/-! ## what the law takes for a form -/
def lawF (d : PyData) : Bool := match pF d with | some f => Fc.her f.ws | none => false
def lawL : PyData → Bool
  | .list ds => (match pL ds with | some F => Fc.her F | none => false)
  | _ => false
theorem her_cons (l : List Fc) : Fc.her l = ((Fc.cmps l (Fc.srt l) == .eq) && l.all fun f => Fc.her f.ws) := by
  rw [Fc.her, Fc.rows, List.all_cons, Fc.rowsW_map, List.all_flatten, List.all_map]
  rfl
theorem lawF_all : ∀ ds : List PyData, ds.all lawF = (match pL ds with | some F => F.all fun f => Fc.her f.ws | none => false)
  | [] => by rw [pL]; rfl
  | d :: r => by
    rw [List.all_cons, lawF_all r, pL, lawF]
    cases pF d with
    | none => rfl
    | some f => cases pL r with
      | none => simp
      | some l => rfl
/-- a list is in order where no neighbours are turned -/
theorem ord_near : ∀ {l : List Fc}, (∀ k, 0 < k → k < l.length → ∀ f g, l[k - 1]? = some f → l[k]? = some g → Fc.lt g f = false) → Fc.Ord l
  | [], _ => .nil
  | [f], _ => List.pairwise_singleton _ _
  | f :: g :: r, h => by
    have t := ord_near (l := g :: r) fun k k0 k1 a b ha hb => h (k + 1) (by omega) (by simp only [List.length_cons] at k1 ⊢; omega) a b (by
      have : k + 1 - 1 = (k - 1) + 1 := by omega
      rw [this]; exact ha) hb
    have e : Fc.lt g f = false := h 1 (by decide) (by simp) f g rfl rfl
    refine List.pairwise_cons.mpr ⟨fun x hx => ?_, t⟩
    rcases List.mem_cons.mp hx with rfl | hx
    · exact e
    · have gx : Fc.lt x g = false := (List.pairwise_cons.mp t).1 x hx
      exact Fc.swo.tr f g x e gx
theorem near_ord {l : List Fc} (o : Fc.Ord l) {k : Nat} {f g : Fc} (k0 : 0 < k) (hf : l[k - 1]? = some f) (hg : l[k]? = some g) : Fc.lt g f = false := by
  have h1 := (List.getElem?_eq_some_iff.mp hf)
  have h2 := (List.getElem?_eq_some_iff.mp hg)
  obtain ⟨a, rfl⟩ := h1
  obtain ⟨b, rfl⟩ := h2
  exact List.pairwise_iff_getElem.mp o (k - 1) k a b (by omega)
theorem ord_iff (l : List Fc) : (Fc.cmps l (Fc.srt l) == .eq) = true ↔ Fc.Ord l := by
  constructor
  · intro h
    have : l = Fc.srt l := (Fc.cmps_eq _ _).mp (by simpa using h)
    rw [this]; exact Fc.srt_ord l
  · intro h
    rw [Fc.srt_of h, (Fc.cmps_eq _ _).mpr rfl]; rfl
end KB

namespace KW
open PySem PySem.Spec PyProof.Rows L2 KB
def top (i : Nat) : Stmt := PySem.Challenge.pw_kindswap_k12_what_is_no_form.main.body.getD i (.Pass ⟨0, 0, 0, 0⟩)
structure Txt (K : PySem.W.Frag) (mg : Str → Option Value) (w : World) (CN CT : Addr) : Prop where
  z_len : mg "len" = none
  z_int : mg "int" = none
  z_str : mg "str" = none
  z_bool : mg "bool" = none
  z_list : mg "list" = none
  z_tuple : mg "tuple" = none
  z_type : mg "type" = none
  z_range : mg "range" = none
  z_sorted : mg "sorted" = none
  z_isinstance : mg "isinstance" = none
  z_repr : mg "repr" = none
  z_min : mg "min" = none
  z_max : mg "max" = none
  g_BASE_LETTERS : ∃ t, mg "BASE_LETTERS" = some (.str "abcdefgh" t)
  g_SIGN_OF_WORD : ∃ d, mg "SIGN_OF_WORD" = some (.ref d) ∧ DictS K w d [("both", .str "*"), ("from", .str ">")]
  e_NoKind : ExcF K mg "NoKind" CN
  e_NoForm : ExcF K mg "NoForm" CT
  g_NoKind : mg "NoKind" = some (.ref CN)
  g_NoForm : mg "NoForm" = some (.ref CT)
  x_caught : ExcC K CT
  o_SwapError : ∃ CS : Addr, mg "SwapError" = some (.ref CS) ∧ PySem.W.exmOne K (.ref CT) (.ref CS) = some true
  k_self : PySem.W.kitOne K (.ref CT) (.ref CT) = some true
  k_kind : PySem.W.kitOne K (.ref CT) (.ref CN) = some false

/-! ## draws of the laws that keep a state: one cell at first, then three numbers -/
def Well (H : Hp) (w : Addr) : Prop := ∃ xs : List V, H w = some (.lst xs) ∧ ((∃ c : Int, xs = [.int c]) ∨ ∃ x y z : Int, xs = [.int x, .int y, .int z])
/-- what a draw leaves: all but the state, and that one -/
structure Aft (w : Addr) (H H' : Hp) : Prop where
  well : Well H' w
  but : Same (out w H) (out w H')
theorem Aft.refl {w : Addr} {H : Hp} (h : Well H w) : Aft w H H := ⟨h, Same.refl _⟩
theorem Aft.trans {w : Addr} {H H1 H2 : Hp} (a : Aft w H H1) (b : Aft w H1 H2) : Aft w H H2 := ⟨b.well, a.but.trans b.but⟩
theorem Well.same {w : Addr} {H H' : Hp} (h : Well H w) (s : Same H H') : Well H' w := by
  obtain ⟨xs, e, r⟩ := h
  exact ⟨xs, s _ _ e, r⟩
theorem Well.new {w p : Addr} {H : Hp} (h : Well H w) (n : H p = none) (o : HO) : Well (upd H p o) w := h.same (same_new n o)
theorem Aft.new {w p : Addr} {H H' : Hp} (a : Aft w H H') (n : H' p = none) (o : HO) : Aft w H (upd H' p o) := ⟨a.well.new n o, a.but.trans (out_new n o)⟩
theorem Aft.same {w : Addr} {H H1 H2 : Hp} (a : Aft w H H1) (s : Same H1 H2) : Aft w H H2 := ⟨a.well.same s, a.but.trans (out_same s)⟩
theorem Aft.at_ {w p : Addr} {H H' : Hp} {o : HO} (a : Aft w H H') (n : p ≠ w) (h : H p = some o) : H' p = some o := (out_some (a.but p o (out_at n h))).2
theorem Well.ne {w p : Addr} {H : Hp} (h : Well H w) (n : H p = none) : p ≠ w := by
  obtain ⟨xs, e, _⟩ := h
  exact (ne_of_none e n).symm
theorem Well.laid {w p : Addr} {H : Hp} (h : Well H w) (n : H p = none) (o : HO) : out w (upd H p o) p = some o := out_at (h.ne n) upd_same
def spCell (K : PySem.W.Frag) : Sp := fun vs H Q _ => ∃ (a : Addr) (ns : List Int) (k : Int), vs = [.ref a, .int k] ∧ SqL K H a (ns.map V.int) ∧ 0 ≤ k ∧ ∀ c, Q (.int c) H
def spDigit : Sp := fun vs H Q _ => ∃ (w : Addr) (n : Int), vs = [.ref w, .int n] ∧ Well H w ∧ 0 < n ∧ n < 1073741824 ∧ ∀ (d : Int) (H' : Hp), 0 ≤ d → d < n → Aft w H H' → Q (.int d) H'
abbrev s_law_cell_at : Stmt := top 19
theorem sc_law_cell_at : FnScope ["script", "k"] ["script", "k"] (defScope s_law_cell_at) := ⟨rfl, rfl, rfl, by decide +kernel, rfl, by decide +kernel, by decide +kernel⟩
abbrev s_law_digit : Stmt := top 20
theorem sc_law_digit : FnScope ["state", "base", "cell", "found", "number"] ["state", "base"] (defScope s_law_digit) := ⟨rfl, rfl, rfl, by decide +kernel, rfl, by decide +kernel, by decide +kernel⟩
theorem Three.ix0 {K : PySem.W.Frag} {w : Addr} {H : Hp} {W : World} {Q : VK} {x y z : Int} (e : H w = some (.lst [.int x, .int y, .int z])) (q : Q (.int x) H) : rIxB K W (.ref w) (.int 0) H Q := .inl (.inl ⟨w, _, 0, _, rfl, rfl, .of e, rfl, q⟩)
theorem Three.ix1 {K : PySem.W.Frag} {w : Addr} {H : Hp} {W : World} {Q : VK} {x y z : Int} (e : H w = some (.lst [.int x, .int y, .int z])) (q : Q (.int y) H) : rIxB K W (.ref w) (.int 1) H Q := .inl (.inl ⟨w, _, 1, _, rfl, rfl, .of e, rfl, q⟩)
theorem Three.ix2 {K : PySem.W.Frag} {w : Addr} {H : Hp} {W : World} {Q : VK} {x y z : Int} (e : H w = some (.lst [.int x, .int y, .int z])) (q : Q (.int z) H) : rIxB K W (.ref w) (.int 2) H Q := .inl (.inl ⟨w, _, 2, _, rfl, rfl, .of e, rfl, q⟩)
section
variable {P : Program} {w : World} {K : PySem.W.Frag} {mg : Str → Option Value} {base : Heap} {CN CT : Addr}
theorem ok_cell_at (A : At K mg "_law_cell_at" s_law_cell_at) (T : Txt K mg w CN CT) : Cal P w K mg base CX0 1 "_law_cell_at" ["script", "k"] (spCell K) := by
  obtain ⟨f, fd, F, m⟩ := A
  refine ⟨f, fd, F.ok sc_law_cell_at (fun vs H Q E h => ?_) (fun cdv A outer s H vs Q E hr h => ?_), F.binds (ps := ["script", "k"]) (fun _ _ _ _ _ _ us hl => match us, hl with | [_, _], _ => rfl), F.kp, m⟩
  · obtain ⟨a, ns, k, rfl, _⟩ := h; rfl
  obtain ⟨a, ns, k, rfl, hS, h0, q⟩ := h
  refine ⟨_, (pss_cons (ps_if (pt_cmpR op_lt (pv 1) (pe_callB call_len (by rfl) T.z_len (by decide +kernel) (pa_cons (pv 0) pa_nil)) (nomark _))
   (pss_one (ps_ret (pe_ix ix_B (pv 0) (pv 1) (fun _ _ => rfl))))
   pss_nil)
  (pss_one (ps_ret pe_int))), ?_⟩
  refine ⟨_, rfl, _, rfl, _, _, rfl, .inl ⟨_, hS, rfl⟩, _, _, rfl, rfl, _, rfl, ?_⟩
  rw [List.length_map]
  refine ite2 (fun c => ?_) (fun c => ?_)
  · have c' : k < (ns.length : Int) := of_decide_eq_true c
    obtain ⟨j, rfl⟩ := Int.eq_ofNat_of_zero_le h0
    have hj : j < ns.length := by omega
    refine ⟨_, rfl, _, rfl, .inl (.inl ⟨a, _, _, .int ns[j], rfl, rfl, hS, atI_nat (by rw [List.getElem?_map, List.getElem?_eq_getElem hj]; rfl), q _⟩)⟩
  · exact q 0
theorem digit_tail {f : Addr} {cdv : Value} {A : Around} {outer : List Env} {s : Shared} {H : Hp} {Q : VK} {E : XK} (T : Txt K mg w CN CT) (hr : Room 0 (A.deeper (envOfC "_law_digit" (defScope s_law_digit) s.heap.objs.size f cdv))) {wl : Addr} {n : Int} (n0 : 0 < n) (n1 : n < 1073741824)
    (q : ∀ (d : Int) (H' : Hp), 0 ≤ d → d < n → Aft wl H H' → Q (.int d) H') :
    ∃ t, PSs (cxOf CX0 P w K mg base ["state", "base", "cell", "found", "number"] "_law_digit" (defScope s_law_digit) f cdv A outer s H E).nox ((defBody s_law_digit).drop 1) t ∧
      ∀ (H0 : Hp) (o : Option V) (x y z : Int), Same (out wl H) (out wl H0) → H0 wl = some (.lst [.int x, .int y, .int z]) → t { nx := fun _ H' => Q .non H', rt := Q } [some (.ref wl), some (.int n), o, none, none] H0 := by
  refine ⟨_, (pss_cons (ps_if (pt_cmpR op_gt (pe_ix ix_B (pv 0) pe_int (fun _ _ => rfl)) pe_int (nomark _))
   (pss_cons (ps_set (i := 3) sc_law_digit.nd rfl (by first | exact Or.inl rfl | exact Or.inr rfl) (pe_op op_mod (pe_ix ix_B (pv 0) pe_int (fun _ _ => rfl)) (pv 1)))
  (pss_cons (ps_asg (pe_op op_fdiv (pe_ix ix_B (pv 0) pe_int (fun _ _ => rfl)) (pv 1)) (pg_sub (pv 0) pe_int set_list))
  (pss_one (ps_ret (pv 3)))))
   pss_nil)
  (pss_cons (ps_asg (pe_op op_addA (pe_ix ix_B (pv 0) pe_int (fun _ _ => rfl)) pe_int) (pg_sub (pv 0) pe_int set_list))
  (pss_cons (ps_set (i := 4) sc_law_digit.nd rfl (by first | exact Or.inl rfl | exact Or.inr rfl) (pe_op op_mod (pe_op op_mulA (pe_op op_addA (pe_op op_addA (pe_ix ix_B (pv 0) pe_int (fun _ _ => rfl)) (pe_op op_mulA pe_int (pe_ix ix_B (pv 0) pe_int (fun _ _ => rfl)))) pe_int) pe_int) pe_int))
  (pss_cons (ps_set (i := 4) sc_law_digit.nd rfl (by first | exact Or.inl rfl | exact Or.inr rfl) (pe_op op_mod (pe_op op_mulA (pv 4) (pe_op op_addA (pe_op op_fdiv (pv 4) pe_int) pe_int)) pe_int))
  (pss_one (ps_ret (pe_op op_mod (pe_op op_mod (pe_op op_mulA (pv 4) (pe_op op_addA (pe_op op_fdiv (pv 4) pe_int) pe_int)) pe_int) (pv 1)))))))), fun H0 o x y z sm e => ?_⟩
  refine ⟨_, rfl, Three.ix0 e ⟨_, _, rfl, rfl, _, rfl, ?_⟩⟩
  refine ite2 (fun c => ?_) (fun c => ?_)
  · refine ⟨_, rfl, Three.ix0 e ⟨_, rfl, _, _, rfl, rfl, n0, ?_⟩⟩
    refine ⟨_, rfl, Three.ix0 e ⟨_, rfl, _, _, rfl, rfl, ⟨n0, n1⟩, _, rfl, wl, _, 0, 0, rfl, rfl, e, rfl, ?_⟩⟩
    refine ⟨_, rfl, q _ _ (Int.emod_nonneg _ (by omega)) (Int.emod_lt_of_pos _ n0) ⟨⟨_, upd_same, .inr ⟨_, _, _, rfl⟩⟩, sm.trans (out_set _)⟩⟩
  · refine ⟨_, rfl, Three.ix2 e (.inl ⟨_, _, rfl, rfl, _, rfl, wl, _, 2, 2, rfl, rfl, e, rfl, ?_⟩)⟩
    have e1 : upd H0 wl (.lst ([V.int x, V.int y, V.int z].set 2 (.int (z + 1)))) wl = some (.lst [.int x, .int y, .int (z + 1)]) := upd_same
    refine ⟨_, rfl, Three.ix1 e1 ⟨_, rfl, Three.ix2 e1 (.inl ⟨_, _, rfl, rfl, .inl (by decide), .inl ⟨_, _, rfl, rfl, .inl ⟨_, _, rfl, rfl, .inl ⟨_, _, rfl, rfl, .inr (by decide), _, _, rfl, rfl, (by show (0 : Int) < 2147483647; decide), ?_⟩⟩⟩⟩)⟩⟩
    generalize hM : ((y + 7919 * (z + 1) + 1) * 48271) % 2147483647 = M
    have m0 : 0 ≤ M := by rw [← hM]; exact Int.emod_nonneg _ (by decide)
    have m1 : M < 2147483647 := by rw [← hM]; exact Int.emod_lt_of_pos _ (by decide)
    refine ⟨_, rfl, _, rfl, _, _, rfl, rfl, ⟨by decide, by decide⟩, .inl ⟨_, _, rfl, rfl, .inl ⟨_, _, rfl, rfl, .inl ⟨by omega, by omega⟩, _, _, rfl, rfl, (by show (0 : Int) < 2147483647; decide), ?_⟩⟩⟩
    generalize hN : M * (M / 1009 + 69621) % 2147483647 = N
    have k0 : 0 ≤ N := by rw [← hN]; exact Int.emod_nonneg _ (by decide)
    have k1 : N < 2147483647 := by rw [← hN]; exact Int.emod_lt_of_pos _ (by decide)
    refine ⟨_, rfl, _, rfl, _, _, rfl, rfl, ⟨by decide, by decide⟩, .inl ⟨_, _, rfl, rfl, .inl ⟨_, _, rfl, rfl, .inl ⟨by omega, by omega⟩, _, _, rfl, rfl, (by show (0 : Int) < 2147483399; decide), _, rfl, _, _, rfl, rfl, n0, ?_⟩⟩⟩
    exact q _ _ (Int.emod_nonneg _ (by omega)) (Int.emod_lt_of_pos _ n0) ⟨⟨_, e1, .inr ⟨_, _, _, rfl⟩⟩, sm.trans (out_set _)⟩
theorem ok_digit (A : At K mg "_law_digit" s_law_digit) (T : Txt K mg w CN CT) : Cal P w K mg base CX0 1 "_law_digit" ["state", "base"] spDigit := by
  obtain ⟨f, fd, F, m⟩ := A
  refine ⟨f, fd, F.ok sc_law_digit (fun vs H Q E h => ?_) (fun cdv A outer s H vs Q E hr h => ?_), F.binds (ps := ["state", "base"]) (fun _ _ _ _ _ _ us hl => match us, hl with | [_, _], _ => rfl), F.kp, m⟩
  · obtain ⟨w, n, rfl, _⟩ := h; rfl
  obtain ⟨wl, n, rfl, ⟨xs, e, hx⟩, n0, n1, q⟩ := h
  obtain ⟨tt, tp, tr⟩ := digit_tail (P := P) (base := base) (f := f) (cdv := cdv) (A := A) (outer := outer) (s := s) (H := H) (Q := Q) (E := E) T hr n0 n1 q
  refine ⟨_, (pss_cons (ps_if (pt_cmpR (op_eqA (room200 hr)) (pe_callB call_len (by rfl) T.z_len (by decide +kernel) (pa_cons (pv 0) pa_nil)) pe_int (nomark _))
   (pss_cons (ps_set (i := 2) sc_law_digit.nd rfl (by first | exact Or.inl rfl | exact Or.inr rfl) (pe_ix ix_B (pv 0) pe_int (fun _ _ => rfl)))
  (pss_cons (ps_asg (pe_ix ix_B (pe_lst (pa_cons pe_int (pa_cons (pv 2) pa_nil))) (pe_callTy call_int1 (by rfl) T.z_int (by decide +kernel) (pa_cons (pe_cmpR op_ge (pv 2) (pe_op op_pow pe_int pe_int) (nomark _)) pa_nil)) (fun _ _ => rfl)) (pg_sub (pv 0) pe_int set_list))
  (pss_one (ps_expr (pe_bm PySem.F.plainAttrs_list PySem.F.slot_list_extend PySem.F.type_list_extend mt_extend (pv 0) (pa_cons (pe_lst (pa_cons (pe_op op_mod (pv 2) pe_int) (pa_cons pe_int pa_nil))) pa_nil))))))
   pss_nil)
  tp), ?_⟩
  rcases hx with ⟨c, rfl⟩ | ⟨x, y, z, rfl⟩
  · refine ⟨_, rfl, _, _, rfl, .inl ⟨_, .of e, rfl⟩, .inl ⟨rfl, _, rfl, iteT' (decide_eq_true rfl) ?_⟩⟩
    refine ⟨_, rfl, .inl (.inl ⟨wl, _, 0, _, rfl, rfl, .of e, rfl, ?_⟩)⟩
    have pick : ∀ b : Bool, ∃ v : Int, atI [V.int 0, V.int c] (if b = true then 1 else 0) = some (.int v) := fun b => by cases b; exact ⟨0, rfl⟩; exact ⟨c, rfl⟩
    refine ⟨_, rfl, (by show 2 ≤ sizeLine; decide), fun l hl => ?_⟩
    have nlw : wl ≠ l := ne_of_none e hl
    have e2 := (upd_ne (o := .lst [.int 0, .int c]) nlw).trans e
    refine ⟨_, rfl, _, _, rfl, rfl, ⟨by decide, by decide, by decide⟩, _, _, rfl, rfl, .inr ⟨_, rfl, ?_⟩⟩
    refine .inl (.inl ⟨l, _, _, _, rfl, rfl, .of upd_same, (pick _).choose_spec, ?_⟩)
    generalize (pick _).choose = v0
    refine ⟨_, rfl, wl, _, 0, 0, rfl, rfl, e2, rfl, ?_⟩
    have s2 : Same (out wl H) (out wl (upd (upd H l (.lst [.int 0, .int c])) wl (.lst ([V.int c].set 0 (.int v0))))) := (out_new hl _).trans (out_set _)
    have e3 : upd (upd H l (.lst [.int 0, .int c])) wl (.lst ([V.int c].set 0 (.int v0))) wl = some (.lst [.int v0]) := upd_same
    generalize upd (upd H l (.lst [.int 0, .int c])) wl (.lst ([V.int c].set 0 (.int v0))) = H2 at s2 e3 ⊢
    refine ⟨_, rfl, .inl ⟨rfl, _, .of e3⟩, _, rfl, _, _, rfl, rfl, (by show (0 : Int) < 2147483647; decide), (by show 2 ≤ sizeLine; decide), fun l2 hl2 => ?_⟩
    have nl2 : wl ≠ l2 := ne_of_none e3 hl2
    refine ⟨wl, l2, _, _, rfl, rfl, (upd_ne nl2).trans e3, upd_same, (by show 3 ≤ sizeLine; decide), ?_⟩
    exact tr _ _ _ _ _ (s2.trans ((out_new hl2 _).trans (out_set _))) upd_same
  · refine ⟨_, rfl, _, _, rfl, .inl ⟨_, .of e, rfl⟩, .inl ⟨rfl, _, rfl, iteF' (decide_eq_false (by intro z; cases z)) ?_⟩⟩
    exact tr H none x y z (Same.refl _) e
end

/-! ## _factors -/
theorem sameU {H H' : Hp} {l : Addr} {o : HO} (hl : H l = none) (s : Same H H') : Same H (upd H' l o) := fun b u e => by rw [upd_ne (ne_of_none e hl)]; exact s b u e
theorem dq_tup {K : PySem.W.Frag} {H : Hp} {v : V} {d : PyData} (h : Dq K H v d) (t : tyN d = "tuple") : ∃ a xs ds, v = .ref a ∧ d = .tuple ds ∧ SqT K H a xs ∧ DqAll K H xs ds := by
  cases h with
  | tup hS hA => exact ⟨_, _, _, rfl, rfl, hS, hA⟩
  | _ => simp [tyN] at t
theorem dqa_split {K : PySem.W.Frag} {H : Hp} {xs : List V} {ds : List PyData} (h : DqAll K H xs ds) : (xs = [] ∧ ds = []) ∨ ∃ v vs d r, xs = v :: vs ∧ ds = d :: r ∧ Dq K H v d ∧ DqAll K H vs r := by
  cases h with
  | nil => exact .inl ⟨rfl, rfl⟩
  | cons a b => exact .inr ⟨_, _, _, _, rfl, rfl, a, b⟩
def spFac (K : PySem.W.Frag) (N : Nat) : Sp := fun vs H Q _ => ∃ (v : V) (k : Kd), vs = [v] ∧ Dq K H v k.dat ∧ k.ok ∧ k.rk < N ∧ k.rk ≤ 80 ∧ k.leaves ≤ 5000 ∧
  ∀ (ys : List V) (p : Addr) (H' : Hp), H p = none → H' p = some (.lst ys) → DqAll K (out p H') ys (Fc.dats k.form) → Same H (out p H') → Q (.ref p) H'
abbrev s_factors : Stmt := top 13
theorem sc_factors : FnScope ["kind", "found", "left", "wants", "part", "more"] ["kind"] (defScope s_factors) := ⟨rfl, rfl, rfl, by decide +kernel, rfl, by decide +kernel, by decide +kernel⟩
def sd (e : List Fc × Kd) : PyData := .tuple [.tuple (Fc.dats e.1), e.2.dat]
def sumZ (S : List (List Fc × Kd)) : Nat := (S.map fun e => sz e.2.dat).sum
def sumL (S : List (List Fc × Kd)) : Nat := (S.map fun e => e.2.leaves).sum
def allF (S : List (List Fc × Kd)) : List Fc := S.flatMap fun e => e.2.fac e.1
theorem sd_pure (S : List (List Fc × Kd)) : pureTs (S.map sd) = true := by
  induction S with
  | nil => rfl
  | cons e r ih => simp [sd, pureT, pureTs, Fc.pure_dats, e.2.pure, ih]
theorem keepP {K : PySem.W.Frag} {H : Hp} {l : Addr} {us us2 vs : List V} {ds : List PyData} (e : H l = some (.lst us)) (p : pureTs ds = true) (h : DqAll K H vs ds) : DqAll K (upd H l (.lst us2)) vs ds := (DqAll.outp e p h).same out_upd
theorem keepD {K : PySem.W.Frag} {H : Hp} {l : Addr} {us us2 : List V} {v : V} {d : PyData} (e : H l = some (.lst us)) (p : pureT d = true) (h : Dq K H v d) : Dq K (upd H l (.lst us2)) v d := (Dq.outp e p h).same out_upd
/-- what holds between two turns -/
def FcW (K : PySem.W.Frag) (H : Hp) (v : V) (k0 : Kd) (n : Nat) (σ : L2.St) (H' : Hp) : Prop :=
  ∃ (lf ll : Addr) (fs us : List V) (F : List Fc) (S : List (List Fc × Kd)) (o3 o4 o5 : Option V), σ = [some v, some (.ref lf), some (.ref ll), o3, o4, o5] ∧ lf ≠ ll ∧ H lf = none ∧ H ll = none ∧ H' lf = some (.lst fs) ∧ H' ll = some (.lst us) ∧ DqAll K H' fs (Fc.dats F) ∧ DqAll K H' us (S.map sd) ∧
    n = sumZ S ∧ (F ++ allF S).Perm (k0.fac []) ∧ (∀ e ∈ S, e.2.ok ∧ e.2.rk ≤ k0.rk ∧ PyData.depthAll (Fc.dats e.1) ≤ 2 * k0.rk ∧ e.1.length + e.2.leaves ≤ k0.leaves) ∧ F.length + sumL S ≤ k0.leaves ∧ Same H H'
section
variable {P : Program} {w : World} {K : PySem.W.Frag} {mg : Str → Option Value} {base : Heap} {CN CT : Addr}
theorem ok_factors1 {N : Nat} (A : At K mg "_factors" s_factors) (T : Txt K mg w CN CT) (C_factors : Cal P w K mg base CX0 N "_factors" ["kind"] (spFac K N)) : Cal P w K mg base CX0 (N + 1) "_factors" ["kind"] (spFac K (N + 1)) := by
  obtain ⟨f, fd, F, m⟩ := A
  refine ⟨f, fd, F.ok sc_factors (fun vs H Q E h => ?_) (fun cdv A outer s H vs Q E hr h => ?_), F.binds (ps := ["kind"]) (fun _ _ _ _ _ _ us hl => match us, hl with | [_], _ => rfl), F.kp, m⟩
  · obtain ⟨v, k, rfl, _⟩ := h; rfl
  obtain ⟨v, k0, rfl, hd, ok, hrk, hr80, hlv, q⟩ := h
  refine ⟨_, (pss_cons (ps_set (i := 1) sc_factors.nd rfl (by first | exact Or.inl rfl | exact Or.inr rfl) (pe_lst pa_nil))
  (pss_cons (ps_set (i := 2) sc_factors.nd rfl (by first | exact Or.inl rfl | exact Or.inr rfl) (pe_lst (pa_cons (pe_tup (pa_cons (pe_tup pa_nil) (pa_cons (pv 0) pa_nil))) pa_nil)))
  (pss_cons (ps_while PassesOwn.never (pt_truth (pv 2) (by intro _; rfl))
   (pss_cons (ps_asg (pe_bm0 PySem.F.plainAttrs_list PySem.F.slot_list_pop PySem.F.type_list_pop mt_pop (pv 2) ) (pg_tup (by rfl) (pgs_cons (pg_name (i := 3) sc_factors.nd rfl (by first | exact Or.inl rfl | exact Or.inr rfl)) (pgs_cons (pg_name (i := 4) sc_factors.nd rfl (by first | exact Or.inl rfl | exact Or.inr rfl)) pgs_nil))))
  (pss_one (ps_if (pt_cmpR (op_eqA (room200 hr)) (pe_ix ix_B (pv 4) pe_int (fun _ _ => rfl)) pe_str (nomark _))
   (pss_one (ps_expr (pe_bm PySem.F.plainAttrs_list PySem.F.slot_list_append PySem.F.type_list_append mt_append (pv 1) (pa_cons (pe_tup (pa_cons (pv 3) (pa_cons (pe_ix ix_B (pv 4) pe_int (fun _ _ => rfl)) pa_nil))) pa_nil))))
   (pss_one (ps_if (pt_cmpR (op_eqA (room200 hr)) (pe_ix ix_B (pv 4) pe_int (fun _ _ => rfl)) pe_str (nomark _))
   (pss_cons (ps_expr (pe_bm PySem.F.plainAttrs_list PySem.F.slot_list_append PySem.F.type_list_append mt_append (pv 2) (pa_cons (pe_tup (pa_cons (pv 3) (pa_cons (pe_ix ix_B (pv 4) pe_int (fun _ _ => rfl)) pa_nil))) pa_nil)))
  (pss_one (ps_expr (pe_bm PySem.F.plainAttrs_list PySem.F.slot_list_append PySem.F.type_list_append mt_append (pv 2) (pa_cons (pe_tup (pa_cons (pv 3) (pa_cons (pe_ix ix_B (pv 4) pe_int (fun _ _ => rfl)) pa_nil))) pa_nil)))))
   (pss_one (ps_if (pt_cmpR (op_eqA (room200 hr)) (pe_ix ix_B (pv 4) pe_int (fun _ _ => rfl)) pe_str (nomark _))
   (pss_cons (ps_set (i := 5) sc_factors.nd rfl (by first | exact Or.inl rfl | exact Or.inr rfl) (pe_callB (call_sortF (room200 hr)) (by rfl) T.z_sorted (by decide +kernel) (pa_cons (pe_op op_addA (pe_callTy call_list_of (by rfl) T.z_list (by decide +kernel) (pa_cons (pv 3) pa_nil)) (pe_calC C_factors (hr.mono (by first | decide | omega)) pass0 (pa_cons (pe_ix ix_B (pv 4) pe_int (fun _ _ => rfl)) pa_nil))) pa_nil)))
  (pss_one (ps_expr (pe_bm PySem.F.plainAttrs_list PySem.F.slot_list_append PySem.F.type_list_append mt_append (pv 2) (pa_cons (pe_tup (pa_cons (pe_callTy call_tuple_of (by rfl) T.z_tuple (by decide +kernel) (pa_cons (pv 5) pa_nil)) (pa_cons (pe_ix ix_B (pv 4) pe_int (fun _ _ => rfl)) pa_nil))) pa_nil)))))
   pss_nil))))))))
  (pss_one (ps_ret (pe_callB (call_sortF (room200 hr)) (by rfl) T.z_sorted (by decide +kernel) (pa_cons (pv 1) pa_nil))))))), ?_⟩
  refine ⟨Nat.zero_le _, fun lf h1 => ?_⟩
  refine ⟨(by show 0 ≤ sizeLine; decide), fun t0 h2 => ?_⟩
  refine ⟨_, rfl, (by show 2 ≤ sizeLine; decide), fun t1 h3 => ⟨(by show 1 ≤ sizeLine; decide), fun ll h4 => ?_⟩⟩
  have s1 : Same H (upd H lf (.lst [])) := same_new h1 _
  have s2 := s1.trans (same_new h2 (.tup []))
  have s3 := s2.trans (same_new h3 (.tup [.ref t0, v]))
  have s4 := s3.trans (same_new h4 (.lst [.ref t1]))
  have e0 : upd (upd H lf (.lst [])) t0 (.tup []) t0 = some (.tup []) := upd_same
  have e0 := (same_new h4 (.lst [.ref t1])) _ _ ((same_new h3 (.tup [.ref t0, v])) _ _ e0)
  have e1 := (same_new h4 (.lst [.ref t1])) _ _ (upd_same (H := upd (upd H lf (.lst [])) t0 (.tup [])) (a := t1) (o := .tup [.ref t0, v]))
  have ef := (same_new h4 (.lst [.ref t1])) _ _ ((same_new h3 (.tup [.ref t0, v])) _ _ ((same_new h2 (.tup [])) _ _ (upd_same (H := H) (a := lf) (o := .lst []))))
  have nfl : lf ≠ ll := ne_of_none ((same_new h3 (.tup [.ref t0, v])) _ _ ((same_new h2 (.tup [])) _ _ (upd_same (H := H) (a := lf) (o := .lst [])))) h4
  have hll : H ll = none := by
    cases z : H ll with
    | none => rfl
    | some u => rw [s3 _ _ z] at h4; cases h4
  refine ⟨FcW K H v k0, ⟨sz k0.dat, lf, ll, [], [.ref t1], [], [([], k0)], none, none, none, rfl, nfl, h1, hll, ef, upd_same, .nil, .cons (.tup (.of e1) (.cons (.tup (.of e0) .nil) (.cons (hd.same s4) .nil))) .nil, by simp [sumZ], by simp [allF], by simpa [PyData.depthAll, Fc.dats] using ok, by simp [sumL], s4⟩, ?_⟩
  rintro n σ H1 ⟨lf, ll, fs, us, G, S, o3, o4, o5, rfl, nfl, hlf, hll, e1, e2, df, du, rfl, hp, hS, hlen, sm⟩
  refine ⟨_, rfl, _, .inl ⟨us, .of e2, rfl⟩, ?_⟩
  have hus := du.length
  rcases List.eq_nil_or_concat S with hs | ⟨S', e, hs⟩
  · subst hs
    cases du
    refine iteF' rfl ?_
    have hp' : G.Perm (k0.fac []) := by simpa [allF] using hp
    have hdep : PyData.depthAll (Fc.dats G) ≤ 180 := by
      have := k0.fac_depth []
      rw [Fc.depth_perm hp']
      simp only [Fc.dats, PyData.depthAll] at this
      omega
    refine ⟨_, rfl, lf, fs, G, rfl, .of e1, df, hdep, fun ys p hy hpn => ?_⟩
    have hHp : H p = none := by
      cases z : H p with
      | none => rfl
      | some u => rw [sm _ _ z] at hpn; cases hpn
    have s5 : Same H1 (out p (upd H1 p (.lst ys))) := same_keepO' hpn
    refine q ys p _ hHp upd_same ?_ (sm.trans s5)
    rw [Fc.srt_congr hp'] at hy
    exact hy.same s5
  rw [List.concat_eq_append] at hs
  subst hs
  obtain ⟨W, k⟩ := e
  have em : (S' ++ [(W, k)]).map sd = S'.map sd ++ [sd (W, k)] := by simp
  rw [em] at du
  obtain ⟨us', y, rfl, du1, hy⟩ := du.last
  obtain ⟨okk, rkk, dW, lW⟩ := hS (W, k) (by simp)
  have hS' : ∀ e ∈ S', e.2.ok ∧ e.2.rk ≤ k0.rk ∧ PyData.depthAll (Fc.dats e.1) ≤ 2 * k0.rk ∧ e.1.length + e.2.leaves ≤ k0.leaves := fun e he => hS e (List.mem_append.mpr (.inl he))
  refine iteT' (by simp) ⟨_, fun _ _ z => z, ?_⟩
  refine ⟨_, rfl, .inl ⟨rfl, _, .of e2⟩, ll, us' ++ [y], y, rfl, rfl, e2, last_at us' y, ?_⟩
  rw [dl_append]
  have df := keepP (us2 := us') e2 (Fc.pure_dats G) df
  have du1 := keepP (us2 := us') e2 (sd_pure S') du1
  have hy := keepD (us2 := us') e2 (by have := sd_pure [(W, k)]; simpa [pureTs] using this) hy
  have e1 := (upd_ne (o := .lst us') nfl).trans e1
  have sm := sameU (o := .lst us') hll sm
  have e2n : upd H1 ll (.lst us') ll = some (.lst us') := upd_same
  generalize upd H1 ll (.lst us') = H2 at df du1 hy e1 sm e2n ⊢
  obtain ⟨ya, xs, ds, rfl, ed, hSy, hA⟩ := dq_tup hy rfl
  have ed' : ds = [.tuple (Fc.dats W), k.dat] := by have := PyData.tuple.inj ed; exact this.symm
  subst ed'
  rcases dqa_split hA with ⟨_, z⟩ | ⟨wv, xs1, d1, r1, rfl, z, gw, g1⟩
  · cases z
  cases z
  rcases dqa_split g1 with ⟨_, z⟩ | ⟨pv, xs2, d2, r2, rfl, z, gp, g2⟩
  · cases z
  cases z
  cases g2
  refine ⟨ya, _, rfl, hSy, rfl, _, _, rfl, _, _, rfl, rfl, ?_⟩
  have aF : ∀ X Y : List (List Fc × Kd), allF (X ++ Y) = allF X ++ allF Y := fun X Y => List.flatMap_append
  have zS : ∀ X Y : List (List Fc × Kd), sumZ (X ++ Y) = sumZ X + sumZ Y := fun X Y => by simp [sumZ]
  have lS : ∀ X Y : List (List Fc × Kd), sumL (X ++ Y) = sumL X + sumL Y := fun X Y => by simp [sumL]
  have hp2 : (G ++ k.fac W ++ allF S').Perm (k0.fac []) := by
    refine List.Perm.trans ?_ hp
    rw [aF, List.append_assoc]
    exact (List.perm_append_comm.trans (.of_eq (by simp [allF]))).append_left G
  have hl2 : G.length + sumL S' + k.leaves ≤ k0.leaves := by rw [lS] at hlen; simp [sumL] at hlen ⊢; omega
  have hz2 : sumZ (S' ++ [(W, k)]) = sumZ S' + sz k.dat := by rw [zS]; simp [sumZ]
  rw [hz2]
  have hfl := df.length
  rw [Fc.dats_length] at hfl
  have hul := du1.length
  rw [List.length_map] at hul
  have sl : ∀ X : List (List Fc × Kd), X.length ≤ sumL X := fun X => by
    induction X with
    | nil => simp
    | cons e r ih => have := e.2.leaves_pos; simp [sumL] at ih ⊢; omega
  have sl' := sl S'
  obtain ⟨pa, pxs, pds, rfl, ek, hSp, hAp⟩ := dq_tup gp k.ty
  cases k with
  | b n =>
    have ek' : pds = [.str "base", .int n] := by have := PyData.tuple.inj ek; exact this.symm
    subst ek'
    rcases dqa_split hAp with ⟨_, z⟩ | ⟨x1, xs1, d1, r1, rfl, z, h1, h2⟩
    · cases z
    cases z
    cases h1
    rcases dqa_split h2 with ⟨_, z⟩ | ⟨x2, xs2, d2, r2, rfl, z, h3, h4⟩
    · cases z
    cases z
    cases h3
    cases h4
    refine ⟨_, rfl, .inl (.inr (.inl ⟨pa, _, 0, _, rfl, rfl, hSp, at0 _ _, .inl ⟨rfl, _, rfl, iteT' (decide_eq_true rfl) ?_⟩⟩))⟩
    refine ⟨_, rfl, .inl ⟨rfl, _, .of e1⟩, _, rfl, _, rfl, .inl (.inr (.inl ⟨pa, _, 1, _, rfl, rfl, hSp, at1 _ _ _, (by show 2 ≤ sizeLine; decide), fun t ht => ⟨lf, fs, _, rfl, rfl, (upd_ne (ne_of_none e1 ht)).trans e1, fits_lt (by omega), ?_⟩⟩))⟩
    have st := same_new ht (.tup [wv, .int n])
    have e1t := st _ _ e1
    have et : upd H2 t (.tup [wv, .int n]) t = some (.tup [wv, .int n]) := upd_same
    have dt : Dq K (upd H2 t (.tup [wv, .int n])) (.ref t) (Fc.dat (.mk W n)) := by rw [Fc.dat]; exact .tup (.of et) (.cons (gw.same st) (.cons (.int _) .nil))
    have dfa : DqAll K (upd H2 t (.tup [wv, .int n])) (fs ++ [.ref t]) (Fc.dats (G ++ [.mk W n])) := by rw [Fc.dats_append]; exact (df.same st).append (.cons dt .nil)
    refine ⟨sumZ S', by have := sz_pos (Kd.b n).dat; omega, lf, ll, fs ++ [.ref t], us', G ++ [.mk W n], S', _, _, _, rfl, nfl, hlf, hll, upd_same, by rw [upd_ne nfl.symm]; exact st _ _ e2n, keepP e1t (Fc.pure_dats _) dfa, keepP e1t (sd_pure S') (du1.same st), rfl, hp2, hS', by simp only [List.length_append, List.length_cons, List.length_nil, Kd.leaves] at hl2 ⊢; omega, sameU hlf (sm.trans st)⟩
  | u =>
    have ek' : pds = [.str "unit"] := by have := PyData.tuple.inj ek; exact this.symm
    subst ek'
    rcases dqa_split hAp with ⟨_, z⟩ | ⟨x1, xs1, d1, r1, rfl, z, h1, h2⟩
    · cases z
    cases z
    cases h1
    cases h2
    refine ⟨_, rfl, .inl (.inr (.inl ⟨pa, _, 0, _, rfl, rfl, hSp, at0 _ _, .inl ⟨rfl, _, rfl, iteF' (by decide) ?_⟩⟩))⟩
    refine ⟨_, rfl, .inl (.inr (.inl ⟨pa, _, 0, _, rfl, rfl, hSp, at0 _ _, .inl ⟨rfl, _, rfl, iteF' (by decide) ?_⟩⟩))⟩
    refine ⟨_, rfl, .inl (.inr (.inl ⟨pa, _, 0, _, rfl, rfl, hSp, at0 _ _, .inl ⟨rfl, _, rfl, iteF' (by decide) ?_⟩⟩))⟩
    exact ⟨sumZ S', by have := sz_pos Kd.u.dat; omega, lf, ll, fs, us', G, S', _, _, _, rfl, nfl, hlf, hll, e1, e2n, df, du1, rfl, by simpa [Kd.fac] using hp2, hS', by simp only [Kd.leaves] at hl2; omega, sm⟩
  | p x y =>
    have ek' : pds = [.str "both", x.dat, y.dat] := by have := PyData.tuple.inj ek; exact this.symm
    subst ek'
    rcases dqa_split hAp with ⟨_, z⟩ | ⟨x1, xs1, d1, r1, rfl, z, h1, h2⟩
    · cases z
    cases z
    cases h1
    rcases dqa_split h2 with ⟨_, z⟩ | ⟨x2, xs2, d2, r2, rfl, z, h3, h4⟩
    · cases z
    cases z
    rcases dqa_split h4 with ⟨_, z⟩ | ⟨x3, xs3, d3, r3, rfl, z, h5, h6⟩
    · cases z
    cases z
    cases h6
    refine ⟨_, rfl, .inl (.inr (.inl ⟨pa, _, 0, _, rfl, rfl, hSp, at0 _ _, .inl ⟨rfl, _, rfl, iteF' (by decide) ?_⟩⟩))⟩
    refine ⟨_, rfl, .inl (.inr (.inl ⟨pa, _, 0, _, rfl, rfl, hSp, at0 _ _, .inl ⟨rfl, _, rfl, iteT' (decide_eq_true rfl) ?_⟩⟩))⟩
    refine ⟨_, rfl, .inl ⟨rfl, _, .of e2n⟩, _, rfl, _, rfl, .inl (.inr (.inl ⟨pa, _, 1, _, rfl, rfl, hSp, at1 _ _ _, (by show 2 ≤ sizeLine; decide), fun t ht => ⟨ll, us', _, rfl, rfl, (upd_ne (ne_of_none e2n ht)).trans e2n, fits_lt (by omega), ?_⟩⟩))⟩
    have st := same_new ht (.tup [wv, x2])
    have e2t := st _ _ e2n
    have et : upd H2 t (.tup [wv, x2]) t = some (.tup [wv, x2]) := upd_same
    have dt : Dq K (upd H2 t (.tup [wv, x2])) (.ref t) (sd (W, x)) := .tup (.of et) (.cons (gw.same st) (.cons (h3.same st) .nil))
    have dua : DqAll K (upd H2 t (.tup [wv, x2])) (us' ++ [.ref t]) ((S' ++ [(W, x)]).map sd) := by rw [List.map_append]; exact (du1.same st).append (.cons dt .nil)
    have pw : pureTs [.tuple (Fc.dats W), x.dat, y.dat] = true := by simp [pureTs, pureT, Fc.pure_dats, x.pure, y.pure]
    have trio : DqAll K H2 [wv, x2, x3] [.tuple (Fc.dats W), x.dat, y.dat] := .cons gw (.cons h3 (.cons h5 .nil))
    have hSp2 := SqT.outp e2t (KB.Same.tup st hSp)
    have trio2 := keepP (us2 := us' ++ [.ref t]) e2t pw (trio.same st)
    have df2 := keepP (us2 := us' ++ [.ref t]) e2t (Fc.pure_dats G) (df.same st)
    have du2 := keepP (us2 := us' ++ [.ref t]) e2t (sd_pure _) dua
    have e12 : upd (upd H2 t (.tup [wv, x2])) ll (.lst (us' ++ [.ref t])) lf = some (.lst fs) := by rw [upd_ne nfl]; exact st _ _ e1
    have sm2 := sameU (o := .lst (us' ++ [.ref t])) hll (sm.trans st)
    have hSp3 : SqT K (upd (upd H2 t (.tup [wv, x2])) ll (.lst (us' ++ [.ref t]))) pa _ := KB.Same.tup out_upd hSp2
    have e22 : upd (upd H2 t (.tup [wv, x2])) ll (.lst (us' ++ [.ref t])) ll = some (.lst (us' ++ [.ref t])) := upd_same
    generalize upd (upd H2 t (.tup [wv, x2])) ll (.lst (us' ++ [.ref t])) = H3 at trio2 df2 du2 e12 sm2 hSp3 e22 ⊢
    cases trio2 with
    | cons gw2 t2 => cases t2 with
    | cons g3 t3 => cases t3 with
    | cons g5 _ =>
    refine ⟨_, rfl, .inl ⟨rfl, _, .of e22⟩, _, rfl, _, rfl, .inl (.inr (.inl ⟨pa, _, 2, _, rfl, rfl, hSp3, at2 _ _ _ _, (by show 2 ≤ sizeLine; decide), fun u hu => ⟨ll, _, _, rfl, rfl, (upd_ne (ne_of_none e22 hu)).trans e22, fits_lt (by simp only [List.length_append, List.length_cons, List.length_nil]; omega), ?_⟩⟩))⟩
    have su := same_new hu (.tup [wv, x3])
    have e2u := su _ _ e22
    have eu : upd H3 u (.tup [wv, x3]) u = some (.tup [wv, x3]) := upd_same
    have dub : DqAll K (upd H3 u (.tup [wv, x3])) (us' ++ [.ref t] ++ [.ref u]) ((S' ++ [(W, x)] ++ [(W, y)]).map sd) := by
      rw [List.map_append]
      exact (du2.same su).append (.cons (.tup (.of eu) (.cons (gw2.same su) (.cons (g5.same su) .nil))) .nil)
    have zk : sz (Kd.p x y).dat = 2 + (sz x.dat + sz y.dat) := by simp only [Kd.dat, sz, szs]; omega
    refine ⟨sumZ (S' ++ [(W, x)] ++ [(W, y)]), by rw [zS, zS, zk]; simp only [sumZ, List.map_cons, List.map_nil, List.sum_cons, List.sum_nil]; omega, lf, ll, fs, _, G, S' ++ [(W, x)] ++ [(W, y)], _, _, _, rfl, nfl, hlf, hll, by rw [upd_ne nfl]; exact su _ _ e12, upd_same, keepP e2u (Fc.pure_dats G) (df2.same su), keepP e2u (sd_pure _) dub, rfl, ?_, ?_, ?_, sameU hll (sm2.trans su)⟩
    · refine List.Perm.trans ?_ hp2
      rw [aF, aF, List.append_assoc (allF S'), List.append_assoc G]
      refine (List.perm_append_comm.trans (.of_eq ?_)).append_left G
      simp [allF, Kd.fac]
    · intro e he
      rcases List.mem_append.mp he with he | he
      · rcases List.mem_append.mp he with he | he
        · exact hS' e he
        · rw [List.mem_singleton.mp he]
          exact ⟨okk.1, by have := rkk; simp only [Kd.rk] at this ⊢; omega, dW, by simp only [Kd.leaves] at lW; show W.length + x.leaves ≤ _; omega⟩
      · rw [List.mem_singleton.mp he]
        exact ⟨okk.2, by have := rkk; simp only [Kd.rk] at this ⊢; omega, dW, by simp only [Kd.leaves] at lW; show W.length + y.leaves ≤ _; omega⟩
    · rw [lS, lS]
      simp only [sumL, List.map_cons, List.map_nil, List.sum_cons, List.sum_nil, Kd.leaves] at hl2 ⊢
      omega
  | f x y =>
    have ek' : pds = [.str "from", x.dat, y.dat] := by have := PyData.tuple.inj ek; exact this.symm
    subst ek'
    rcases dqa_split hAp with ⟨_, z⟩ | ⟨x1, xs1, d1, r1, rfl, z, h1, h2⟩
    · cases z
    cases z
    cases h1
    rcases dqa_split h2 with ⟨_, z⟩ | ⟨x2, xs2, d2, r2, rfl, z, h3, h4⟩
    · cases z
    cases z
    rcases dqa_split h4 with ⟨_, z⟩ | ⟨x3, xs3, d3, r3, rfl, z, h5, h6⟩
    · cases z
    cases z
    cases h6
    obtain ⟨wa, wxs, wds, rfl, ew, hSw, hAw⟩ := dq_tup gw rfl
    have ew' : wds = Fc.dats W := (PyData.tuple.inj ew).symm
    subst ew'
    have rk2 : x.rk + 1 ≤ k0.rk ∧ y.rk ≤ k0.rk := by simp only [Kd.rk] at rkk; omega
    have lv2 : W.length + (x.leaves + y.leaves) ≤ k0.leaves := by simpa only [Kd.leaves] using lW
    refine ⟨_, rfl, .inl (.inr (.inl ⟨pa, _, 0, _, rfl, rfl, hSp, at0 _ _, .inl ⟨rfl, _, rfl, iteF' (by decide) ?_⟩⟩))⟩
    refine ⟨_, rfl, .inl (.inr (.inl ⟨pa, _, 0, _, rfl, rfl, hSp, at0 _ _, .inl ⟨rfl, _, rfl, iteF' (by decide) ?_⟩⟩))⟩
    refine ⟨_, rfl, .inl (.inr (.inl ⟨pa, _, 0, _, rfl, rfl, hSp, at0 _ _, .inl ⟨rfl, _, rfl, iteT' (decide_eq_true rfl) ?_⟩⟩))⟩
    refine ⟨_, rfl, wa, wxs, rfl, .inr hSw, fun c1 hc1 => ?_⟩
    have t3 := same_new hc1 (.lst wxs)
    refine ⟨_, rfl, .inl (.inr (.inl ⟨pa, _, 1, _, rfl, rfl, KB.Same.tup t3 hSp, at1 _ _ _, ?_⟩))⟩
    refine ⟨x2, x, rfl, h3.same t3, okk.1, by omega, by omega, by omega, fun ys p H4 hpn hp4 dys smp => ?_⟩
    have t4 := t3.trans (of_out smp)
    have ec1 : H4 c1 = some (.lst wxs) := (of_out smp) _ _ upd_same
    have hwl := hAw.length
    rw [Fc.dats_length] at hwl
    have hyl := dys.length
    rw [Fc.dats_length] at hyl
    have hfl2 := x.form_length
    refine .inr (.inr (.inl ⟨c1, p, _, _, rfl, rfl, ec1, hp4, fits (by omega), fun c2 hc2 => ?_⟩))
    have t5 := t4.trans (same_new hc2 (.lst (wxs ++ ys)))
    have u5 := same_new hc2 (.lst (wxs ++ ys))
    have dall : DqAll K (upd H4 c2 (.lst (wxs ++ ys))) (wxs ++ ys) (Fc.dats (W ++ x.form)) := by
      rw [Fc.dats_append]
      exact (hAw.same t5).append ((dys.same (out_sub p H4)).same u5)
    refine ⟨c2, _, W ++ x.form, rfl, .of upd_same, dall, by rw [Fc.depth_append]; have := x.form_depth; have dW' : PyData.depthAll (Fc.dats W) ≤ 2 * k0.rk := dW; omega, fun zs c3 hz hc3 => ?_⟩
    have u6 := same_new hc3 (.lst zs)
    have t6 := t5.trans u6
    have e6 := t6 _ _ e2n
    refine ⟨_, rfl, .inl ⟨rfl, _, .of e6⟩, ?_⟩
    refine ⟨_, rfl, c3, zs, rfl, .inl ⟨.of upd_same, fun t ht => ?_⟩⟩
    have u7 := same_new ht (.tup zs)
    have t7 := t6.trans u7
    refine ⟨_, rfl, .inl (.inr (.inl ⟨pa, _, 2, _, rfl, rfl, KB.Same.tup t7 hSp, at2 _ _ _ _, (by show 2 ≤ sizeLine; decide), fun u hu => ?_⟩))⟩
    have u8 := same_new hu (.tup [.ref t, x3])
    have t8 := t7.trans u8
    have e8 := t8 _ _ e2n
    refine ⟨ll, us', _, rfl, rfl, e8, fits_lt (by omega), ?_⟩
    have et := u8 _ _ (upd_same (a := t) (o := .tup zs) (H := upd (upd H4 c2 (.lst (wxs ++ ys))) c3 (.lst zs)))
    have eu := upd_same (a := u) (o := .tup [.ref t, x3]) (H := upd (upd (upd H4 c2 (.lst (wxs ++ ys))) c3 (.lst zs)) t (.tup zs))
    have dz := hz.same ((u6.trans u7).trans u8)
    have df8 := df.same t8
    have du8 := du1.same t8
    have h58 := h5.same t8
    have e18 := t8 _ _ e1
    generalize upd (upd (upd (upd H4 c2 (.lst (wxs ++ ys))) c3 (.lst zs)) t (.tup zs)) u (.tup [.ref t, x3]) = H8 at t8 e8 et eu dz df8 du8 h58 e18 ⊢
    have dub : DqAll K H8 (us' ++ [.ref u]) ((S' ++ [(Fc.srt (W ++ x.form), y)]).map sd) := by
      rw [List.map_append]
      exact du8.append (.cons (.tup (.of eu) (.cons (.tup (.of et) dz) (.cons h58 .nil))) .nil)
    have zk : sz (Kd.f x y).dat = 2 + (sz x.dat + sz y.dat) := by simp only [Kd.dat, sz, szs]; omega
    refine ⟨sumZ (S' ++ [(Fc.srt (W ++ x.form), y)]), by rw [zS, zk]; simp only [sumZ, List.map_cons, List.map_nil, List.sum_cons, List.sum_nil]; omega, lf, ll, fs, _, G, S' ++ [(Fc.srt (W ++ x.form), y)], _, _, _, rfl, nfl, hlf, hll, by rw [upd_ne nfl]; exact e18, upd_same, keepP e8 (Fc.pure_dats G) df8, keepP e8 (sd_pure _) dub, rfl, ?_, ?_, ?_, sameU hll (sm.trans t8)⟩
    · refine List.Perm.trans ?_ hp2
      rw [aF, List.append_assoc G]
      refine (List.perm_append_comm.trans (.of_eq ?_)).append_left G
      simp [allF, Kd.fac, Kd.form]
    · intro e he
      rcases List.mem_append.mp he with he | he
      · exact hS' e he
      · rw [List.mem_singleton.mp he]
        refine ⟨okk.2, rk2.2, ?_, ?_⟩
        · show PyData.depthAll (Fc.dats (Fc.srt (W ++ x.form))) ≤ _
          rw [Fc.depth_srt, Fc.depth_append]
          have := x.form_depth
          have := dW
          simp only at this
          omega
        · show (Fc.srt (W ++ x.form)).length + y.leaves ≤ _
          rw [Fc.srt_length, List.length_append]; omega
    · rw [lS]
      simp only [sumL, List.map_cons, List.map_nil, List.sum_cons, List.sum_nil, Kd.leaves] at hl2 ⊢
      omega
theorem ok_factors (A : At K mg "_factors" s_factors) (T : Txt K mg w CN CT) : ∀ N : Nat, Cal P w K mg base CX0 N "_factors" ["kind"] (spFac K N)
  | 0 => cal_vac A (fun f fd F => F.binds (ps := ["kind"]) (fun _ _ _ _ _ _ us hl => match us, hl with | [_], _ => rfl)) fun vs H Q E ⟨v, k, _, _, _, h, _⟩ => absurd h (Nat.not_lt_zero _)
  | N + 1 => ok_factors1 A T (ok_factors A T N)
end

/-! ## kinds: is_base_number, is_kind -/
theorem letters8 : ("abcdefgh" : Str).length = 8 := by decide +kernel
theorem letters_fit : ("abcdefgh" : Str).length ≤ sizeLine := by rw [letters8]; decide
def spBn (K : PySem.W.Frag) : Sp := fun vs H Q _ => ∃ v d, vs = [v] ∧ Dq K H v d ∧ Q (.bl (isBn d)) H
def spShp (K : PySem.W.Frag) : Sp := fun vs H Q _ => ∃ v d, vs = [v] ∧ Dq K H v d ∧ Q (.bl (shp d)) H
def spIsKd (K : PySem.W.Frag) : Sp := fun vs H Q _ => ∃ v d, vs = [v] ∧ Dq K H v d ∧ sz d ≤ 1000000 ∧ ∀ H', Same H H' → Q (.bl (isKd d)) H'
abbrev s_is_base_number : Stmt := top 7
theorem sc_is_base_number : FnScope ["thing"] ["thing"] (defScope s_is_base_number) := ⟨rfl, rfl, rfl, by decide +kernel, rfl, by decide +kernel, by decide +kernel⟩
abbrev s_is_kind_but_for_parts : Stmt := top 9
theorem sc_is_kind_but_for_parts : FnScope ["thing", "word"] ["thing"] (defScope s_is_kind_but_for_parts) := ⟨rfl, rfl, rfl, by decide +kernel, rfl, by decide +kernel, by decide +kernel⟩
abbrev s_is_kind : Stmt := top 8
theorem sc_is_kind : FnScope ["thing", "left", "part"] ["thing"] (defScope s_is_kind) := ⟨rfl, rfl, rfl, by decide +kernel, rfl, by decide +kernel, by decide +kernel⟩
section
variable {P : Program} {w : World} {K : PySem.W.Frag} {mg : Str → Option Value} {base : Heap} {CN CT : Addr}
theorem ok_is_base_number (A : At K mg "is_base_number" s_is_base_number) (T : Txt K mg w CN CT) : Cal P w K mg base CX0 1 "is_base_number" ["thing"] (spBn K) := by
  obtain ⟨f, fd, F, m⟩ := A
  refine ⟨f, fd, F.ok sc_is_base_number (fun vs H Q E h => ?_) (fun cdv A outer s H vs Q E hr h => ?_), F.binds (ps := ["thing"]) (fun _ _ _ _ _ _ us hl => match us, hl with | [_], _ => rfl), F.kp, m⟩
  · obtain ⟨v, d, rfl, _⟩ := h; rfl
  obtain ⟨v, d, rfl, hd, q⟩ := h
  refine ⟨_, (pss_one (ps_ret (pe_and (pe_cmpR op_isTyB (pe_callTy call_type1 (by rfl) T.z_type (by decide +kernel) (pa_cons (pv 0) pa_nil)) (pe_bltn (v := .ty "int") (by rfl) T.z_int (by decide +kernel) rfl) (nomark _)) (pe_one (pe_chain op_le op_lt pe_int (pv 0) (pe_callB call_len (by rfl) T.z_len (by decide +kernel) (pa_cons (pe_globS (by rfl) T.g_BASE_LETTERS) pa_nil))))))), ?_⟩
  refine ⟨_, rfl, _, _, rfl, hd.ty, _, _, rfl, rfl, _, rfl, ?_⟩
  refine ite2 (fun c => ?_) (fun c => ?_)
  · have c' := of_decide_eq_true c
    cases hd <;> simp [tyN] at c'
    rename_i n
    refine ⟨_, rfl, _, _, rfl, rfl, _, rfl, ?_⟩
    have q' : Q (.bl (decide (0 ≤ n) && decide (n < 8))) H := q
    refine ite2 (fun c2 => ?_) (fun c2 => ?_)
    · refine ⟨_, _, rfl, ⟨letters_fit, rfl⟩, _, _, rfl, rfl, ?_⟩
      rw [letters8]
      rw [c2, Bool.true_and] at q'
      exact q'
    · rw [Bool.eq_false_iff.mpr c2, Bool.false_and] at q'
      exact q'
  · have c' := of_decide_eq_false (Bool.eq_false_iff.mpr c)
    have e : isBn d = false := by cases d <;> first | rfl | (simp [tyN] at c')
    rw [e] at q
    exact q
/-- the words of SIGN_OF_WORD -/
theorem sow (w : Str) : ([(("both" : Str), V.str "*"), ("from", .str ">")].lookup w).isSome = (decide (w = "both") || decide (w = "from")) := by
  by_cases h : w = "both"
  · subst h; rfl
  · by_cases h2 : w = "from"
    · subst h2; rfl
    · have e1 : (w == ("both" : Str)) = false := beq_eq_false_iff_ne.mpr h
      have e2 : (w == ("from" : Str)) = false := beq_eq_false_iff_ne.mpr h2
      simp [List.lookup, e1, e2, h, h2]
theorem ok_is_kind_but_for_parts (A : At K mg "_is_kind_but_for_parts" s_is_kind_but_for_parts) (T : Txt K mg w CN CT) (C_is_base_number : Cal P w K mg base CX0 1 "is_base_number" ["thing"] (spBn K)) : Cal P w K mg base CX0 2 "_is_kind_but_for_parts" ["thing"] (spShp K) := by
  obtain ⟨f, fd, F, m⟩ := A
  refine ⟨f, fd, F.ok sc_is_kind_but_for_parts (fun vs H Q E h => ?_) (fun cdv A outer s H vs Q E hr h => ?_), F.binds (ps := ["thing"]) (fun _ _ _ _ _ _ us hl => match us, hl with | [_], _ => rfl), F.kp, m⟩
  · obtain ⟨v, d, rfl, _⟩ := h; rfl
  obtain ⟨v, d, rfl, hd, q⟩ := h
  refine ⟨_, (pss_cons (ps_if (PW.pt (pw_or (pt_cmpR op_notTyB (pe_callTy call_type1 (by rfl) T.z_type (by decide +kernel) (pa_cons (pv 0) pa_nil)) (pe_bltn (v := .ty "tuple") (by rfl) T.z_tuple (by decide +kernel) rfl) (nomark _)) (pw_or1 (pt_cmpR (op_eqA (room200 hr)) (pe_callB call_len (by rfl) T.z_len (by decide +kernel) (pa_cons (pv 0) pa_nil)) pe_int (nomark _)))))
   (pss_one (ps_ret pe_bl))
   pss_nil)
  (pss_cons (ps_set (i := 1) sc_is_kind_but_for_parts.nd rfl (by first | exact Or.inl rfl | exact Or.inr rfl) (pe_ix ix_B (pv 0) pe_int (fun _ _ => rfl)))
  (pss_cons (ps_if (pt_cmpR op_notTyB (pe_callTy call_type1 (by rfl) T.z_type (by decide +kernel) (pa_cons (pv 1) pa_nil)) (pe_bltn (v := .ty "str") (by rfl) T.z_str (by decide +kernel) rfl) (nomark _))
   (pss_one (ps_ret pe_bl))
   pss_nil)
  (pss_cons (ps_if (pt_cmpR (op_eqA (room200 hr)) (pv 1) pe_str (nomark _))
   (pss_one (ps_ret (pe_and (pe_cmpR (op_eqA (room200 hr)) (pe_callB call_len (by rfl) T.z_len (by decide +kernel) (pa_cons (pv 0) pa_nil)) pe_int (nomark _)) (pe_one (pe_calC C_is_base_number (hr.mono (by first | decide | omega)) pass0 (pa_cons (pe_ix ix_B (pv 0) pe_int (fun _ _ => rfl)) pa_nil))))))
   pss_nil)
  (pss_cons (ps_if (pt_cmpR (op_eqA (room200 hr)) (pv 1) pe_str (nomark _))
   (pss_one (ps_ret (pe_cmpR (op_eqA (room200 hr)) (pe_callB call_len (by rfl) T.z_len (by decide +kernel) (pa_cons (pv 0) pa_nil)) pe_int (nomark _))))
   pss_nil)
  (pss_one (ps_ret (pe_and (pe_cmpR op_in_DS (pv 1) (pe_globD (by rfl) T.g_SIGN_OF_WORD) rfl) (pe_one (pe_cmpR (op_eqA (room200 hr)) (pe_callB call_len (by rfl) T.z_len (by decide +kernel) (pa_cons (pv 0) pa_nil)) pe_int (nomark _))))))))))), ?_⟩
  refine ⟨_, rfl, _, _, rfl, hd.ty, _, _, rfl, rfl, _, rfl, ?_⟩
  by_cases ht : tyN d = "tuple"
  · rw [ht]
    refine iteF ?_
    cases hd <;> simp [tyN] at ht
    rename_i a xs ds hs ha
    have hlen := ha.length
    refine ⟨_, rfl, _, _, rfl, .inr ⟨_, hs, rfl⟩, .inl ⟨rfl, _, rfl, ?_⟩⟩
    cases ha with
    | nil => exact iteT q
    | cons h1 h2 =>
      rename_i v1 vs1 d1 ds1
      have hlen1 := h2.length
      refine iteF' (decide_eq_false (by intro z; have z' := V.int.inj z; rw [List.length_cons] at z'; omega)) ?_
      refine ⟨_, rfl, .inl (.inr (.inl ⟨a, _, 0, v1, rfl, rfl, hs, at0 _ _, ?_⟩))⟩
      refine ⟨_, rfl, _, _, rfl, h1.ty, _, _, rfl, rfl, _, rfl, ?_⟩
      by_cases ht1 : tyN d1 = "str"
      · rw [ht1]
        refine iteF ?_
        cases h1 <;> simp [tyN] at ht1
        rename_i z
        refine ⟨_, rfl, .inl ⟨rfl, _, rfl, ?_⟩⟩
        by_cases hb : z = "base"
        · subst hb
          refine iteT' (decide_eq_true rfl) ?_
          refine ⟨_, rfl, _, _, rfl, .inr ⟨_, hs, rfl⟩, .inl ⟨rfl, _, rfl, ?_⟩⟩
          cases h2 with
          | nil => exact iteF' (by decide) (qbl q (by simp [shp]))
          | cons h3 h4 =>
            rename_i v2 vs2 d2 ds2
            cases h4 with
            | nil =>
              refine iteT' (decide_eq_true rfl) ?_
              exact ⟨_, rfl, .inl (.inr (.inl ⟨a, _, 1, v2, rfl, rfl, hs, at1 _ _ _, v2, d2, rfl, h3, qbl q (by simp [shp])⟩))⟩
            | cons h5 h6 => exact iteF' (decide_eq_false (by intro z; have z' := V.int.inj z; simp only [List.length_cons] at z'; omega)) (qbl q (by simp [shp]))
        · refine iteF' (decide_eq_false fun z => hb (V.str.inj z)) ?_
          refine ⟨_, rfl, .inl ⟨rfl, _, rfl, ?_⟩⟩
          by_cases hu : z = "unit"
          · subst hu
            refine iteT' (decide_eq_true rfl) ?_
            refine ⟨_, rfl, _, _, rfl, .inr ⟨_, hs, rfl⟩, .inl ⟨rfl, qbl q ?_⟩⟩
            cases ds1 with
            | nil => simp [shp, unit_ne_base, hlen1]
            | cons x r => simp [shp, unit_ne_base, hlen1]; omega
          · refine iteF' (decide_eq_false fun z => hu (V.str.inj z)) ?_
            refine ⟨_, rfl, fun dd hD => ⟨z, dd, _, rfl, rfl, hD, _, rfl, ?_⟩⟩
            rw [if_neg Bool.false_ne_true, sow]
            have e0 : shp (.tuple (.str z :: ds1)) = ((decide (z = "both") || decide (z = "from")) && ds1.length == 2) := by simp [shp, hb, hu]
            rw [e0] at q
            refine ite2 (fun c => ?_) (fun c => ?_)
            · rw [c, Bool.true_and] at q
              refine ⟨_, rfl, _, _, rfl, .inr ⟨_, hs, rfl⟩, .inl ⟨rfl, qbl q ?_⟩⟩
              rw [List.length_cons, hlen1]
              by_cases h2 : ds1.length = 2
              · rw [h2]; rfl
              · rw [beq_eq_false_iff_ne.mpr h2]
                exact (decide_eq_false fun z => h2 (by have z' := V.int.inj z; omega)).symm
            · rw [Bool.eq_false_iff.mpr c, Bool.false_and] at q
              exact q
      · refine iteT' (by simp [ht1]) ?_
        exact qbl q (by cases d1 <;> first | (simp [shp]; done) | (simp [tyN] at ht1))
  · refine iteT' (by simp [ht]) ?_
    exact qbl q (by cases d <;> first | (simp [shp]; done) | (simp [tyN] at ht))
end

section
variable {P : Program} {w : World} {K : PySem.W.Frag} {mg : Str → Option Value} {base : Heap} {CN CT : Addr}
theorem ok_is_kind (A : At K mg "is_kind" s_is_kind) (T : Txt K mg w CN CT) (C_is_kind_but_for_parts : Cal P w K mg base CX0 2 "_is_kind_but_for_parts" ["thing"] (spShp K)) : Cal P w K mg base CX0 3 "is_kind" ["thing"] (spIsKd K) := by
  obtain ⟨f, fd, F, m⟩ := A
  refine ⟨f, fd, F.ok sc_is_kind (fun vs H Q E h => ?_) (fun cdv A outer s H vs Q E hr h => ?_), F.binds (ps := ["thing"]) (fun _ _ _ _ _ _ us hl => match us, hl with | [_], _ => rfl), F.kp, m⟩
  · obtain ⟨v, d, rfl, _⟩ := h; rfl
  obtain ⟨v, d, rfl, hd, hz, q⟩ := h
  refine ⟨_, (pss_cons (ps_set (i := 1) sc_is_kind.nd rfl (by first | exact Or.inl rfl | exact Or.inr rfl) (pe_lst (pa_cons (pv 0) pa_nil)))
  (pss_cons (ps_while PassesOwn.never (pt_truth (pv 1) (by intro _; rfl))
   (pss_cons (ps_set (i := 2) sc_is_kind.nd rfl (by first | exact Or.inl rfl | exact Or.inr rfl) (pe_bm0 PySem.F.plainAttrs_list PySem.F.slot_list_pop PySem.F.type_list_pop mt_pop (pv 1) ))
  (pss_cons (ps_if (pt_not (pt_val (pe_calC C_is_kind_but_for_parts (hr.mono (by first | decide | omega)) pass0 (pa_cons (pv 2) pa_nil))))
   (pss_one (ps_ret pe_bl))
   pss_nil)
  (pss_one (ps_if (pt_cmpR op_in_DS (pe_ix ix_B (pv 2) pe_int (fun _ _ => rfl)) (pe_globD (by rfl) T.g_SIGN_OF_WORD) rfl)
   (pss_one (ps_expr (pe_bm PySem.F.plainAttrs_list PySem.F.slot_list_extend PySem.F.type_list_extend mt_extendT (pv 1) (pa_cons (pe_slice sl_A (pv 2) (po_some pe_int) po_none) pa_nil))))
   pss_nil)))))
  (pss_one (ps_ret pe_bl)))), ?_⟩
  refine ⟨_, rfl, (by show 1 ≤ sizeLine; decide), fun l hl => ?_⟩
  refine ⟨fun n σ H' => ∃ vs ds o, σ = [some v, some (.ref l), o] ∧ H' l = some (.lst vs) ∧ DqAll K (out l H') vs ds ∧ n = szs ds ∧ n ≤ sz d ∧ Same H (out l H') ∧ isKd d = ds.all isKd,
    ⟨sz d, [v], [d], none, rfl, upd_same, .cons (hd.same (same_keepO' hl)) .nil, by simp [szs], Nat.le_refl _, same_keepO' hl, by simp⟩, ?_⟩
  rintro n σ H1 ⟨vs, ds, o, rfl, e1, ha, rfl, hn, sm, hk⟩
  refine ⟨_, rfl, _, .inl ⟨vs, .of e1, rfl⟩, ?_⟩
  have hlen := ha.length
  rcases List.eq_nil_or_concat ds with hds | ⟨ds', x, hds⟩
  · subst hds
    cases ha
    exact iteF' rfl (qbl (q _ (of_out sm)) (by rw [hk]; rfl))
  · rw [List.concat_eq_append] at hds
    subst hds
    obtain ⟨us, y, rfl, ha1, hx⟩ := ha.last
    refine iteT' (by simp) ⟨_, fun _ _ z => z, ?_⟩
    refine ⟨_, rfl, .inl ⟨rfl, _, .of e1⟩, l, us ++ [y], y, rfl, rfl, e1, last_at us y, ?_⟩
    rw [dl_append]
    have hx' : Dq K (upd H1 l (.lst us)) y x := hx.same out_upd
    have hsz : szs (ds' ++ [x]) = szs ds' + sz x := by rw [szs_append]; simp [szs]
    have hk' : isKd d = (ds'.all isKd && isKd x) := by rw [hk, List.all_append]; simp
    have hsm : Same H (out l (upd H1 l (.lst us))) := same_keepO sm _
    refine ⟨_, rfl, y, x, rfl, hx', _, rfl, ?_⟩
    by_cases hs : shp x = true
    · refine iteF' (by rw [hs]; rfl) ?_
      obtain ⟨wd, r, rfl⟩ := shp_is x hs
      have hturn := isKd_turn (.tuple (.str wd :: r))
      rw [hs, Bool.true_and] at hturn
      have hkz := kids_sz (.tuple (.str wd :: r))
      cases hx with
      | tup hS hA =>
        rename_i a xs
        cases hA with
        | cons h1 h2 =>
          rename_i v1 vs1
          cases h1
          have hS2 : SqT K (upd H1 l (.lst us)) a (V.str wd :: vs1) := KB.Same.tup out_upd hS
          refine ⟨_, rfl, .inl (.inr (.inl ⟨a, _, 0, _, rfl, rfl, hS2, at0 _ _, ?_⟩))⟩
          refine fun dd hD => ⟨wd, dd, _, rfl, rfl, hD, _, rfl, ?_⟩
          rw [if_neg Bool.false_ne_true, sow]
          refine ite2 (fun c => ?_) (fun c => ?_)
          · have ek : kids (.tuple (.str wd :: r)) = r := by
              simp only [kids]
              rw [if_pos (by simpa using c)]
            rw [ek] at hturn hkz
            refine ⟨_, rfl, .inl ⟨rfl, _, .of upd_same⟩, _, rfl, 1, rfl, .inr (.inl ⟨a, _, rfl, hS2, cut1_not _ _, fun p hp => ?_⟩)⟩
            rw [cut1]
            have npl : l ≠ p := ne_of_none upd_same hp
            have hl1 := ha1.length
            have hl2 := h2.length
            have hb1 := len_szs ds'
            have hb2 := len_szs r
            refine ⟨l, p, us, vs1, rfl, rfl, by rw [upd_ne npl]; exact upd_same, .of upd_same, fits (by omega), ?_⟩
            have s1 : Same (out l H1) (out l (upd (upd (upd H1 l (.lst us)) p (.tup vs1)) l (.lst (us ++ vs1)))) := (out_set _).trans ((out_new hp _).trans (out_set _))
            exact ⟨szs (ds' ++ r), by rw [hsz, szs_append]; omega, us ++ vs1, ds' ++ r, _, rfl, upd_same, (ha1.same s1).append (h2.same s1), rfl, by rw [szs_append]; omega, sm.trans s1, by rw [hk', hturn, List.all_append]⟩
          · have ek : kids (.tuple (.str wd :: r)) = [] := by
              simp only [kids]
              rw [if_neg (by simpa using c)]
            rw [ek] at hturn
            have s1 : Same (out l H1) (out l (upd H1 l (.lst us))) := out_set _
            exact ⟨szs ds', by have := sz_pos (.tuple (.str wd :: r)); omega, us, ds', _, rfl, upd_same, ha1.same s1, rfl, by omega, hsm, by rw [hk', hturn]; simp⟩
    · have hs' : shp x = false := Bool.eq_false_iff.mpr hs
      refine iteT' (by rw [hs']; rfl) ?_
      exact qbl (q _ (of_out hsm)) (by rw [hk', isKd_turn x, hs']; simp)
end

/-! ## need_kind -/
def spNeed (K : PySem.W.Frag) (CN : Addr) : Sp := fun vs H Q E => ∃ v d, vs = [v] ∧ Dq K H v d ∧ sz d ≤ 1000000 ∧
  (isKd d = true → ∀ H', Same H H' → Q .non H') ∧ (isKd d = false → ∀ H', Same H H' → E (.ref CN) none H')
abbrev s_need_kind : Stmt := top 10
theorem sc_need_kind : FnScope ["thing"] ["thing"] (defScope s_need_kind) := ⟨rfl, rfl, rfl, by decide +kernel, rfl, by decide +kernel, by decide +kernel⟩
section
variable {P : Program} {w : World} {K : PySem.W.Frag} {mg : Str → Option Value} {base : Heap} {CN CT : Addr}
theorem ok_need_kind (A : At K mg "need_kind" s_need_kind) (T : Txt K mg w CN CT) (C_is_kind : Cal P w K mg base CX0 3 "is_kind" ["thing"] (spIsKd K)) : Cal P w K mg base (L2.CX P w) 4 "need_kind" ["thing"] (spNeed K CN) := by
  obtain ⟨f, fd, F, m⟩ := A
  refine ⟨f, fd, F.okX sc_need_kind (fun vs H Q E h => ?_) (fun cdv A outer s H vs Q E hr h => ?_), F.binds (ps := ["thing"]) (fun _ _ _ _ _ _ us hl => match us, hl with | [_], _ => rfl), F.kp, m⟩
  · obtain ⟨v, d, rfl, _⟩ := h; rfl
  obtain ⟨v, d, rfl, hd, hz, q1, q2⟩ := h
  refine ⟨_, (pss_one (ps_if (pt_not (pt_val (pe_calC C_is_kind (hr.mono (by first | decide | omega)) pass0 (pa_cons (pv 0) pa_nil))))
   (pss_one (ps_raiseO rfl (takes_of rfl rfl rfl rfl) T.e_NoKind))
   pss_nil)), ?_⟩
  refine ⟨_, rfl, v, d, rfl, hd, hz, fun H' sm => ⟨_, rfl, ?_⟩⟩
  by_cases hk : isKd d = true
  · exact iteF' (by rw [hk]; rfl) (q1 hk H' sm)
  · have hk' : isKd d = false := Bool.eq_false_iff.mpr hk
    exact iteT' (by rw [hk']; rfl) (q2 hk' H' sm)
end

/-! ## form, alike -/
def spForm (K : PySem.W.Frag) (CN : Addr) : Sp := fun vs H Q E => ∃ v d, vs = [v] ∧ Dq K H v d ∧ sz d ≤ 1000000 ∧
  (∀ k : Kd, k.ok → d = k.dat → k.rk ≤ 80 ∧ k.leaves ≤ 5000 ∧ ∀ (ys : List V) (p : Addr) (H' : Hp), H p = none → H' p = some (.lst ys) → DqAll K (out p H') ys (Fc.dats k.form) → Same H (out p H') → Q (.ref p) H') ∧
  (isKd d = false → ∀ H', Same H H' → E (.ref CN) none H')
abbrev s_form : Stmt := top 12
theorem sc_form : FnScope ["kind"] ["kind"] (defScope s_form) := ⟨rfl, rfl, rfl, by decide +kernel, rfl, by decide +kernel, by decide +kernel⟩
section
variable {P : Program} {w : World} {K : PySem.W.Frag} {mg : Str → Option Value} {base : Heap} {CN CT : Addr}
theorem ok_form (A : At K mg "form" s_form) (T : Txt K mg w CN CT) (C_need_kind : Cal P w K mg base (L2.CX P w) 4 "need_kind" ["thing"] (spNeed K CN)) (C_factors : Cal P w K mg base CX0 81 "_factors" ["kind"] (spFac K 81)) : Cal P w K mg base (L2.CX P w) 82 "form" ["kind"] (spForm K CN) := by
  obtain ⟨f, fd, F, m⟩ := A
  refine ⟨f, fd, F.okX sc_form (fun vs H Q E h => ?_) (fun cdv A outer s H vs Q E hr h => ?_), F.binds (ps := ["kind"]) (fun _ _ _ _ _ _ us hl => match us, hl with | [_], _ => rfl), F.kp, m⟩
  · obtain ⟨v, d, rfl, _⟩ := h; rfl
  obtain ⟨v, d, rfl, hd, hz, q1, q2⟩ := h
  refine ⟨_, (pss_cons (ps_expr (pe_calC C_need_kind (hr.mono (by first | decide | omega)) (passes_call (takes_of rfl rfl rfl rfl) (fun _ _ _ _ h => h)) (pa_cons (pv 0) pa_nil)))
  (pss_one (ps_ret (pe_calC C_factors (hr.mono (by first | decide | omega)) pass0 (pa_cons (pv 0) pa_nil))))), ?_⟩
  refine ⟨_, rfl, v, d, rfl, hd, hz, fun hk H1 s1 => ?_, fun hk H1 s1 => q2 hk H1 s1⟩
  obtain ⟨k, ok, rfl⟩ := kd_of d hk
  obtain ⟨hr8, hl5, q⟩ := q1 k ok rfl
  refine ⟨_, rfl, v, k, rfl, hd.same s1, ok, by omega, hr8, hl5, fun ys p H2 hpn hp dy s2 => ?_⟩
  have hHp : H p = none := by
    cases z : H p with
    | none => rfl
    | some u => rw [s1 _ _ z] at hpn; cases hpn
  exact q ys p H2 hHp hp dy (s1.trans s2)
end

/-! ## _kind_of_factors -/
def spKof (K : PySem.W.Frag) (N : Nat) : Sp := fun vs H Q _ => ∃ (a : Addr) (xs : List V) (F : List Fc), vs = [.ref a] ∧ (SqL K H a xs ∨ SqT K H a xs) ∧ DqAll K H xs (Fc.dats F) ∧ PyData.depthAll (Fc.dats F) < N ∧ szs (Fc.dats F) ≤ 1000000 ∧
  ∀ (v : V) (H' : Hp), Dq K H' v (Fc.kds F).dat → Same H H' → Q v H'
abbrev s_kind_of_factors : Stmt := top 17
theorem sc_kind_of_factors : FnScope ["factors", "kinds", "wants", "number", "kind", "whole"] ["factors"] (defScope s_kind_of_factors) := ⟨rfl, rfl, rfl, by decide +kernel, rfl, by decide +kernel, by decide +kernel⟩
/-- between two factors -/
def KoW (K : PySem.W.Frag) (H : Hp) (a lk : Addr) (F : List Fc) (i : Nat) (σ : L2.St) (H' : Hp) : Prop :=
  ∃ (us : List V) (o2 o3 o4 o5 : Option V), σ = [some (.ref a), some (.ref lk), o2, o3, o4, o5] ∧ H' lk = some (.lst us) ∧ DqAll K H' us ((F.take i).map fun f => f.kd.dat) ∧ Same H H'
/-- between two kinds put ahead -/
def KfW (K : PySem.W.Frag) (H : Hp) (a lk : Addr) (F : List Fc) (n : Nat) (σ : L2.St) (H' : Hp) : Prop :=
  ∃ (us : List V) (v : V) (j : Nat) (o2 o3 o4 : Option V), σ = [some (.ref a), some (.ref lk), o2, o3, o4, some v] ∧ H' lk = some (.lst us) ∧ n = j ∧ j < F.length ∧ DqAll K H' us ((F.take j).map fun f => f.kd.dat) ∧ Dq K H' v (Fc.kds (F.drop j)).dat ∧ Same H H'
theorem kds_pure (F : List Fc) : pureTs (F.map fun f => f.kd.dat) = true := by
  induction F with
  | nil => rfl
  | cons f r ih => simp [pureTs, f.kd.pure, ih]
theorem at_dats {K : PySem.W.Frag} {H : Hp} : ∀ {xs : List V} {F : List Fc} {i : Nat} {x : V}, DqAll K H xs (Fc.dats F) → xs[i]? = some x → ∃ f, F[i]? = some f ∧ Dq K H x (Fc.dat f)
  | [], _, i, x, _, h => by simp at h
  | y :: r, [], i, x, d, h => by rw [Fc.dats] at d; cases d
  | y :: r, f :: t, 0, x, d, h => by
    rw [Fc.dats] at d
    cases d with
    | cons a b => exact ⟨f, rfl, (show y = x by simpa using h) ▸ a⟩
  | y :: r, f :: t, i + 1, x, d, h => by
    rw [Fc.dats] at d
    cases d with
    | cons a b =>
      obtain ⟨g, e, q⟩ := at_dats b (i := i) (by simpa using h)
      exact ⟨g, by simpa using e, q⟩
theorem sz_of {F : List Fc} {f : Fc} {i : Nat} (h : F[i]? = some f) : sz (Fc.dat f) ≤ szs (Fc.dats F) := by
  induction F generalizing i with
  | nil => simp at h
  | cons g r ih =>
    rw [Fc.dats]
    simp only [szs]
    cases i with
    | zero => simp at h; subst h; omega
    | succ i => have := ih (i := i) (by simpa using h); omega
theorem take_next {F : List Fc} {f : Fc} {i : Nat} (h : F[i]? = some f) : (F.take (i + 1)).map (fun f => f.kd.dat) = (F.take i).map (fun f => f.kd.dat) ++ [f.kd.dat] := by
  rw [List.take_succ, h]; simp
theorem kd_from (w : Fc) (r : List Fc) (n : Nat) : (Fc.mk (w :: r) n).kd = .f (Fc.kds (w :: r)) (.b n) := by rw [Fc.kd, Fc.kdw, Fc.kds]
theorem kd_base (n : Nat) : (Fc.mk [] n).kd = .b n := by rw [Fc.kd, Fc.kdw]
theorem kds_two (f g : Fc) (r : List Fc) : Fc.kds (f :: g :: r) = .p f.kd (Fc.kds (g :: r)) := by rw [Fc.kds, Fc.kdf, Fc.kds]
theorem kds_one (f : Fc) : Fc.kds [f] = f.kd := by rw [Fc.kds, Fc.kdf]
section
variable {P : Program} {w : World} {K : PySem.W.Frag} {mg : Str → Option Value} {base : Heap} {CN CT : Addr}
theorem ok_kof1 {N : Nat} (A : At K mg "_kind_of_factors" s_kind_of_factors) (T : Txt K mg w CN CT) (C_kind_of_factors : Cal P w K mg base CX0 N "_kind_of_factors" ["factors"] (spKof K N)) : Cal P w K mg base CX0 (N + 1) "_kind_of_factors" ["factors"] (spKof K (N + 1)) := by
  obtain ⟨f, fd, F0, m⟩ := A
  refine ⟨f, fd, F0.ok sc_kind_of_factors (fun vs H Q E h => ?_) (fun cdv A outer s H vs Q E hr h => ?_), F0.binds (ps := ["factors"]) (fun _ _ _ _ _ _ us hl => match us, hl with | [_], _ => rfl), F0.kp, m⟩
  · obtain ⟨a, xs, F, rfl, _⟩ := h; rfl
  obtain ⟨a, xs, F, rfl, hsq, hd, hdep, hsz, q⟩ := h
  refine ⟨_, (pss_cons (ps_set (i := 1) sc_kind_of_factors.nd rfl (by first | exact Or.inl rfl | exact Or.inr rfl) (pe_lst pa_nil))
  (pss_cons (ps_for PassesOwn.never rfl (pi_seq (pv 0)) (pg_tup (by rfl) (pgs_cons (pg_name (i := 2) sc_kind_of_factors.nd rfl (by first | exact Or.inl rfl | exact Or.inr rfl)) (pgs_cons (pg_name (i := 3) sc_kind_of_factors.nd rfl (by first | exact Or.inl rfl | exact Or.inr rfl)) pgs_nil)))
   (pss_cons (ps_set (i := 4) sc_kind_of_factors.nd rfl (by first | exact Or.inl rfl | exact Or.inr rfl) (pe_tup (pa_cons pe_str (pa_cons (pv 3) pa_nil))))
  (pss_cons (ps_if (pt_truth (pv 2) (by intro _; rfl))
   (pss_one (ps_set (i := 4) sc_kind_of_factors.nd rfl (by first | exact Or.inl rfl | exact Or.inr rfl) (pe_tup (pa_cons pe_str (pa_cons (pe_calC C_kind_of_factors (hr.mono (by first | decide | omega)) pass0 (pa_cons (pv 2) pa_nil)) (pa_cons (pv 4) pa_nil))))))
   pss_nil)
  (pss_one (ps_expr (pe_bm PySem.F.plainAttrs_list PySem.F.slot_list_append PySem.F.type_list_append mt_append (pv 1) (pa_cons (pv 4) pa_nil)))))))
  (pss_cons (ps_if (pt_not (pt_truth (pv 1) (by intro _; rfl)))
   (pss_one (ps_ret (pe_tup (pa_cons pe_str pa_nil))))
   pss_nil)
  (pss_cons (ps_set (i := 5) sc_kind_of_factors.nd rfl (by first | exact Or.inl rfl | exact Or.inr rfl) (pe_bm0 PySem.F.plainAttrs_list PySem.F.slot_list_pop PySem.F.type_list_pop mt_pop (pv 1) ))
  (pss_cons (ps_while PassesOwn.never (pt_truth (pv 1) (by intro _; rfl))
   (pss_one (ps_set (i := 5) sc_kind_of_factors.nd rfl (by first | exact Or.inl rfl | exact Or.inr rfl) (pe_tup (pa_cons pe_str (pa_cons (pe_bm0 PySem.F.plainAttrs_list PySem.F.slot_list_pop PySem.F.type_list_pop mt_pop (pv 1) ) (pa_cons (pv 5) pa_nil)))))))
  (pss_one (ps_ret (pv 5)))))))), ?_⟩
  refine ⟨Nat.zero_le _, fun lk h1 => ?_⟩
  have s1 := same_new h1 (.lst [])
  have hlen := hd.length
  rw [Fc.dats_length] at hlen
  have start : KoW K H a lk F 0 [some (.ref a), some (.ref lk), none, none, none, none] (upd H lk (.lst [])) := ⟨[], _, _, _, _, rfl, upd_same, by simp; exact .nil, s1⟩
  rcases hsq with hsq | hsq
  · refine .inl ⟨_, rfl, a, rfl, ⟨xs, L2.Same.seq s1 hsq⟩, for_list (K := K) (a := a) (xs := xs) (KoW K H a lk F) start (fun i σ H' _ ⟨us, o2, o3, o4, o5, _, _, _, sm⟩ => L2.Same.seq sm hsq) ?_ ?_⟩
    · rintro i x σ H2 hx ⟨us, o2, o3, o4, o5, rfl, e1, du, sm⟩
      obtain ⟨g, eg, hg⟩ := at_dats (hd.same sm) hx
      have gd := Fc.depth_mem eg
      have gz := sz_of eg
      have nx := take_next eg
      have hiF : i < F.length := (List.getElem?_eq_some_iff.mp eg).1
      have hFl := len_szs (Fc.dats F)
      rw [Fc.dats_length] at hFl
      have hul := du.length
      rw [List.length_map, List.length_take] at hul
      obtain ⟨ws, n⟩ := g
      rw [Fc.dat] at hg gd gz
      obtain ⟨ya, yxs, ds, rfl, ed, hSy, hA⟩ := dq_tup hg rfl
      have ed' : ds = [.tuple (Fc.dats ws), .int n] := (PyData.tuple.inj ed).symm
      subst ed'
      rcases dqa_split hA with ⟨_, z⟩ | ⟨wv, xs1, d1, r1, rfl, z, gw, g1⟩
      · cases z
      cases z
      rcases dqa_split g1 with ⟨_, z⟩ | ⟨nv, xs2, d2, r2, rfl, z, gn, g2⟩
      · cases z
      cases z
      cases g2
      cases gn
      obtain ⟨wa, wxs, wds, rfl, ew, hSw, hAw⟩ := dq_tup gw rfl
      have ew' : wds = Fc.dats ws := (PyData.tuple.inj ew).symm
      subst ew'
      refine ⟨ya, _, rfl, hSy, rfl, _, _, rfl, _, _, rfl, rfl, ?_⟩
      refine ⟨_, rfl, (by show 2 ≤ sizeLine; decide), fun t ht => ?_⟩
      have st := same_new ht (.tup [.str "base", .int n])
      have et : upd H2 t (.tup [.str "base", .int n]) t = some (.tup [.str "base", .int n]) := upd_same
      refine ⟨_, rfl, _, .inr (.inl ⟨wxs, KB.Same.tup st hSw, rfl⟩), ?_⟩
      have e1t := st _ _ e1
      have dut := du.same st
      have smt := sm.trans st
      have hSwt := KB.Same.tup st hSw
      have hAwt := hAw.same st
      generalize upd H2 t (.tup [.str "base", .int n]) = H3 at et e1t dut smt hSwt hAwt ⊢
      have base : Dq K H3 (.ref t) (Kd.b n).dat := .tup (.of et) (.cons (.str _) (.cons (.int _) .nil))
      have hwl := hAwt.length
      rw [Fc.dats_length] at hwl
      cases ws with
      | nil =>
        have : wxs = [] := List.eq_nil_of_length_eq_zero (by simpa using hwl)
        subst this
        refine iteF' rfl ?_
        refine ⟨_, rfl, .inl ⟨rfl, _, .of e1t⟩, _, rfl, lk, us, _, rfl, rfl, e1t, fits_lt (by omega), ?_⟩
        have dn : DqAll K H3 (us ++ [.ref t]) ((F.take (i + 1)).map fun f => f.kd.dat) := by
          rw [nx, kd_base]; exact dut.append (.cons base .nil)
        exact ⟨_, _, _, _, _, rfl, upd_same, keepP e1t (kds_pure _) dn, sameU h1 smt⟩
      | cons w0 wr =>
        have hne : wxs.isEmpty = false := by cases wxs with | nil => simp at hwl | cons _ _ => rfl
        refine iteT' (by rw [hne]; rfl) ?_
        refine ⟨_, rfl, wa, wxs, w0 :: wr, rfl, .inr hSwt, hAwt, by simp only [PyData.depth, PyData.depthAll] at gd; omega, by simp only [sz, szs] at gz; omega, fun v H4 dv s4 => ?_⟩
        refine ⟨_, rfl, (by show 3 ≤ sizeLine; decide), fun u hu => ?_⟩
        have su := same_new hu (.tup [.str "from", v, .ref t])
        have eu : upd H4 u (.tup [.str "from", v, .ref t]) u = some (.tup [.str "from", v, .ref t]) := upd_same
        have t4 := s4.trans su
        have e1u := t4 _ _ e1t
        refine ⟨_, rfl, .inl ⟨rfl, _, .of e1u⟩, _, rfl, lk, us, _, rfl, rfl, e1u, fits_lt (by omega), ?_⟩
        have dn : DqAll K (upd H4 u (.tup [.str "from", v, .ref t])) (us ++ [.ref u]) ((F.take (i + 1)).map fun f => f.kd.dat) := by
          rw [nx, kd_from]
          exact (dut.same t4).append (.cons (.tup (.of eu) (.cons (.str _) (.cons (dv.same su) (.cons (base.same t4) .nil)))) .nil)
        exact ⟨_, _, _, _, _, rfl, upd_same, keepP e1u (kds_pure _) dn, sameU h1 (smt.trans t4)⟩
    · rintro σ H2 ⟨us, o2, o3, o4, o5, rfl, e1, du, sm⟩
      have hF : F.take xs.length = F := by rw [hlen]; exact List.take_length
      rw [hF] at du
      have hul := du.length
      rw [List.length_map] at hul
      refine ⟨_, rfl, _, .inl ⟨us, .of e1, rfl⟩, ?_⟩
      rcases List.eq_nil_or_concat F with hs | ⟨G, g, hs⟩
      · subst hs
        have : us = [] := List.eq_nil_of_length_eq_zero (by simpa using hul)
        subst this
        refine iteT' rfl ⟨(by show 1 ≤ sizeLine; decide), fun t ht => ?_⟩
        exact q _ _ (.tup (.of upd_same) (.cons (.str _) .nil)) (sm.trans (same_new ht _))
      · rw [List.concat_eq_append] at hs
        have du2 := du
        rw [hs, List.map_append] at du2
        obtain ⟨us', y, rfl, du1, hy⟩ := du2.last
        refine iteF' (by simp) ?_
        refine ⟨_, rfl, .inl ⟨rfl, _, .of e1⟩, lk, us' ++ [y], y, rfl, rfl, e1, last_at us' y, ?_⟩
        rw [dl_append]
        have tG : F.take G.length = G := by rw [hs]; simp
        have dG : F.drop G.length = [g] := by rw [hs]; simp
        have lF : F.length = G.length + 1 := by rw [hs]; simp
        refine ⟨KfW K H a lk F, ⟨G.length, us', y, G.length, _, _, _, rfl, upd_same, rfl, by omega, by rw [tG]; exact keepP e1 (kds_pure G) du1, by rw [dG, kds_one]; exact keepD e1 g.kd.pure hy, sameU h1 sm⟩, ?_⟩
        rintro n σ H3 ⟨vs, v, j, p2, p3, p4, rfl, e3, rfl, hj, dv, hv, sm3⟩
        refine ⟨_, rfl, _, .inl ⟨vs, .of e3, rfl⟩, ?_⟩
        have hvl := dv.length
        rw [List.length_map, List.length_take] at hvl
        cases n with
        | zero =>
          have : vs = [] := List.eq_nil_of_length_eq_zero (by omega)
          subst this
          refine iteF' rfl ?_
          exact ⟨_, rfl, q v H3 (by simpa using hv) sm3⟩
        | succ j =>
          have ej : F[j]? = some F[j] := List.getElem?_eq_getElem (by omega)
          have nx := take_next ej
          rw [nx] at dv
          obtain ⟨vs', z, rfl, dv1, hz⟩ := dv.last
          refine iteT' (by simp) ⟨_, fun _ _ z => z, ?_⟩
          refine ⟨_, rfl, .inl ⟨rfl, _, .of e3⟩, lk, vs' ++ [z], z, rfl, rfl, e3, last_at vs' z, ?_⟩
          rw [dl_append]
          have e4 : upd H3 lk (.lst vs') lk = some (.lst vs') := upd_same
          have dv4 := keepP (us2 := vs') e3 (kds_pure _) dv1
          have hz4 := keepD (us2 := vs') e3 F[j].kd.pure hz
          have hv4 := keepD (us2 := vs') e3 (Kd.pure _) hv
          have sm4 := sameU (o := .lst vs') h1 sm3
          generalize upd H3 lk (.lst vs') = H4 at e4 dv4 hz4 hv4 sm4 ⊢
          refine ⟨_, rfl, (by show 3 ≤ sizeLine; decide), fun t ht => ?_⟩
          have st := same_new ht (.tup [.str "both", z, v])
          have hd1 : F.drop j = F[j] :: F.drop (j + 1) := List.drop_eq_getElem_cons (by omega)
          obtain ⟨g2, r2, hd2⟩ : ∃ g2 r2, F.drop (j + 1) = g2 :: r2 := ⟨_, _, List.drop_eq_getElem_cons hj⟩
          have ek : (Fc.kds (F.drop j)).dat = .tuple [.str "both", F[j].kd.dat, (Fc.kds (F.drop (j + 1))).dat] := by rw [hd1, hd2, kds_two]; rfl
          refine ⟨j, by omega, vs', .ref t, j, _, _, _, rfl, st _ _ e4, rfl, by omega, dv4.same st, ?_, sm4.trans st⟩
          rw [ek]
          exact .tup (.of upd_same) (.cons (.str _) (.cons (hz4.same st) (.cons (hv4.same st) .nil)))
  · refine .inr ⟨_, rfl, a, rfl, ⟨xs, KB.Same.tup s1 hsq⟩, for_tup (K := K) (a := a) (xs := xs) (KoW K H a lk F) start (fun i σ H' _ ⟨us, o2, o3, o4, o5, _, _, _, sm⟩ => KB.Same.tup sm hsq) ?_ ?_⟩
    · rintro i x σ H2 hx ⟨us, o2, o3, o4, o5, rfl, e1, du, sm⟩
      obtain ⟨g, eg, hg⟩ := at_dats (hd.same sm) hx
      have gd := Fc.depth_mem eg
      have gz := sz_of eg
      have nx := take_next eg
      have hiF : i < F.length := (List.getElem?_eq_some_iff.mp eg).1
      have hFl := len_szs (Fc.dats F)
      rw [Fc.dats_length] at hFl
      have hul := du.length
      rw [List.length_map, List.length_take] at hul
      obtain ⟨ws, n⟩ := g
      rw [Fc.dat] at hg gd gz
      obtain ⟨ya, yxs, ds, rfl, ed, hSy, hA⟩ := dq_tup hg rfl
      have ed' : ds = [.tuple (Fc.dats ws), .int n] := (PyData.tuple.inj ed).symm
      subst ed'
      rcases dqa_split hA with ⟨_, z⟩ | ⟨wv, xs1, d1, r1, rfl, z, gw, g1⟩
      · cases z
      cases z
      rcases dqa_split g1 with ⟨_, z⟩ | ⟨nv, xs2, d2, r2, rfl, z, gn, g2⟩
      · cases z
      cases z
      cases g2
      cases gn
      obtain ⟨wa, wxs, wds, rfl, ew, hSw, hAw⟩ := dq_tup gw rfl
      have ew' : wds = Fc.dats ws := (PyData.tuple.inj ew).symm
      subst ew'
      refine ⟨ya, _, rfl, hSy, rfl, _, _, rfl, _, _, rfl, rfl, ?_⟩
      refine ⟨_, rfl, (by show 2 ≤ sizeLine; decide), fun t ht => ?_⟩
      have st := same_new ht (.tup [.str "base", .int n])
      have et : upd H2 t (.tup [.str "base", .int n]) t = some (.tup [.str "base", .int n]) := upd_same
      refine ⟨_, rfl, _, .inr (.inl ⟨wxs, KB.Same.tup st hSw, rfl⟩), ?_⟩
      have e1t := st _ _ e1
      have dut := du.same st
      have smt := sm.trans st
      have hSwt := KB.Same.tup st hSw
      have hAwt := hAw.same st
      generalize upd H2 t (.tup [.str "base", .int n]) = H3 at et e1t dut smt hSwt hAwt ⊢
      have base : Dq K H3 (.ref t) (Kd.b n).dat := .tup (.of et) (.cons (.str _) (.cons (.int _) .nil))
      have hwl := hAwt.length
      rw [Fc.dats_length] at hwl
      cases ws with
      | nil =>
        have : wxs = [] := List.eq_nil_of_length_eq_zero (by simpa using hwl)
        subst this
        refine iteF' rfl ?_
        refine ⟨_, rfl, .inl ⟨rfl, _, .of e1t⟩, _, rfl, lk, us, _, rfl, rfl, e1t, fits_lt (by omega), ?_⟩
        have dn : DqAll K H3 (us ++ [.ref t]) ((F.take (i + 1)).map fun f => f.kd.dat) := by
          rw [nx, kd_base]; exact dut.append (.cons base .nil)
        exact ⟨_, _, _, _, _, rfl, upd_same, keepP e1t (kds_pure _) dn, sameU h1 smt⟩
      | cons w0 wr =>
        have hne : wxs.isEmpty = false := by cases wxs with | nil => simp at hwl | cons _ _ => rfl
        refine iteT' (by rw [hne]; rfl) ?_
        refine ⟨_, rfl, wa, wxs, w0 :: wr, rfl, .inr hSwt, hAwt, by simp only [PyData.depth, PyData.depthAll] at gd; omega, by simp only [sz, szs] at gz; omega, fun v H4 dv s4 => ?_⟩
        refine ⟨_, rfl, (by show 3 ≤ sizeLine; decide), fun u hu => ?_⟩
        have su := same_new hu (.tup [.str "from", v, .ref t])
        have eu : upd H4 u (.tup [.str "from", v, .ref t]) u = some (.tup [.str "from", v, .ref t]) := upd_same
        have t4 := s4.trans su
        have e1u := t4 _ _ e1t
        refine ⟨_, rfl, .inl ⟨rfl, _, .of e1u⟩, _, rfl, lk, us, _, rfl, rfl, e1u, fits_lt (by omega), ?_⟩
        have dn : DqAll K (upd H4 u (.tup [.str "from", v, .ref t])) (us ++ [.ref u]) ((F.take (i + 1)).map fun f => f.kd.dat) := by
          rw [nx, kd_from]
          exact (dut.same t4).append (.cons (.tup (.of eu) (.cons (.str _) (.cons (dv.same su) (.cons (base.same t4) .nil)))) .nil)
        exact ⟨_, _, _, _, _, rfl, upd_same, keepP e1u (kds_pure _) dn, sameU h1 (smt.trans t4)⟩
    · rintro σ H2 ⟨us, o2, o3, o4, o5, rfl, e1, du, sm⟩
      have hF : F.take xs.length = F := by rw [hlen]; exact List.take_length
      rw [hF] at du
      have hul := du.length
      rw [List.length_map] at hul
      refine ⟨_, rfl, _, .inl ⟨us, .of e1, rfl⟩, ?_⟩
      rcases List.eq_nil_or_concat F with hs | ⟨G, g, hs⟩
      · subst hs
        have : us = [] := List.eq_nil_of_length_eq_zero (by simpa using hul)
        subst this
        refine iteT' rfl ⟨(by show 1 ≤ sizeLine; decide), fun t ht => ?_⟩
        exact q _ _ (.tup (.of upd_same) (.cons (.str _) .nil)) (sm.trans (same_new ht _))
      · rw [List.concat_eq_append] at hs
        have du2 := du
        rw [hs, List.map_append] at du2
        obtain ⟨us', y, rfl, du1, hy⟩ := du2.last
        refine iteF' (by simp) ?_
        refine ⟨_, rfl, .inl ⟨rfl, _, .of e1⟩, lk, us' ++ [y], y, rfl, rfl, e1, last_at us' y, ?_⟩
        rw [dl_append]
        have tG : F.take G.length = G := by rw [hs]; simp
        have dG : F.drop G.length = [g] := by rw [hs]; simp
        have lF : F.length = G.length + 1 := by rw [hs]; simp
        refine ⟨KfW K H a lk F, ⟨G.length, us', y, G.length, _, _, _, rfl, upd_same, rfl, by omega, by rw [tG]; exact keepP e1 (kds_pure G) du1, by rw [dG, kds_one]; exact keepD e1 g.kd.pure hy, sameU h1 sm⟩, ?_⟩
        rintro n σ H3 ⟨vs, v, j, p2, p3, p4, rfl, e3, rfl, hj, dv, hv, sm3⟩
        refine ⟨_, rfl, _, .inl ⟨vs, .of e3, rfl⟩, ?_⟩
        have hvl := dv.length
        rw [List.length_map, List.length_take] at hvl
        cases n with
        | zero =>
          have : vs = [] := List.eq_nil_of_length_eq_zero (by omega)
          subst this
          refine iteF' rfl ?_
          exact ⟨_, rfl, q v H3 (by simpa using hv) sm3⟩
        | succ j =>
          have ej : F[j]? = some F[j] := List.getElem?_eq_getElem (by omega)
          have nx := take_next ej
          rw [nx] at dv
          obtain ⟨vs', z, rfl, dv1, hz⟩ := dv.last
          refine iteT' (by simp) ⟨_, fun _ _ z => z, ?_⟩
          refine ⟨_, rfl, .inl ⟨rfl, _, .of e3⟩, lk, vs' ++ [z], z, rfl, rfl, e3, last_at vs' z, ?_⟩
          rw [dl_append]
          have e4 : upd H3 lk (.lst vs') lk = some (.lst vs') := upd_same
          have dv4 := keepP (us2 := vs') e3 (kds_pure _) dv1
          have hz4 := keepD (us2 := vs') e3 F[j].kd.pure hz
          have hv4 := keepD (us2 := vs') e3 (Kd.pure _) hv
          have sm4 := sameU (o := .lst vs') h1 sm3
          generalize upd H3 lk (.lst vs') = H4 at e4 dv4 hz4 hv4 sm4 ⊢
          refine ⟨_, rfl, (by show 3 ≤ sizeLine; decide), fun t ht => ?_⟩
          have st := same_new ht (.tup [.str "both", z, v])
          have hd1 : F.drop j = F[j] :: F.drop (j + 1) := List.drop_eq_getElem_cons (by omega)
          obtain ⟨g2, r2, hd2⟩ : ∃ g2 r2, F.drop (j + 1) = g2 :: r2 := ⟨_, _, List.drop_eq_getElem_cons hj⟩
          have ek : (Fc.kds (F.drop j)).dat = .tuple [.str "both", F[j].kd.dat, (Fc.kds (F.drop (j + 1))).dat] := by rw [hd1, hd2, kds_two]; rfl
          refine ⟨j, by omega, vs', .ref t, j, _, _, _, rfl, st _ _ e4, rfl, by omega, dv4.same st, ?_, sm4.trans st⟩
          rw [ek]
          exact .tup (.of upd_same) (.cons (.str _) (.cons (hz4.same st) (.cons (hv4.same st) .nil)))
theorem ok_kof (A : At K mg "_kind_of_factors" s_kind_of_factors) (T : Txt K mg w CN CT) : ∀ N : Nat, Cal P w K mg base CX0 N "_kind_of_factors" ["factors"] (spKof K N)
  | 0 => cal_vac A (fun f fd F => F.binds (ps := ["factors"]) (fun _ _ _ _ _ _ us hl => match us, hl with | [_], _ => rfl)) fun vs H Q E ⟨a, xs, F, _, _, _, h, _⟩ => absurd h (Nat.not_lt_zero _)
  | N + 1 => ok_kof1 A T (ok_kof A T N)
end

/-! ## is_form of what is shaped as a form -/
/-- a row: the list of a form, or the tuple that a factor wants -/
def rwd (e : Bool × List Fc) : PyData := match e with | (true, l) => .list (Fc.dats l) | (false, l) => .tuple (Fc.dats l)
theorem rwd_read {K : PySem.W.Frag} {H : Hp} {v : V} {b : Bool} {G : List Fc} (h : Dq K H v (rwd (b, G))) : ∃ a xs, v = .ref a ∧ (SqL K H a xs ∨ SqT K H a xs) ∧ DqAll K H xs (Fc.dats G) := by
  cases b with
  | true => cases h with | lst s d => exact ⟨_, _, rfl, .inl s, d⟩
  | false => cases h with | tup s d => exact ⟨_, _, rfl, .inr s, d⟩
theorem seq_same {K : PySem.W.Frag} {H H' : Hp} {a : Addr} {xs : List V} (s : Same H H') : SqL K H a xs ∨ SqT K H a xs → SqL K H' a xs ∨ SqT K H' a xs
  | .inl h => .inl (L2.Same.seq s h)
  | .inr h => .inr (KB.Same.tup s h)
def mes (L : List (Bool × List Fc)) : Nat := (L.map fun e => 1 + Fc.cnts e.2).sum
theorem mes_app (a b : List (Bool × List Fc)) : mes (a ++ b) = mes a + mes b := by simp [mes]
theorem len_mes (L : List (Bool × List Fc)) : L.length ≤ mes L := by
  induction L with
  | nil => simp
  | cons e r ih => have : mes (e :: r) = 1 + Fc.cnts e.2 + mes r := by simp [mes]
                   rw [this, List.length_cons]; omega
def wnt (G : List Fc) : List (Bool × List Fc) := G.map fun f => (false, f.ws)
theorem mes_wnt : ∀ G : List Fc, mes (wnt G) = Fc.cnts G
  | [] => by rw [Fc.cnts]; rfl
  | .mk ws n :: r => by
    have : mes (wnt (.mk ws n :: r)) = 1 + Fc.cnts ws + mes (wnt r) := by simp [mes, wnt, Fc.ws]
    rw [this, mes_wnt r, Fc.cnts, Fc.cnt]
/-- what a row still to be looked at keeps to -/
def RwOk (G : List Fc) : Prop := PyData.depthAll (Fc.dats G) ≤ 180 ∧ ∀ n ∈ Fc.nums G, n < 8
theorem RwOk.wants {G : List Fc} {f : Fc} (h : RwOk G) (m : f ∈ G) : RwOk f.ws := by
  obtain ⟨ws, n⟩ := f
  have d := Fc.depth_of m
  rw [Fc.dat] at d
  simp only [PyData.depth, PyData.depthAll] at d
  refine ⟨by show PyData.depthAll (Fc.dats ws) ≤ 180; have := h.1; omega, fun k hk => h.2 k (Fc.mem_nums.mpr ⟨_, m, ?_⟩)⟩
  rw [Fc.num]; exact List.mem_cons_of_mem _ hk
theorem RwOk.num {G : List Fc} {f : Fc} (h : RwOk G) (m : f ∈ G) : f.n < 8 := by
  obtain ⟨ws, n⟩ := f
  refine h.2 n (Fc.mem_nums.mpr ⟨_, m, ?_⟩)
  rw [Fc.num]; exact List.mem_cons_self
def spIsFac (K : PySem.W.Frag) : Sp := fun vs H Q _ => ∃ v f, vs = [v] ∧ Dq K H v (Fc.dat f) ∧ f.n < 8 ∧ Q (.bl true) H
def spIsForm (K : PySem.W.Frag) : Sp := fun vs H Q _ => ∃ v F, vs = [v] ∧ Dq K H v (.list (Fc.dats F)) ∧ RwOk F ∧ Fc.cnts F ≤ 1000000 ∧ ∀ H', Same H H' → Q (.bl (Fc.her F)) H'
abbrev s_is_factor_but_for_wants : Stmt := top 15
theorem sc_is_factor_but_for_wants : FnScope ["thing", "wants", "number"] ["thing"] (defScope s_is_factor_but_for_wants) := ⟨rfl, rfl, rfl, by decide +kernel, rfl, by decide +kernel, by decide +kernel⟩
abbrev s_is_form : Stmt := top 14
theorem sc_is_form : FnScope ["thing", "rows", "left", "row", "factor"] ["thing"] (defScope s_is_form) := ⟨rfl, rfl, rfl, by decide +kernel, rfl, by decide +kernel, by decide +kernel⟩
/-- between two rows -/
def FmW (K : PySem.W.Frag) (H : Hp) (v : V) (F : List Fc) (n : Nat) (σ : L2.St) (H' : Hp) : Prop :=
  ∃ (lr ll : Addr) (rs us : List V) (R L : List (Bool × List Fc)) (o3 o4 : Option V), σ = [some v, some (.ref lr), some (.ref ll), o3, o4] ∧ lr ≠ ll ∧ H' lr = some (.lst rs) ∧ H' ll = some (.lst us) ∧
    DqAll K (out lr (out ll H')) rs (R.map rwd) ∧ DqAll K (out lr (out ll H')) us (L.map rwd) ∧ n = mes L ∧ (R.map (·.2) ++ L.flatMap fun e => Fc.rows e.2).Perm (Fc.rows F) ∧ R.length + n ≤ 1 + Fc.cnts F ∧
    (∀ e ∈ R, RwOk e.2) ∧ (∀ e ∈ L, RwOk e.2) ∧ Same H (out lr (out ll H'))
/-- between two factors of a row -/
def FnW (K : PySem.W.Frag) (H3 : Hp) (v y : V) (lr ll : Addr) (rs : List V) (L : List (Bool × List Fc)) (G : List Fc) (i : Nat) (σ : L2.St) (H' : Hp) : Prop :=
  ∃ (us : List V) (o4 : Option V), σ = [some v, some (.ref lr), some (.ref ll), some y, o4] ∧ H' lr = some (.lst rs) ∧ H' ll = some (.lst us) ∧ DqAll K (out lr (out ll H')) us ((L ++ wnt (G.take i)).map rwd) ∧ Same (out lr (out ll H3)) (out lr (out ll H'))
/-- between two rows that are held against themselves sorted -/
def FsW (H : Hp) (v : V) (lr ll : Addr) (rs : List V) (R : List (Bool × List Fc)) (i : Nat) (σ : L2.St) (H' : Hp) : Prop :=
  ∃ o3 o4 : Option V, σ = [some v, some (.ref lr), some (.ref ll), o3, o4] ∧ Same H H' ∧ ∀ e ∈ R.take i, (Fc.cmps e.2 (Fc.srt e.2) == .eq) = true
theorem or_both {A B C D S E : Prop} (h : A ∨ B) (l : A → S → E → C) (r : B → S → E → D) (s : S) (d : E) : C ∨ D := h.elim (fun a => .inl (l a s d)) (fun b => .inr (r b s d))
theorem at_rwd {K : PySem.W.Frag} {H : Hp} : ∀ {xs : List V} {F : List (Bool × List Fc)} {i : Nat} {x : V}, DqAll K H xs (F.map rwd) → xs[i]? = some x → ∃ f, F[i]? = some f ∧ Dq K H x (rwd f)
  | [], _, i, x, _, h => by simp at h
  | y :: r, [], i, x, d, h => by cases d
  | y :: r, f :: t, 0, x, d, h => by
    cases d with
    | cons a b => exact ⟨f, rfl, (show y = x by simpa using h) ▸ a⟩
  | y :: r, f :: t, i + 1, x, d, h => by
    cases d with
    | cons a b =>
      obtain ⟨g, e, q⟩ := at_rwd b (i := i) (by simpa using h)
      exact ⟨g, by simpa using e, q⟩
section
variable {P : Program} {w : World} {K : PySem.W.Frag} {mg : Str → Option Value} {base : Heap} {CN CT : Addr}
theorem ok_isfac (A : At K mg "_is_factor_but_for_wants" s_is_factor_but_for_wants) (T : Txt K mg w CN CT) (C_is_base_number : Cal P w K mg base CX0 1 "is_base_number" ["thing"] (spBn K)) : Cal P w K mg base CX0 2 "_is_factor_but_for_wants" ["thing"] (spIsFac K) := by
  obtain ⟨f, fd, F, m⟩ := A
  refine ⟨f, fd, F.ok sc_is_factor_but_for_wants (fun vs H Q E h => ?_) (fun cdv A outer s H vs Q E hr h => ?_), F.binds (ps := ["thing"]) (fun _ _ _ _ _ _ us hl => match us, hl with | [_], _ => rfl), F.kp, m⟩
  · obtain ⟨v, f, rfl, _⟩ := h; rfl
  obtain ⟨v, ⟨ws, n⟩, rfl, hd, hn, q⟩ := h
  refine ⟨_, (pss_cons (ps_if (PW.pt (pw_or (pt_cmpR op_notTyB (pe_callTy call_type1 (by rfl) T.z_type (by decide +kernel) (pa_cons (pv 0) pa_nil)) (pe_bltn (v := .ty "tuple") (by rfl) T.z_tuple (by decide +kernel) rfl) (nomark _)) (pw_or1 (pt_cmpR (op_neA (room200 hr)) (pe_callB call_len (by rfl) T.z_len (by decide +kernel) (pa_cons (pv 0) pa_nil)) pe_int (nomark _)))))
   (pss_one (ps_ret pe_bl))
   pss_nil)
  (pss_cons (ps_asg (pv 0) (pg_tup (by rfl) (pgs_cons (pg_name (i := 1) sc_is_factor_but_for_wants.nd rfl (by first | exact Or.inl rfl | exact Or.inr rfl)) (pgs_cons (pg_name (i := 2) sc_is_factor_but_for_wants.nd rfl (by first | exact Or.inl rfl | exact Or.inr rfl)) pgs_nil))))
  (pss_one (ps_ret (pe_and (pe_cmpR op_isTyB (pe_callTy call_type1 (by rfl) T.z_type (by decide +kernel) (pa_cons (pv 1) pa_nil)) (pe_bltn (v := .ty "tuple") (by rfl) T.z_tuple (by decide +kernel) rfl) (nomark _)) (pe_one (pe_calC C_is_base_number (hr.mono (by first | decide | omega)) pass0 (pa_cons (pv 2) pa_nil)))))))), ?_⟩
  rw [Fc.dat] at hd
  refine ⟨_, rfl, _, _, rfl, hd.ty, _, _, rfl, rfl, _, rfl, iteF' rfl ?_⟩
  obtain ⟨a, xs, ds, rfl, ed, hS, hA⟩ := dq_tup hd rfl
  have ed' : ds = [.tuple (Fc.dats ws), .int n] := (PyData.tuple.inj ed).symm
  subst ed'
  rcases dqa_split hA with ⟨_, z⟩ | ⟨wv, xs1, d1, r1, rfl, z, gw, g1⟩
  · cases z
  cases z
  rcases dqa_split g1 with ⟨_, z⟩ | ⟨nv, xs2, d2, r2, rfl, z, gn, g2⟩
  · cases z
  cases z
  cases g2
  cases gn
  refine ⟨_, rfl, _, _, rfl, .inr ⟨_, hS, rfl⟩, .inl ⟨rfl, _, rfl, iteF' (by show (!decide (V.int 2 = V.int 2)) = false; decide) ?_⟩⟩
  refine ⟨_, rfl, a, _, rfl, hS, rfl, _, _, rfl, _, _, rfl, rfl, ?_⟩
  refine ⟨_, rfl, _, _, rfl, gw.ty, _, _, rfl, rfl, _, rfl, iteT' rfl ?_⟩
  refine ⟨_, rfl, _, _, rfl, .int _, qbl q ?_⟩
  have h8 : ((n : Nat) : Int) < 8 := by have : n < 8 := hn; omega
  simp [isBn, h8]
theorem ok_is_form (A : At K mg "is_form" s_is_form) (T : Txt K mg w CN CT) (C_is_factor_but_for_wants : Cal P w K mg base CX0 2 "_is_factor_but_for_wants" ["thing"] (spIsFac K)) : Cal P w K mg base CX0 3 "is_form" ["thing"] (spIsForm K) := by
  obtain ⟨f, fd, F, m⟩ := A
  refine ⟨f, fd, F.ok sc_is_form (fun vs H Q E h => ?_) (fun cdv A outer s H vs Q E hr h => ?_), F.binds (ps := ["thing"]) (fun _ _ _ _ _ _ us hl => match us, hl with | [_], _ => rfl), F.kp, m⟩
  · obtain ⟨v, f, rfl, _⟩ := h; rfl
  obtain ⟨v, F, rfl, hd, hF, hz, q⟩ := h
  refine ⟨_, (pss_cons (ps_if (pt_cmpR op_notTyB (pe_callTy call_type1 (by rfl) T.z_type (by decide +kernel) (pa_cons (pv 0) pa_nil)) (pe_bltn (v := .ty "list") (by rfl) T.z_list (by decide +kernel) rfl) (nomark _))
   (pss_one (ps_ret pe_bl))
   pss_nil)
  (pss_cons (ps_set (i := 1) sc_is_form.nd rfl (by first | exact Or.inl rfl | exact Or.inr rfl) (pe_lst pa_nil))
  (pss_cons (ps_set (i := 2) sc_is_form.nd rfl (by first | exact Or.inl rfl | exact Or.inr rfl) (pe_lst (pa_cons (pv 0) pa_nil)))
  (pss_cons (ps_while PassesOwn.never (pt_truth (pv 2) (by intro _; rfl))
   (pss_cons (ps_set (i := 3) sc_is_form.nd rfl (by first | exact Or.inl rfl | exact Or.inr rfl) (pe_bm0 PySem.F.plainAttrs_list PySem.F.slot_list_pop PySem.F.type_list_pop mt_pop (pv 2) ))
  (pss_cons (ps_expr (pe_bm PySem.F.plainAttrs_list PySem.F.slot_list_append PySem.F.type_list_append mt_append (pv 1) (pa_cons (pv 3) pa_nil)))
  (pss_one (ps_for PassesOwn.never rfl (pi_seq (pv 3)) (pg_name (i := 4) sc_is_form.nd rfl (by first | exact Or.inl rfl | exact Or.inr rfl))
   (pss_cons (ps_if (pt_not (pt_val (pe_calC C_is_factor_but_for_wants (hr.mono (by first | decide | omega)) pass0 (pa_cons (pv 4) pa_nil))))
   (pss_one (ps_ret pe_bl))
   pss_nil)
  (pss_one (ps_expr (pe_bm PySem.F.plainAttrs_list PySem.F.slot_list_append PySem.F.type_list_append mt_append (pv 2) (pa_cons (pe_ix ix_B (pv 4) pe_int (fun _ _ => rfl)) pa_nil))))))))))
  (pss_cons (ps_for PassesOwn.never rfl (pi_list (pv 1)) (pg_name (i := 3) sc_is_form.nd rfl (by first | exact Or.inl rfl | exact Or.inr rfl))
   (pss_one (ps_if (pt_cmpR (op_neA (room200 hr)) (pe_callTy call_list_of (by rfl) T.z_list (by decide +kernel) (pa_cons (pv 3) pa_nil)) (pe_callB (call_sortG (room200 hr)) (by rfl) T.z_sorted (by decide +kernel) (pa_cons (pv 3) pa_nil)) (nomark _))
   (pss_one (ps_ret pe_bl))
   pss_nil)))
  (pss_one (ps_ret pe_bl))))))), ?_⟩
  refine ⟨_, rfl, _, _, rfl, hd.ty, _, _, rfl, rfl, _, rfl, iteF' rfl ?_⟩
  refine ⟨Nat.zero_le _, fun lr h1 => ⟨_, rfl, (by show 1 ≤ sizeLine; decide), fun ll h2 => ?_⟩⟩
  have e1 : upd (upd H lr (.lst [])) ll (.lst [v]) lr = some (.lst []) := same_new h2 _ _ _ upd_same
  have ne : lr ≠ ll := ne_of_none upd_same h2
  have hll : H ll = none := by
    cases z : H ll with
    | none => rfl
    | some u => rw [same_new h1 _ _ _ z] at h2; cases h2
  have s0 : Same H (out lr (out ll (upd (upd H lr (.lst [])) ll (.lst [v])))) := fun b u e => by
    have n1 := ne_of_none e h1
    have n2 := ne_of_none e hll
    rw [out_ne n1, out_ne n2, upd_ne n2, upd_ne n1]; exact e
  have hd0 : Dq K (out lr (out ll (upd (upd H lr (.lst [])) ll (.lst [v])))) v (rwd (true, F)) := hd.same s0
  refine ⟨FmW K H v F, ⟨1 + Fc.cnts F, lr, ll, [], [v], [], [(true, F)], none, none, rfl, ne, e1, upd_same, .nil, .cons hd0 .nil, by simp [mes], by simp, by simp, by simp, by simpa using hF, s0⟩, ?_⟩
  clear s0 hd0 e1 ne hll h1 h2
  rintro n σ H1 ⟨lr, ll, rs, us, R, L, o3, o4, rfl, ne, e1, e2, dr, du, rfl, hp, hn, hR, hL, sm⟩
  refine ⟨_, rfl, _, .inl ⟨us, .of e2, rfl⟩, ?_⟩
  rcases List.eq_nil_or_concat L with hs | ⟨L', e, hs⟩
  · subst hs
    cases du
    refine iteF' rfl ?_
    have hp' : (R.map (·.2)).Perm (Fc.rows F) := by simpa using hp
    refine ⟨_, rfl, lr, rfl, ⟨rs, .of e1⟩, ?_⟩
    refine for_list (K := K) (a := lr) (xs := rs) (FsW H1 v lr ll rs R) ⟨_, _, rfl, Same.refl _, by simp⟩ ?_ ?_ ?_
    · rintro i σ H2 _ ⟨o3, o4, rfl, s2, _⟩
      exact .of (s2 _ _ e1)
    · rintro i x σ H2 hx ⟨o3, o4, rfl, s2, hk⟩
      obtain ⟨⟨b, G⟩, eg, hg⟩ := at_rwd (dr.same (out2_sub.trans s2)) hx
      have mg' : (b, G) ∈ R := List.mem_of_getElem? eg
      obtain ⟨a, xs, rfl, hS, hA⟩ := rwd_read hg
      have okG := hR _ mg'
      refine ⟨_, rfl, a, xs, rfl, hS, fun p hp1 => ?_⟩
      have s3 := same_new hp1 (.lst xs)
      refine ⟨_, rfl, a, xs, G, rfl, seq_same s3 hS, hA.same s3, okG.1, fun ys p2 hy hp2 => ?_⟩
      have s4 := same_new hp2 (.lst ys)
      have x1 : Dq K (upd (upd H2 p (.lst xs)) p2 (.lst ys)) (.ref p) (.list (Fc.dats G)) := .lst (.of (s4 _ _ upd_same)) (hA.same (s3.trans s4))
      have x2 : Dq K (upd (upd H2 p (.lst xs)) p2 (.lst ys)) (.ref p2) (.list (Fc.dats (Fc.srt G))) := .lst (.of upd_same) (hy.same s4)
      have c1 : (PyData.list (Fc.dats G)).canLay0 = true := by simpa [PyData.canLay0] using Fc.lays G
      have c2 : (PyData.list (Fc.dats (Fc.srt G))).canLay0 = true := by simpa [PyData.canLay0] using Fc.lays (Fc.srt G)
      refine .inr ⟨_, _, x1.dp c1, x2.dp c2, c1, c2, by have dG : PyData.depthAll (Fc.dats G) ≤ 180 := okG.1; simp only [PyData.depth]; omega, _, rfl, ?_⟩
      rw [ev_lst, Fc.eqvs]
      have s5 := s2.trans (s3.trans s4)
      by_cases hc : (Fc.cmps G (Fc.srt G) == .eq) = true
      · refine iteF' (by rw [hc]; rfl) ⟨_, _, rfl, s5, ?_⟩
        intro e he
        rw [List.take_add_one, eg] at he
        rcases List.mem_append.mp he with he | he
        · exact hk e he
        · have : e = (b, G) := by simpa using he
          rw [this]; exact hc
      · have hc' : (Fc.cmps G (Fc.srt G) == .eq) = false := Bool.eq_false_iff.mpr hc
        refine iteT' (by rw [hc']; rfl) (qbl (q _ ((of_out2 sm).trans s5)) ?_)
        refine Bool.eq_false_iff.mpr fun z => hc ?_
        exact List.all_eq_true.mp z G (hp'.mem_iff.mp (List.mem_map.mpr ⟨_, mg', rfl⟩))
    · rintro σ H2 ⟨o3, o4, rfl, s2, hk⟩
      have hlen := dr.length
      rw [List.length_map] at hlen
      rw [hlen, List.take_length] at hk
      refine qbl (q _ ((of_out2 sm).trans s2)) ?_
      refine List.all_eq_true.mpr fun r hr => ?_
      obtain ⟨e, he, rfl⟩ := List.mem_map.mp (hp'.mem_iff.mpr hr)
      exact hk e he
  rw [List.concat_eq_append] at hs
  subst hs
  obtain ⟨b, G⟩ := e
  have em : (L' ++ [(b, G)]).map rwd = L'.map rwd ++ [rwd (b, G)] := by simp
  rw [em] at du
  obtain ⟨us', y, rfl, du1, hy⟩ := du.last
  have okG : RwOk G := hL (b, G) (by simp)
  have hL' : ∀ e ∈ L', RwOk e.2 := fun e he => hL e (List.mem_append.mpr (.inl he))
  refine iteT' (by simp) ⟨_, fun _ _ z => z, ?_⟩
  refine ⟨_, rfl, .inl ⟨rfl, _, .of e2⟩, ll, us' ++ [y], y, rfl, rfl, e2, last_at us' y, ?_⟩
  rw [dl_append]
  have hrl := dr.length
  rw [List.length_map] at hrl
  have e1b : upd H1 ll (.lst us') lr = some (.lst rs) := (upd_ne ne).trans e1
  have hmz : mes (L' ++ [(b, G)]) = mes L' + (1 + Fc.cnts G) := by rw [mes_app]; simp [mes]
  rw [hmz] at hn ⊢
  refine ⟨_, rfl, .inl ⟨rfl, _, .of e1b⟩, _, rfl, lr, rs, _, rfl, rfl, e1b, fits_lt (by omega), ?_⟩
  have s3 : Same (out lr (out ll H1)) (out lr (out ll (upd (upd H1 ll (.lst us')) lr (.lst (rs ++ [y]))))) := same2 (same2 (Same.refl _) _ (.inr rfl)) _ (.inl rfl)
  have e3r : upd (upd H1 ll (.lst us')) lr (.lst (rs ++ [y])) lr = some (.lst (rs ++ [y])) := upd_same
  have e3l : upd (upd H1 ll (.lst us')) lr (.lst (rs ++ [y])) ll = some (.lst us') := (upd_ne ne.symm).trans upd_same
  have sm3 := sm.trans s3
  have dr3 := dr.same s3
  have du3 := du1.same s3
  have hy3 := hy.same s3
  generalize upd (upd H1 ll (.lst us')) lr (.lst (rs ++ [y])) = H3 at s3 e3r e3l sm3 dr3 du3 hy3 ⊢
  obtain ⟨a, xs, rfl, hS, hA⟩ := rwd_read hy3
  have hxl := hA.length
  rw [Fc.dats_length] at hxl
  have hul := du3.length
  rw [List.length_map] at hul
  have hll := len_mes L'
  have lenG : G.length ≤ Fc.cnts G := by
    have := mes_wnt G
    have := len_mes (wnt G)
    simp only [wnt, List.length_map] at this
    rw [← mes_wnt G]; exact this
  refine or_both (C := iList _ _ _ _ _) (D := iTup _ _ _ _ _) hS (fun hS s d => ⟨_, rfl, a, rfl, ⟨xs, L2.Same.seq out2_sub hS⟩, for_list (K := K) (a := a) (xs := xs) (FnW K H3 v (.ref a) lr ll (rs ++ [.ref a]) L' G) ⟨_, _, rfl, e3r, e3l, by simpa [wnt] using du3, Same.refl _⟩ (fun i σ H' _ h => by obtain ⟨us, o4, _, _, _, _, z⟩ := h; exact L2.Same.seq out2_sub (L2.Same.seq z hS)) s d⟩)
    (fun hS s d => ⟨_, rfl, a, rfl, ⟨xs, KB.Same.tup out2_sub hS⟩, for_tup (K := K) (a := a) (xs := xs) (FnW K H3 v (.ref a) lr ll (rs ++ [.ref a]) L' G) ⟨_, _, rfl, e3r, e3l, by simpa [wnt] using du3, Same.refl _⟩ (fun i σ H' _ h => by obtain ⟨us, o4, _, _, _, _, z⟩ := h; exact KB.Same.tup out2_sub (KB.Same.tup z hS)) s d⟩) ?_ ?_
  · rintro i x σ H4 hx ⟨us4, o4, rfl, e4r, e4l, du4, s4⟩
    obtain ⟨g, eg, hg⟩ := at_dats (hA.same s4) hx
    have mg' : g ∈ G := List.mem_of_getElem? eg
    have hiG : i < G.length := (List.getElem?_eq_some_iff.mp eg).1
    have hg4 := hg.same out2_sub
    refine ⟨_, rfl, x, g, rfl, hg4, okG.num mg', _, rfl, iteF' rfl ?_⟩
    refine ⟨_, rfl, .inl ⟨rfl, _, .of e4l⟩, ?_⟩
    have nx : wnt (G.take (i + 1)) = wnt (G.take i) ++ [(false, g.ws)] := by rw [List.take_add_one, eg]; simp [wnt]
    obtain ⟨ws, n⟩ := g
    rw [Fc.dat] at hg
    obtain ⟨ga, gxs, ds, rfl, ed, hSg, hAg⟩ := dq_tup hg rfl
    have ed' : ds = [.tuple (Fc.dats ws), .int n] := (PyData.tuple.inj ed).symm
    subst ed'
    rcases dqa_split hAg with ⟨_, z⟩ | ⟨wv, xs1, d1, r1, rfl, z, gw, g1⟩
    · cases z
    cases z
    have u4 := du4.length
    rw [List.length_map, List.length_append, wnt, List.length_map, List.length_take] at u4
    refine ⟨_, rfl, .inl (.inr (.inl ⟨ga, _, 0, wv, rfl, rfl, KB.Same.tup out2_sub hSg, at0 _ _, ll, us4, _, rfl, rfl, e4l, fits_lt (by omega), ?_⟩))⟩
    have s5 : Same (out lr (out ll H4)) (out lr (out ll (upd H4 ll (.lst (us4 ++ [wv]))))) := same2 (Same.refl _) _ (.inr rfl)
    refine ⟨_, _, rfl, (upd_ne ne).trans e4r, upd_same, ?_, s4.trans s5⟩
    rw [nx, ← List.append_assoc, List.map_append]
    exact (du4.same s5).append (.cons (gw.same s5) .nil)
  · rintro σ H4 ⟨us4, o4, rfl, e4r, e4l, du4, s4⟩
    rw [hxl, List.take_length] at du4
    have dr4 : DqAll K (out lr (out ll H4)) (rs ++ [.ref a]) ((R ++ [(b, G)]).map rwd) := by
      rw [List.map_append]
      exact (dr3.same s4).append (.cons (hy3.same s4) .nil)
    refine ⟨mes (L' ++ wnt G), by rw [mes_app, mes_wnt]; omega, lr, ll, _, us4, R ++ [(b, G)], L' ++ wnt G, _, _, rfl, ne, e4r, e4l, dr4, du4, rfl, ?_, by rw [mes_app, mes_wnt, List.length_append]; simp only [List.length_cons, List.length_nil]; omega, ?_, ?_, sm3.trans s4⟩
    · refine List.Perm.trans ?_ hp
      rw [List.map_append, List.flatMap_append, List.flatMap_append, List.append_assoc]
      refine List.Perm.append_left _ ?_
      have e1 : ([(b, G)] : List (Bool × List Fc)).flatMap (fun e => Fc.rows e.2) = G :: Fc.rowsW G := by simp [Fc.rows]
      have e2 : (wnt G).flatMap (fun e => Fc.rows e.2) = Fc.rowsW G := by rw [Fc.rowsW_map, wnt, List.flatMap_map, List.flatMap_def]
      rw [e1, e2]
      exact (List.perm_middle (a := G) (l₁ := L'.flatMap fun e => Fc.rows e.2) (l₂ := Fc.rowsW G)).symm
    · intro e he
      rcases List.mem_append.mp he with he | he
      · exact hR e he
      · rw [List.mem_singleton.mp he]; exact okG
    · intro e he
      rcases List.mem_append.mp he with he | he
      · exact hL' e he
      · obtain ⟨g, hg, rfl⟩ := List.mem_map.mp he
        exact okG.wants hg
end
/-! ## kind_of of a form -/
def spKindOf (K : PySem.W.Frag) (N : Nat) : Sp := fun vs H Q _ => ∃ (a : Addr) (xs : List V) (F : List Fc), vs = [.ref a] ∧ SqL K H a xs ∧ DqAll K H xs (Fc.dats F) ∧ RwOk F ∧ Fc.her F = true ∧ PyData.depthAll (Fc.dats F) < N ∧ Fc.cnts F ≤ 300000 ∧
  ∀ (v : V) (H' : Hp), Dq K H' v (Fc.kds F).dat → Same H H' → Q v H'
abbrev s_kind_of : Stmt := top 16
theorem sc_kind_of : FnScope ["form"] ["form"] (defScope s_kind_of) := ⟨rfl, rfl, rfl, by decide +kernel, rfl, by decide +kernel, by decide +kernel⟩
section
variable {P : Program} {w : World} {K : PySem.W.Frag} {mg : Str → Option Value} {base : Heap} {CN CT : Addr}
theorem ok_kind_of {N : Nat} (A : At K mg "kind_of" s_kind_of) (T : Txt K mg w CN CT) (C_is_form : Cal P w K mg base CX0 3 "is_form" ["thing"] (spIsForm K)) (C_kind_of_factors : Cal P w K mg base CX0 N "_kind_of_factors" ["factors"] (spKof K N)) : Cal P w K mg base (L2.CX P w) (N + 4) "kind_of" ["form"] (spKindOf K N) := by
  obtain ⟨f, fd, F, m⟩ := A
  refine ⟨f, fd, F.okX sc_kind_of (fun vs H Q E h => ?_) (fun cdv A outer s H vs Q E hr h => ?_), F.binds (ps := ["form"]) (fun _ _ _ _ _ _ us hl => match us, hl with | [_], _ => rfl), F.kp, m⟩
  · obtain ⟨a, xs, F, rfl, _⟩ := h; rfl
  obtain ⟨a, xs, F, rfl, hS, hA, ok, he, hdp, hc, q⟩ := h
  refine ⟨_, (pss_cons (ps_if (pt_not (pt_val (pe_calC C_is_form (hr.mono (by first | decide | omega)) pass0 (pa_cons (pv 0) pa_nil))))
   (pss_one (ps_raiseO rfl (takes_of rfl rfl rfl rfl) T.e_NoForm))
   pss_nil)
  (pss_one (ps_ret (pe_calC C_kind_of_factors (hr.mono (by first | decide | omega)) pass0 (pa_cons (pv 0) pa_nil))))), ?_⟩
  refine ⟨_, rfl, _, F, rfl, .lst hS hA, ok, by omega, fun H1 s1 => ⟨_, rfl, ?_⟩⟩
  rw [he]
  refine iteF' rfl ?_
  exact ⟨_, rfl, a, xs, F, rfl, .inl (L2.Same.seq s1 hS), hA.same s1, hdp, by rw [Fc.szs_cnt]; omega, fun v H2 dv s2 => q v H2 dv (s1.trans s2)⟩
end

/-! ## a drawn kind, so deep at most -/
def spKind (K : PySem.W.Frag) (N : Nat) : Sp := fun vs H Q _ => ∃ (w : Addr) (n : Int), vs = [.ref w, .int n] ∧ Well H w ∧ 0 ≤ n ∧ n < N ∧ N ≤ 100 ∧
  ∀ (k : Kd) (v : V) (H' : Hp), k.ok → k.leaves ≤ 2 ^ n.toNat → k.deep ≤ n.toNat + 1 → Dq K (out w H') v k.dat → Aft w H H' → Q v H'
abbrev s_law_kind : Stmt := top 21
theorem sc_law_kind : FnScope ["state", "deep", "way", "word"] ["state", "deep"] (defScope s_law_kind) := ⟨rfl, rfl, rfl, by decide +kernel, rfl, by decide +kernel, by decide +kernel⟩
section
variable {P : Program} {w : World} {K : PySem.W.Frag} {mg : Str → Option Value} {base : Heap} {CN CT : Addr}
theorem base_at {K : PySem.W.Frag} {H : Hp} {p : Addr} {d : Int} (h : H p = some (.tup [.str "base", .int d])) (d0 : 0 ≤ d) : Dq K H (.ref p) (Kd.b d.toNat).dat := by
  have e : ((d.toNat : Nat) : Int) = d := by omega
  refine .tup (.of h) (.cons (.str _) (.cons ?_ .nil))
  show Dq K H (.int d) (.int (d.toNat : Nat))
  rw [e]; exact .int _
theorem unit_at {K : PySem.W.Frag} {H : Hp} {p : Addr} (h : H p = some (.tup [.str "unit"])) : Dq K H (.ref p) Kd.u.dat := .tup (.of h) (.cons (.str _) .nil)
theorem pick2 {i : Int} (h0 : 0 ≤ i) (h1 : i < 2) : ∃ mk wd, Mk2 mk wd ∧ atI [V.str "both", V.str "from"] i = some (.str wd) := by
  have : i = 0 ∨ i = 1 := by omega
  rcases this with rfl | rfl
  · exact ⟨_, _, mk_p, rfl⟩
  · exact ⟨_, _, mk_f, rfl⟩
theorem pick3 {i : Int} (h0 : 0 ≤ i) (h1 : i < 3) : ∃ x : Int, 0 < x ∧ x ≤ 8 ∧ atI [V.int 3, V.int 3, V.int 8] i = some (.int x) := by
  have : i = 0 ∨ i = 1 ∨ i = 2 := by omega
  rcases this with rfl | rfl | rfl
  · exact ⟨3, by decide, by decide, rfl⟩
  · exact ⟨3, by decide, by decide, rfl⟩
  · exact ⟨8, by decide, by decide, rfl⟩
theorem ok_kind1 {N : Nat} (A : At K mg "_law_kind" s_law_kind) (T : Txt K mg w CN CT) (C_law_digit : Cal P w K mg base CX0 1 "_law_digit" ["state", "base"] spDigit)
    (C_law_kind : Cal P w K mg base CX0 (N + 1) "_law_kind" ["state", "deep"] (spKind K N)) : Cal P w K mg base CX0 (N + 2) "_law_kind" ["state", "deep"] (spKind K (N + 1)) := by
  obtain ⟨f, fd, F, m⟩ := A
  refine ⟨f, fd, F.ok sc_law_kind (fun vs H Q E h => ?_) (fun cdv A outer s H vs Q E hr h => ?_), F.binds (ps := ["state", "deep"]) (fun _ _ _ _ _ _ us hl => match us, hl with | [_, _], _ => rfl), F.kp, m⟩
  · obtain ⟨w, n, rfl, _⟩ := h; rfl
  obtain ⟨wl, n, rfl, hw, n0, n1, hN, q⟩ := h
  refine ⟨_, (pss_cons (ps_set (i := 2) sc_law_kind.nd rfl (by first | exact Or.inl rfl | exact Or.inr rfl) (pe_calC C_law_digit (hr.mono (by first | decide | omega)) pass0 (pa_cons (pv 0) (pa_cons pe_int pa_nil))))
  (pss_cons (ps_if (PW.pt (pw_or (pt_cmpR (op_eqA (room200 hr)) (pv 1) pe_int (nomark _)) (pw_or1 (pt_cmpR op_lt (pv 2) pe_int (nomark _)))))
   (pss_cons (ps_if (pt_cmpR (op_eqA (room200 hr)) (pe_calC C_law_digit (hr.mono (by first | decide | omega)) pass0 (pa_cons (pv 0) (pa_cons pe_int pa_nil))) pe_int (nomark _))
   (pss_one (ps_ret (pe_tup (pa_cons pe_str pa_nil))))
   pss_nil)
  (pss_one (ps_ret (pe_tup (pa_cons pe_str (pa_cons (pe_calC C_law_digit (hr.mono (by first | decide | omega)) pass0 (pa_cons (pv 0) (pa_cons (pe_ix ix_B (pe_lst (pa_cons pe_int (pa_cons pe_int (pa_cons pe_int pa_nil)))) (pe_calC C_law_digit (hr.mono (by first | decide | omega)) pass0 (pa_cons (pv 0) (pa_cons pe_int pa_nil))) (fun _ _ => rfl)) pa_nil))) pa_nil))))))
   pss_nil)
  (pss_cons (ps_set (i := 3) sc_law_kind.nd rfl (by first | exact Or.inl rfl | exact Or.inr rfl) (pe_ix ix_B (pe_lst (pa_cons pe_str (pa_cons pe_str pa_nil))) (pe_op op_mod (pv 2) pe_int) (fun _ _ => rfl)))
  (pss_one (ps_ret (pe_tup (pa_cons (pv 3) (pa_cons (pe_calC C_law_kind (hr.mono (by first | decide | omega)) pass0 (pa_cons (pv 0) (pa_cons (pe_op op_sub (pv 1) pe_int) pa_nil))) (pa_cons (pe_calC C_law_kind (hr.mono (by first | decide | omega)) pass0 (pa_cons (pv 0) (pa_cons (pe_op op_sub (pv 1) pe_int) pa_nil))) pa_nil))))))))), ?_⟩
  refine ⟨_, rfl, wl, 8, rfl, hw, by decide, by decide, fun way H1 w0 w1 a1 => ?_⟩
  refine ⟨_, rfl, .inl ⟨rfl, _, rfl, ?_⟩⟩
  refine (fun leaf => ite2' leaf fun c => ⟨_, rfl, _, _, rfl, rfl, _, rfl, ite2' leaf fun c2 => ?node⟩) ?leaf
  case node =>
    have cn : n ≠ 0 := fun z => c (by rw [z]; rfl)
    refine ⟨(by show 2 ≤ sizeLine; decide), fun l hl => ⟨_, rfl, _, _, rfl, rfl, (by show (0 : Int) < 2; decide), ?_⟩⟩
    obtain ⟨mk, wd, M, ew⟩ := pick2 (i := way % 2) (by omega) (by omega)
    refine .inl (.inl ⟨l, _, _, _, rfl, rfl, .of upd_same, ew, ?_⟩)
    have b1 := a1.new hl (.lst [.str "both", .str "from"])
    refine ⟨_, rfl, _, rfl, _, rfl, _, _, rfl, rfl, wl, n - 1, rfl, b1.well, by omega, by omega, by omega, fun k1 v1 H2 ok1 le1 rk1 dk1 a2 => ?_⟩
    refine ⟨_, rfl, _, rfl, _, _, rfl, rfl, wl, n - 1, rfl, a2.well, by omega, by omega, by omega, fun k2 v2 H3 ok2 le2 rk2 dk2 a3 => ⟨(by show 3 ≤ sizeLine; decide), fun p hp => ?_⟩⟩
    have b3 := ((b1.trans a2).trans a3).new hp (.tup [.str wd, v1, v2])
    have en := a3.well.laid hp (.tup [.str wd, v1, v2])
    have s3 := out_new (w := wl) hp (.tup [.str wd, v1, v2])
    refine q (mk k1 k2) _ _ ((M.ok _ _).mpr ⟨ok1, ok2⟩) ?_ (by rw [M.deep]; omega) (M.dq en (dk1.same (a3.but.trans s3)) (dk2.same s3)) b3
    rw [M.leaves]
    have e : n.toNat = (n - 1).toNat + 1 := by omega
    rw [e, Nat.pow_succ]; omega
  case leaf =>
    refine ⟨_, rfl, wl, 9, rfl, a1.well, by decide, by decide, fun d2 H2 _ _ a2 => .inl ⟨rfl, _, rfl, ?_⟩⟩
    have b2 := a1.trans a2
    refine ite2 (fun c => ?_) (fun c => ?_)
    · refine ⟨(by show 1 ≤ sizeLine; decide), fun p hp => ?_⟩
      exact q .u _ _ trivial (by simp only [Kd.leaves]; exact Nat.one_le_two_pow) (by simp only [Kd.deep]; omega) (unit_at (b2.well.laid hp _)) (b2.new hp _)
    · refine ⟨_, rfl, (by show 3 ≤ sizeLine; decide), fun l hl => ?_⟩
      have b3 := b2.new hl (.lst [.int 3, .int 3, .int 8])
      have nl := b2.well.ne hl
      refine ⟨_, rfl, wl, 3, rfl, b3.well, by decide, by decide, fun d4 H4 d40 d41 a4 => ?_⟩
      obtain ⟨x, x0, x1, ex⟩ := pick3 d40 d41
      have b4 := b3.trans a4
      refine .inl (.inl ⟨l, _, _, _, rfl, rfl, .of (a4.at_ nl upd_same), ex, ?_⟩)
      refine ⟨wl, x, rfl, b4.well, x0, by omega, fun d5 H5 d50 d51 a5 => ⟨(by show 2 ≤ sizeLine; decide), fun p hp => ?_⟩⟩
      have b5 := b4.trans a5
      exact q (.b d5.toNat) _ _ (by show d5.toNat < 8; omega) (by simp only [Kd.leaves]; exact Nat.one_le_two_pow) (by simp only [Kd.deep]; omega) (base_at (b5.well.laid hp _) d50) (b5.new hp _)
theorem ok_kind (A : At K mg "_law_kind" s_law_kind) (T : Txt K mg w CN CT) (C_law_digit : Cal P w K mg base CX0 1 "_law_digit" ["state", "base"] spDigit) :
    ∀ N : Nat, Cal P w K mg base CX0 (N + 1) "_law_kind" ["state", "deep"] (spKind K N)
  | 0 => cal_vac A (fun f fd F => F.binds (ps := ["state", "deep"]) (fun _ _ _ _ _ _ us hl => match us, hl with | [_, _], _ => rfl)) fun vs H Q E ⟨w, n, _, _, h0, h1, _⟩ => by omega
  | N + 1 => ok_kind1 A T C_law_digit (ok_kind A T C_law_digit N)
end
/-- a kind by its first word -/
theorem kd_split {K : PySem.W.Frag} {H : Hp} {v : V} (k : Kd) (hd : Dq K H v k.dat) :
    (∃ a n, k = .b n ∧ v = .ref a ∧ SqT K H a [.str "base", .int (n : Nat)]) ∨ (∃ a, k = .u ∧ v = .ref a ∧ SqT K H a [.str "unit"]) ∨
    ∃ (mk : Kd → Kd → Kd) (wd : Str) (x y : Kd) (a : Addr) (v1 v2 : V), k = mk x y ∧ Mk2 mk wd ∧ ((mk = Kd.p ∧ wd = "both") ∨ (mk = Kd.f ∧ wd = "from")) ∧ v = .ref a ∧ SqT K H a [.str wd, v1, v2] ∧ Dq K H v1 x.dat ∧ Dq K H v2 y.dat := by
  cases k with
  | b n =>
    cases hd with
    | tup hS hA =>
      cases hA with
      | cons h1 h2 =>
        cases h1
        cases h2 with
        | cons h3 h4 =>
          cases h4; cases h3
          exact .inl ⟨_, _, rfl, rfl, hS⟩
  | u =>
    cases hd with
    | tup hS hA =>
      cases hA with
      | cons h1 h2 => cases h1; cases h2; exact .inr (.inl ⟨_, rfl, rfl, hS⟩)
  | p x y =>
    cases hd with
    | tup hS hA =>
      cases hA with
      | cons h1 h2 =>
        cases h1
        cases h2 with
        | cons h3 h4 => cases h4 with | cons h5 h6 => cases h6; exact .inr (.inr ⟨_, _, x, y, _, _, _, rfl, mk_p, .inl ⟨rfl, rfl⟩, rfl, hS, h3, h5⟩)
  | f x y =>
    cases hd with
    | tup hS hA =>
      cases hA with
      | cons h1 h2 =>
        cases h1
        cases h2 with
        | cons h3 h4 => cases h4 with | cons h5 h6 => cases h6; exact .inr (.inr ⟨_, _, x, y, _, _, _, rfl, mk_f, .inr ⟨rfl, rfl⟩, rfl, hS, h3, h5⟩)

/-! ## the form by the law's own; and back -/
def spLf (K : PySem.W.Frag) (N : Nat) : Sp := fun vs H Q _ => ∃ (v : V) (k : Kd), vs = [v] ∧ Dq K H v k.dat ∧ k.ok ∧ k.deep < N ∧ k.rk ≤ 80 ∧ k.leaves ≤ 5000 ∧
  ∀ (ys : List V) (p : Addr) (H' : Hp), H p = none → H' p = some (.lst ys) → DqAll K (out p H') ys (Fc.dats k.form) → Same H (out p H') → Q (.ref p) H'
def spBk (K : PySem.W.Frag) (N : Nat) : Sp := fun vs H Q _ => ∃ (a : Addr) (xs : List V) (F : List Fc), vs = [.ref a] ∧ (SqL K H a xs ∨ SqT K H a xs) ∧ DqAll K H xs (Fc.dats F) ∧ (Fc.kds F).deep < N ∧ PyData.depthAll (Fc.dats F) ≤ 180 ∧
  ∀ (v : V) (H' : Hp), Dq K H' v (Fc.kds F).dat → Same H H' → Q v H'
abbrev s_law_form : Stmt := top 22
theorem sc_law_form : FnScope ["kind", "found", "wants", "n"] ["kind"] (defScope s_law_form) := ⟨rfl, rfl, rfl, by decide +kernel, rfl, by decide +kernel, by decide +kernel⟩
theorem none_of {H H' : Hp} {p : Addr} (s : Same H H') (h : H' p = none) : H p = none := by
  cases z : H p with
  | none => rfl
  | some u => rw [s _ _ z] at h; cases h
/-- between two factors -/
def LoW (K : PySem.W.Frag) (H1 : Hp) (v : V) (lf : Addr) (x y : Kd) (i : Nat) (σ : L2.St) (H' : Hp) : Prop :=
  ∃ (fs : List V) (o2 o3 : Option V), σ = [some v, some (.ref lf), o2, o3] ∧ H' lf = some (.lst fs) ∧ DqAll K H' fs (Fc.dats ((y.form.take i).map (Fc.add x.form))) ∧ Same (out lf H1) (out lf H')
theorem ix0_seq {K : PySem.W.Frag} {W : World} {H : Hp} {a : Addr} {x : V} {xs : List V} {Q : VK} (h : SqL K H a (x :: xs) ∨ SqT K H a (x :: xs)) (q : Q x H) : rIxB K W (.ref a) (.int 0) H Q := by
  rcases h with h | h
  · exact .inl (.inl ⟨a, _, 0, x, rfl, rfl, h, at0 _ _, q⟩)
  · exact .inl (.inr (.inl ⟨a, _, 0, x, rfl, rfl, h, at0 _ _, q⟩))
theorem sl1_seq {K : PySem.W.Frag} {H : Hp} {a : Addr} {x : V} {xs : List V} {Q : VK} (h : SqL K H a (x :: xs) ∨ SqT K H a (x :: xs)) (q : ∀ p H2, (SqL K H2 p xs ∨ SqT K H2 p xs) → Same H H2 → Q (.ref p) H2) : rSlA K (.ref a) (some 1) none H Q := by
  rcases h with h | h
  · exact .inl ⟨a, _, rfl, h, fun p hp => by rw [cut1]; exact q p _ (.inl (.of upd_same)) (same_new hp _)⟩
  · exact .inr (.inl ⟨a, _, rfl, h, cut1_not _ _, fun p hp => by rw [cut1]; exact q p _ (.inr (.of upd_same)) (same_new hp _)⟩)
section
variable {P : Program} {w : World} {K : PySem.W.Frag} {mg : Str → Option Value} {base : Heap} {CN CT : Addr}
theorem ok_lform1 {N : Nat} (A : At K mg "_law_form" s_law_form) (T : Txt K mg w CN CT) (C_law_form : Cal P w K mg base CX0 N "_law_form" ["kind"] (spLf K N)) : Cal P w K mg base CX0 (N + 1) "_law_form" ["kind"] (spLf K (N + 1)) := by
  obtain ⟨f, fd, F, m⟩ := A
  refine ⟨f, fd, F.ok sc_law_form (fun vs H Q E h => ?_) (fun cdv A outer s H vs Q E hr h => ?_), F.binds (ps := ["kind"]) (fun _ _ _ _ _ _ us hl => match us, hl with | [_], _ => rfl), F.kp, m⟩
  · obtain ⟨v, k, rfl, _⟩ := h; rfl
  obtain ⟨v, k, rfl, hd, ok, hN, hrk, hlv, q⟩ := h
  refine ⟨_, (pss_cons (ps_if (pt_cmpR (op_eqA (room200 hr)) (pe_ix ix_B (pv 0) pe_int (fun _ _ => rfl)) pe_str (nomark _))
   (pss_one (ps_ret (pe_lst (pa_cons (pe_tup (pa_cons (pe_tup pa_nil) (pa_cons (pe_ix ix_B (pv 0) pe_int (fun _ _ => rfl)) pa_nil))) pa_nil))))
   pss_nil)
  (pss_cons (ps_if (pt_cmpR (op_eqA (room200 hr)) (pe_ix ix_B (pv 0) pe_int (fun _ _ => rfl)) pe_str (nomark _))
   (pss_one (ps_ret (pe_lst pa_nil)))
   pss_nil)
  (pss_cons (ps_if (pt_cmpR (op_eqA (room200 hr)) (pe_ix ix_B (pv 0) pe_int (fun _ _ => rfl)) pe_str (nomark _))
   (pss_one (ps_ret (pe_callB (call_sortF (room200 hr)) (by rfl) T.z_sorted (by decide +kernel) (pa_cons (pe_op op_addA (pe_calC C_law_form (hr.mono (by first | decide | omega)) pass0 (pa_cons (pe_ix ix_B (pv 0) pe_int (fun _ _ => rfl)) pa_nil)) (pe_calC C_law_form (hr.mono (by first | decide | omega)) pass0 (pa_cons (pe_ix ix_B (pv 0) pe_int (fun _ _ => rfl)) pa_nil))) pa_nil))))
   pss_nil)
  (pss_cons (ps_set (i := 1) sc_law_form.nd rfl (by first | exact Or.inl rfl | exact Or.inr rfl) (pe_lst pa_nil))
  (pss_cons (ps_for PassesOwn.never rfl (pi_list (pe_calC C_law_form (hr.mono (by first | decide | omega)) pass0 (pa_cons (pe_ix ix_B (pv 0) pe_int (fun _ _ => rfl)) pa_nil))) (pg_tup (by rfl) (pgs_cons (pg_name (i := 2) sc_law_form.nd rfl (by first | exact Or.inl rfl | exact Or.inr rfl)) (pgs_cons (pg_name (i := 3) sc_law_form.nd rfl (by first | exact Or.inl rfl | exact Or.inr rfl)) pgs_nil)))
   (pss_one (ps_expr (pe_bm PySem.F.plainAttrs_list PySem.F.slot_list_append PySem.F.type_list_append mt_append (pv 1) (pa_cons (pe_tup (pa_cons (pe_callTy call_tuple_of (by rfl) T.z_tuple (by decide +kernel) (pa_cons (pe_callB (call_sortF (room200 hr)) (by rfl) T.z_sorted (by decide +kernel) (pa_cons (pe_op op_addA (pe_callTy call_list_of (by rfl) T.z_list (by decide +kernel) (pa_cons (pv 2) pa_nil)) (pe_calC C_law_form (hr.mono (by first | decide | omega)) pass0 (pa_cons (pe_ix ix_B (pv 0) pe_int (fun _ _ => rfl)) pa_nil))) pa_nil)) pa_nil)) (pa_cons (pv 3) pa_nil))) pa_nil)))))
  (pss_one (ps_ret (pe_callB (call_sortF (room200 hr)) (by rfl) T.z_sorted (by decide +kernel) (pa_cons (pv 1) pa_nil))))))))), ?_⟩
  rcases kd_split k hd with ⟨a, n, rfl, rfl, hS⟩ | ⟨a, rfl, rfl, hS⟩ | ⟨mk, wd, x, y, a, v1, v2, rfl, M, hw, rfl, hS, h1, h2⟩
  · refine ⟨_, rfl, .inl (.inr (.inl ⟨a, _, 0, _, rfl, rfl, hS, at0 _ _, .inl ⟨rfl, _, rfl, iteT' (decide_eq_true rfl) ?_⟩⟩))⟩
    refine ⟨Nat.zero_le _, fun t0 h0 => ⟨_, rfl, .inl (.inr (.inl ⟨a, _, 1, _, rfl, rfl, KB.Same.tup (same_new h0 _) hS, at1 _ _ _, (by show 2 ≤ sizeLine; decide), fun t1 h1 => ⟨(by show 1 ≤ sizeLine; decide), fun l hl => ?_⟩⟩))⟩⟩
    have s1 := same_new h0 (.tup [])
    have s2 := same_new h1 (.tup [.ref t0, .int n])
    have e0 := s2 _ _ (upd_same (H := H) (a := t0) (o := .tup []))
    have s12 := s1.trans s2
    have so := same_keepO' (o := .lst [.ref t1]) hl
    refine q _ l _ (none_of s12 hl) upd_same ?_ (s12.trans so)
    rw [Kd.form_b, Fc.dats, Fc.dat, Fc.dats]
    exact .cons (.tup (.of (so _ _ upd_same)) (.cons (.tup (.of (so _ _ e0)) .nil) (.cons (.int _) .nil))) .nil
  · refine ⟨_, rfl, .inl (.inr (.inl ⟨a, _, 0, _, rfl, rfl, hS, at0 _ _, .inl ⟨rfl, _, rfl, iteF' (by decide) ?_⟩⟩))⟩
    refine ⟨_, rfl, .inl (.inr (.inl ⟨a, _, 0, _, rfl, rfl, hS, at0 _ _, .inl ⟨rfl, _, rfl, iteT' (decide_eq_true rfl) ?_⟩⟩))⟩
    refine ⟨Nat.zero_le _, fun l hl => ?_⟩
    refine q _ l _ hl upd_same ?_ (same_keepO' hl)
    rw [Kd.form_u]; exact .nil
  · rw [M.deep] at hN
    rw [M.leaves] at hlv
    have okk := (M.ok _ _).mp ok
    have rks : x.rk ≤ 80 ∧ y.rk ≤ 80 := by rcases hw with ⟨rfl, _⟩ | ⟨rfl, _⟩ <;> simp only [Kd.rk] at hrk <;> omega
    have fx := x.form_depth
    have fy := y.form_depth
    have lx := x.form_length
    have ly := y.form_length
    have nb : wd ≠ "base" ∧ wd ≠ "unit" := by rcases hw with ⟨_, rfl⟩ | ⟨_, rfl⟩ <;> decide
    refine ⟨_, rfl, .inl (.inr (.inl ⟨a, _, 0, _, rfl, rfl, hS, at0 _ _, .inl ⟨rfl, _, rfl, iteF' (decide_eq_false fun z => nb.1 (V.str.inj z)) ?_⟩⟩))⟩
    refine ⟨_, rfl, .inl (.inr (.inl ⟨a, _, 0, _, rfl, rfl, hS, at0 _ _, .inl ⟨rfl, _, rfl, iteF' (decide_eq_false fun z => nb.2 (V.str.inj z)) ?_⟩⟩))⟩
    rcases hw with ⟨rfl, rfl⟩ | ⟨rfl, rfl⟩
    · refine ⟨_, rfl, .inl (.inr (.inl ⟨a, _, 0, _, rfl, rfl, hS, at0 _ _, .inl ⟨rfl, _, rfl, iteT' (decide_eq_true rfl) ?_⟩⟩))⟩
      refine ⟨_, rfl, .inl (.inr (.inl ⟨a, _, 1, _, rfl, rfl, hS, at1 _ _ _, ?_⟩))⟩
      refine ⟨v1, x, rfl, h1, okk.1, by omega, rks.1, by omega, fun ys p H1 hp e1 d1 s1 => ?_⟩
      have t1 := of_out s1
      refine ⟨_, rfl, .inl (.inr (.inl ⟨a, _, 2, _, rfl, rfl, KB.Same.tup t1 hS, at2 _ _ _ _, ?_⟩))⟩
      refine ⟨v2, y, rfl, h2.same t1, okk.2, by omega, rks.2, by omega, fun ys2 p2 H2 hp2 e2 d2 s2 => ?_⟩
      have t2 := of_out s2
      have l1 := d1.length
      have l2 := d2.length
      rw [Fc.dats_length] at l1 l2
      refine .inr (.inr (.inl ⟨p, p2, _, _, rfl, rfl, t2 _ _ e1, e2, fits (by omega), fun c hc => ?_⟩))
      have t3 := same_new hc (.lst (ys ++ ys2))
      have dall : DqAll K (upd H2 c (.lst (ys ++ ys2))) (ys ++ ys2) (Fc.dats (x.form ++ y.form)) := by
        rw [Fc.dats_append]
        exact ((d1.same (out_sub p H1)).same (t2.trans t3)).append ((d2.same (out_sub p2 H2)).same t3)
      refine ⟨c, _, _, rfl, .of upd_same, dall, by rw [Fc.depth_append]; omega, fun zs r hz hr => ?_⟩
      have t4 := (t1.trans t2).trans t3
      refine q zs r _ (none_of t4 hr) upd_same ?_ (t4.trans (same_keepO' hr))
      rw [Kd.form_p]; exact hz.same (same_keepO' hr)
    · refine ⟨_, rfl, .inl (.inr (.inl ⟨a, _, 0, _, rfl, rfl, hS, at0 _ _, .inl ⟨rfl, _, rfl, iteF' (by decide) ?_⟩⟩))⟩
      refine ⟨Nat.zero_le _, fun lf hlf => ?_⟩
      have s0 := same_new hlf (.lst [])
      refine ⟨_, rfl, .inl (.inr (.inl ⟨a, _, 2, _, rfl, rfl, KB.Same.tup s0 hS, at2 _ _ _ _, ?_⟩))⟩
      refine ⟨v2, y, rfl, h2.same s0, okk.2, by omega, rks.2, by omega, fun ys2 p2 H1 hp2 e2 d2 s2 => ?_⟩
      have t1 := s0.trans (of_out s2)
      have elf : H1 lf = some (.lst []) := (of_out s2) _ _ upd_same
      have n2 : p2 ≠ lf := (ne_of_none upd_same hp2).symm
      have d2 := d2.same (out_sub p2 H1)
      have l2 := d2.length
      rw [Fc.dats_length] at l2
      have toH1 : Same H (out lf H1) := fun b u e => by rw [out_ne (ne_of_none e hlf)]; exact t1 _ _ e
      refine ⟨p2, rfl, ⟨_, .of e2⟩, ?_⟩
      refine for_list (K := K) (a := p2) (xs := ys2) (LoW K H1 (.ref a) lf x y) ⟨[], _, _, rfl, elf, by rw [List.take_zero, List.map_nil, Fc.dats]; exact .nil, Same.refl _⟩ ?_ ?_ ?_
      · rintro i σ H2 _ ⟨fs, o2, o3, rfl, _, _, sm⟩
        exact .of (out_some (sm _ _ (out_at n2 e2))).2
      · rintro i z σ H2 hx ⟨fs, o2, o3, rfl, e1, df, sm⟩
        have d2o : DqAll K (out lf H1) ys2 (Fc.dats y.form) := DqAll.outp elf (Fc.pure_dats _) d2
        obtain ⟨g, eg, hg⟩ := at_dats ((d2o.same sm).same (out_sub lf H2)) hx
        have mg' : g ∈ y.form := List.mem_of_getElem? eg
        have gd := Fc.depth_mem eg
        have hiF : i < y.form.length := (List.getElem?_eq_some_iff.mp eg).1
        have nx : (y.form.take (i + 1)).map (Fc.add x.form) = (y.form.take i).map (Fc.add x.form) ++ [Fc.add x.form g] := by rw [List.take_add_one, eg]; simp
        have wl : g.ws.length ≤ 5000 := by
          have a := Fc.wids_le.mp y.form_wid g mg'
          obtain ⟨ws, n⟩ := g
          rw [Fc.wid] at a
          show ws.length ≤ 5000
          omega
        obtain ⟨ws, n⟩ := g
        rw [Fc.dat] at hg gd
        obtain ⟨ya, yxs, ds, rfl, ed, hSy, hAy⟩ := dq_tup hg rfl
        have ed' : ds = [.tuple (Fc.dats ws), .int n] := (PyData.tuple.inj ed).symm
        subst ed'
        rcases dqa_split hAy with ⟨_, z⟩ | ⟨wv, xs1, d1, r1, rfl, z, gw, g1⟩
        · cases z
        cases z
        rcases dqa_split g1 with ⟨_, z⟩ | ⟨nv, xs2, d2', r2, rfl, z, gn, g2⟩
        · cases z
        cases z
        cases g2
        cases gn
        obtain ⟨wa, wxs, wds, rfl, ew, hSw, hAw⟩ := dq_tup gw rfl
        have ew' : wds = Fc.dats ws := (PyData.tuple.inj ew).symm
        subst ew'
        have toH2 : Same H H2 := (toH1.trans sm).trans (out_sub lf H2)
        have fl := df.length
        rw [Fc.dats_length, List.length_map, List.length_take] at fl
        have hwl := hAw.length
        rw [Fc.dats_length] at hwl
        have wl' : ws.length ≤ 5000 := wl
        simp only [PyData.depth, PyData.depthAll] at gd
        refine ⟨ya, _, rfl, hSy, rfl, _, _, rfl, _, _, rfl, rfl, ?_⟩
        refine ⟨_, rfl, .inl ⟨rfl, _, .of e1⟩, ?_⟩
        refine ⟨_, rfl, wa, wxs, rfl, .inr hSw, fun c1 hc1 => ?_⟩
        have t3 := same_new hc1 (.lst wxs)
        refine ⟨_, rfl, .inl (.inr (.inl ⟨a, _, 1, _, rfl, rfl, KB.Same.tup (toH2.trans t3) hS, at1 _ _ _, ?_⟩))⟩
        refine ⟨v1, x, rfl, h1.same (toH2.trans t3), okk.1, by omega, rks.1, by omega, fun ys p H4 hpn hp4 dys smp => ?_⟩
        have t4 := t3.trans (of_out smp)
        have ec1 : H4 c1 = some (.lst wxs) := (of_out smp) _ _ upd_same
        have hyl := dys.length
        rw [Fc.dats_length] at hyl
        refine .inr (.inr (.inl ⟨c1, p, _, _, rfl, rfl, ec1, hp4, fits (by omega), fun c2 hc2 => ?_⟩))
        have u5 := same_new hc2 (.lst (wxs ++ ys))
        have t5 := t4.trans u5
        have dall : DqAll K (upd H4 c2 (.lst (wxs ++ ys))) (wxs ++ ys) (Fc.dats (ws ++ x.form)) := by
          rw [Fc.dats_append]
          exact (hAw.same t5).append ((dys.same (out_sub p H4)).same u5)
        refine ⟨c2, _, ws ++ x.form, rfl, .of upd_same, dall, by rw [Fc.depth_append]; omega, fun zs c3 hz hc3 => ?_⟩
        have u6 := same_new hc3 (.lst zs)
        refine ⟨c3, zs, rfl, .inl ⟨.of upd_same, fun t ht => ?_⟩⟩
        have u7 := same_new ht (.tup zs)
        have et := upd_same (a := t) (o := .tup zs) (H := upd (upd H4 c2 (.lst (wxs ++ ys))) c3 (.lst zs))
        have t7 := t5.trans (u6.trans u7)
        refine ⟨_, rfl, (by show 2 ≤ sizeLine; decide), fun u hu => ?_⟩
        have u8 := same_new hu (.tup [.ref t, .int n])
        have t8 := t7.trans u8
        have e8 := t8 _ _ e1
        refine ⟨lf, fs, _, rfl, rfl, e8, fits_lt (by omega), ?_⟩
        have eu := upd_same (a := u) (o := .tup [.ref t, .int n]) (H := upd (upd (upd H4 c2 (.lst (wxs ++ ys))) c3 (.lst zs)) t (.tup zs))
        have dz := hz.same ((u6.trans u7).trans u8)
        have et8 := u8 _ _ et
        have df8 := df.same t8
        generalize upd (upd (upd (upd H4 c2 (.lst (wxs ++ ys))) c3 (.lst zs)) t (.tup zs)) u (.tup [.ref t, .int n]) = H8 at t8 e8 et8 eu dz df8 ⊢
        have es : Fc.srt (ws ++ x.form) = Fc.srt (x.form ++ ws) := Fc.srt_congr List.perm_append_comm
        have dn : DqAll K H8 (fs ++ [.ref u]) (Fc.dats ((y.form.take (i + 1)).map (Fc.add x.form))) := by
          rw [nx, Fc.dats_append, Fc.dats, Fc.dats, Fc.add, Fc.dat, ← es]
          exact df8.append (.cons (.tup (.of eu) (.cons (.tup (.of et8) dz) (.cons (.int _) .nil))) .nil)
        exact ⟨_, _, _, rfl, upd_same, keepP e8 (Fc.pure_dats _) dn, sm.trans ((out_same t8).trans (out_set _))⟩
      · rintro σ H2 ⟨fs, o2, o3, rfl, e1, df, sm⟩
        rw [l2, List.take_length] at df
        have dep : PyData.depthAll (Fc.dats (y.form.map (Fc.add x.form))) ≤ 180 := by
          have e := (Kd.f x y).form_depth
          rw [Kd.form_f, Fc.depth_srt] at e
          simp only [Kd.rk] at e hrk
          omega
        refine ⟨_, rfl, lf, fs, _, rfl, .of e1, df, dep, fun zs r hz hr => ?_⟩
        have t4 : Same H H2 := (toH1.trans sm).trans (out_sub lf H2)
        refine q zs r _ (none_of t4 hr) upd_same ?_ (t4.trans (same_keepO' hr))
        rw [Kd.form_f]; exact hz.same (same_keepO' hr)
theorem ok_lform (A : At K mg "_law_form" s_law_form) (T : Txt K mg w CN CT) : ∀ N : Nat, Cal P w K mg base CX0 N "_law_form" ["kind"] (spLf K N)
  | 0 => cal_vac A (fun f fd F => F.binds (ps := ["kind"]) (fun _ _ _ _ _ _ us hl => match us, hl with | [_], _ => rfl)) fun vs H Q E ⟨v, k, _, _, _, h, _⟩ => absurd h (Nat.not_lt_zero _)
  | N + 1 => ok_lform1 A T (ok_lform A T N)
end

/-! ## is_form of what is none -/
def noFm (d : PyData) : Prop := (∀ ds, d ≠ .list ds) ∨ ∃ ds, d = .list ds ∧ pL ds = none
def spIsFacD (K : PySem.W.Frag) : Sp := fun vs H Q _ => ∃ v d, vs = [v] ∧ Dq K H v d ∧ Q (.bl (facSh d)) H
def spIsFormB (K : PySem.W.Frag) : Sp := fun vs H Q _ => ∃ v d, vs = [v] ∧ Dq K H v d ∧ noFm d ∧ sz d ≤ 1000000 ∧ ∀ H', Same H H' → Q (.bl false) H'
def rwe (e : Bool × List PyData) : PyData := match e with | (true, l) => .list l | (false, l) => .tuple l
theorem rwe_read {K : PySem.W.Frag} {H : Hp} {v : V} {b : Bool} {G : List PyData} (h : Dq K H v (rwe (b, G))) : ∃ a xs, v = .ref a ∧ (SqL K H a xs ∨ SqT K H a xs) ∧ DqAll K H xs G := by
  cases b with
  | true => cases h with | lst s d => exact ⟨_, _, rfl, .inl s, d⟩
  | false => cases h with | tup s d => exact ⟨_, _, rfl, .inr s, d⟩
def mesD (L : List (Bool × List PyData)) : Nat := (L.map fun e => 1 + szs e.2).sum
theorem mesD_app (a b : List (Bool × List PyData)) : mesD (a ++ b) = mesD a + mesD b := by simp [mesD]
theorem len_mesD (L : List (Bool × List PyData)) : L.length ≤ mesD L := by
  induction L with
  | nil => simp
  | cons e r ih => have : mesD (e :: r) = 1 + szs e.2 + mesD r := by simp [mesD]
                   rw [this, List.length_cons]; omega
def wntD (G : List PyData) : List (Bool × List PyData) := G.map fun d => (false, wOf d)
theorem sz_wOf (d : PyData) (h : facSh d = true) : 1 + szs (wOf d) ≤ sz d := by
  obtain ⟨ws, n, rfl, _⟩ := facSh_is h
  simp only [wOf, sz, szs]; omega
theorem mes_wntD : ∀ G : List PyData, (∀ d ∈ G, facSh d = true) → mesD (wntD G) ≤ szs G
  | [], _ => by simp [mesD, wntD]
  | d :: r, h => by
    have a := sz_wOf d (h d List.mem_cons_self)
    have b := mes_wntD r fun e he => h e (List.mem_cons_of_mem _ he)
    have e : mesD (wntD (d :: r)) = 1 + szs (wOf d) + mesD (wntD r) := by simp [mesD, wntD]
    rw [e]; simp only [szs]; omega
theorem at_dqs {K : PySem.W.Frag} {H : Hp} : ∀ {xs : List V} {ds : List PyData} {i : Nat} {x : V}, DqAll K H xs ds → xs[i]? = some x → ∃ d, ds[i]? = some d ∧ Dq K H x d
  | [], _, i, x, _, h => by simp at h
  | y :: r, _, 0, x, .cons a b, h => ⟨_, rfl, (show y = x by simpa using h) ▸ a⟩
  | y :: r, _, i + 1, x, .cons a b, h => by
    obtain ⟨g, e, q⟩ := at_dqs b (i := i) (by simpa using h)
    exact ⟨g, by simpa using e, q⟩
/-- between two rows: one of those left is none of a form -/
def FbW (K : PySem.W.Frag) (H : Hp) (v : V) (B : Nat) (n : Nat) (σ : L2.St) (H' : Hp) : Prop :=
  ∃ (lr ll : Addr) (rs us : List V) (L : List (Bool × List PyData)) (o3 o4 : Option V), σ = [some v, some (.ref lr), some (.ref ll), o3, o4] ∧ lr ≠ ll ∧ H' lr = some (.lst rs) ∧ H' ll = some (.lst us) ∧
    DqAll K (out lr (out ll H')) us (L.map rwe) ∧ n = mesD L ∧ rs.length + n ≤ B ∧ (∃ e ∈ L, pL e.2 = none) ∧ Same H (out lr (out ll H'))
def FcbW (K : PySem.W.Frag) (H3 : Hp) (v y : V) (lr ll : Addr) (rs : List V) (L : List (Bool × List PyData)) (G : List PyData) (i : Nat) (σ : L2.St) (H' : Hp) : Prop :=
  ∃ (us : List V) (o4 : Option V), σ = [some v, some (.ref lr), some (.ref ll), some y, o4] ∧ H' lr = some (.lst rs) ∧ H' ll = some (.lst us) ∧ DqAll K (out lr (out ll H')) us ((L ++ wntD (G.take i)).map rwe) ∧ (∀ d ∈ G.take i, facSh d = true) ∧ Same (out lr (out ll H3)) (out lr (out ll H'))
section
variable {P : Program} {w : World} {K : PySem.W.Frag} {mg : Str → Option Value} {base : Heap} {CN CT : Addr}
theorem ok_isfacD (A : At K mg "_is_factor_but_for_wants" s_is_factor_but_for_wants) (T : Txt K mg w CN CT) (C_is_base_number : Cal P w K mg base CX0 1 "is_base_number" ["thing"] (spBn K)) : Cal P w K mg base CX0 2 "_is_factor_but_for_wants" ["thing"] (spIsFacD K) := by
  obtain ⟨f, fd, F, m⟩ := A
  refine ⟨f, fd, F.ok sc_is_factor_but_for_wants (fun vs H Q E h => ?_) (fun cdv A outer s H vs Q E hr h => ?_), F.binds (ps := ["thing"]) (fun _ _ _ _ _ _ us hl => match us, hl with | [_], _ => rfl), F.kp, m⟩
  · obtain ⟨v, d, rfl, _⟩ := h; rfl
  obtain ⟨v, d, rfl, hd, q⟩ := h
  refine ⟨_, (pss_cons (ps_if (PW.pt (pw_or (pt_cmpR op_notTyB (pe_callTy call_type1 (by rfl) T.z_type (by decide +kernel) (pa_cons (pv 0) pa_nil)) (pe_bltn (v := .ty "tuple") (by rfl) T.z_tuple (by decide +kernel) rfl) (nomark _)) (pw_or1 (pt_cmpR (op_neA (room200 hr)) (pe_callB call_len (by rfl) T.z_len (by decide +kernel) (pa_cons (pv 0) pa_nil)) pe_int (nomark _)))))
   (pss_one (ps_ret pe_bl))
   pss_nil)
  (pss_cons (ps_asg (pv 0) (pg_tup (by rfl) (pgs_cons (pg_name (i := 1) sc_is_factor_but_for_wants.nd rfl (by first | exact Or.inl rfl | exact Or.inr rfl)) (pgs_cons (pg_name (i := 2) sc_is_factor_but_for_wants.nd rfl (by first | exact Or.inl rfl | exact Or.inr rfl)) pgs_nil))))
  (pss_one (ps_ret (pe_and (pe_cmpR op_isTyB (pe_callTy call_type1 (by rfl) T.z_type (by decide +kernel) (pa_cons (pv 1) pa_nil)) (pe_bltn (v := .ty "tuple") (by rfl) T.z_tuple (by decide +kernel) rfl) (nomark _)) (pe_one (pe_calC C_is_base_number (hr.mono (by first | decide | omega)) pass0 (pa_cons (pv 2) pa_nil)))))))), ?_⟩
  refine ⟨_, rfl, _, _, rfl, hd.ty, _, _, rfl, rfl, _, rfl, ?_⟩
  by_cases ht : tyN d = "tuple"
  · rw [ht]
    refine iteF ?_
    obtain ⟨a, xs, ds, rfl, rfl, hS, hA⟩ := dq_tup hd ht
    have len := hA.length
    refine ⟨_, rfl, _, _, rfl, .inr ⟨_, hS, rfl⟩, .inl ⟨rfl, _, rfl, ?_⟩⟩
    have l2 : ∀ n : Nat, n ≠ 2 → (!decide (V.int (n : Nat) = V.int 2)) = true := fun n h => by rw [decide_eq_false fun z => h (by have z' := V.int.inj z; omega)]; rfl
    cases hA with
    | nil => exact iteT' (l2 0 (by decide)) (qbl q rfl)
    | cons g1 hA1 =>
      rename_i v1 vs1 w0 ds1
      cases hA1 with
      | nil => exact iteT' (l2 1 (by decide)) (qbl q rfl)
      | cons g2 hA2 =>
        rename_i v2 vs2 b0 ds2
        cases hA2 with
        | cons g3 hA3 => exact iteT' (l2 _ (by simp only [List.length_cons]; omega)) (qbl q rfl)
        | nil =>
          refine iteF' (by show (!decide (V.int 2 = V.int 2)) = false; decide) ?_
          refine ⟨_, rfl, a, _, rfl, hS, rfl, _, _, rfl, _, _, rfl, rfl, ?_⟩
          refine ⟨_, rfl, _, _, rfl, g1.ty, _, _, rfl, rfl, _, rfl, ?_⟩
          have q' : Q (.bl (tyN w0 == "tuple" && isBn b0)) H := q
          by_cases h1 : tyN w0 = "tuple"
          · rw [h1] at q' ⊢
            refine iteT' rfl ?_
            exact ⟨_, rfl, _, _, rfl, g2, q'⟩
          · have e : (tyN w0 == "tuple") = false := beq_eq_false_iff_ne.mpr h1
            rw [e] at q'
            exact iteF' (by simpa using h1) q'
  · refine iteT' (by simp [ht]) (qbl q ?_)
    cases d <;> first | rfl | (simp [tyN] at ht)
theorem ok_is_formB (A : At K mg "is_form" s_is_form) (T : Txt K mg w CN CT) (C_is_factor_but_for_wants : Cal P w K mg base CX0 2 "_is_factor_but_for_wants" ["thing"] (spIsFacD K)) : Cal P w K mg base CX0 3 "is_form" ["thing"] (spIsFormB K) := by
  obtain ⟨f, fd, F, m⟩ := A
  refine ⟨f, fd, F.ok sc_is_form (fun vs H Q E h => ?_) (fun cdv A outer s H vs Q E hr h => ?_), F.binds (ps := ["thing"]) (fun _ _ _ _ _ _ us hl => match us, hl with | [_], _ => rfl), F.kp, m⟩
  · obtain ⟨v, f, rfl, _⟩ := h; rfl
  obtain ⟨v, d, rfl, hd, hno, hz, q⟩ := h
  refine ⟨_, (pss_cons (ps_if (pt_cmpR op_notTyB (pe_callTy call_type1 (by rfl) T.z_type (by decide +kernel) (pa_cons (pv 0) pa_nil)) (pe_bltn (v := .ty "list") (by rfl) T.z_list (by decide +kernel) rfl) (nomark _))
   (pss_one (ps_ret pe_bl))
   pss_nil)
  (pss_cons (ps_set (i := 1) sc_is_form.nd rfl (by first | exact Or.inl rfl | exact Or.inr rfl) (pe_lst pa_nil))
  (pss_cons (ps_set (i := 2) sc_is_form.nd rfl (by first | exact Or.inl rfl | exact Or.inr rfl) (pe_lst (pa_cons (pv 0) pa_nil)))
  (pss_cons (ps_while PassesOwn.never (pt_truth (pv 2) (by intro _; rfl))
   (pss_cons (ps_set (i := 3) sc_is_form.nd rfl (by first | exact Or.inl rfl | exact Or.inr rfl) (pe_bm0 PySem.F.plainAttrs_list PySem.F.slot_list_pop PySem.F.type_list_pop mt_pop (pv 2) ))
  (pss_cons (ps_expr (pe_bm PySem.F.plainAttrs_list PySem.F.slot_list_append PySem.F.type_list_append mt_append (pv 1) (pa_cons (pv 3) pa_nil)))
  (pss_one (ps_for PassesOwn.never rfl (pi_seq (pv 3)) (pg_name (i := 4) sc_is_form.nd rfl (by first | exact Or.inl rfl | exact Or.inr rfl))
   (pss_cons (ps_if (pt_not (pt_val (pe_calC C_is_factor_but_for_wants (hr.mono (by first | decide | omega)) pass0 (pa_cons (pv 4) pa_nil))))
   (pss_one (ps_ret pe_bl))
   pss_nil)
  (pss_one (ps_expr (pe_bm PySem.F.plainAttrs_list PySem.F.slot_list_append PySem.F.type_list_append mt_append (pv 2) (pa_cons (pe_ix ix_B (pv 4) pe_int (fun _ _ => rfl)) pa_nil))))))))))
  (pss_cons (ps_for PassesOwn.never rfl (pi_list (pv 1)) (pg_name (i := 3) sc_is_form.nd rfl (by first | exact Or.inl rfl | exact Or.inr rfl))
   (pss_one (ps_if (pt_cmpR (op_neA (room200 hr)) (pe_callTy call_list_of (by rfl) T.z_list (by decide +kernel) (pa_cons (pv 3) pa_nil)) (pe_callB (call_sortG (room200 hr)) (by rfl) T.z_sorted (by decide +kernel) (pa_cons (pv 3) pa_nil)) (nomark _))
   (pss_one (ps_ret pe_bl))
   pss_nil)))
  (pss_one (ps_ret pe_bl))))))), ?_⟩
  refine ⟨_, rfl, _, _, rfl, hd.ty, _, _, rfl, rfl, _, rfl, ?_⟩
  by_cases ht : tyN d = "list"
  · obtain ⟨ds, rfl⟩ : ∃ ds, d = .list ds := by cases d <;> first | exact ⟨_, rfl⟩ | (simp [tyN] at ht)
    have hp : pL ds = none := by
      rcases hno with h | ⟨ds', e, h⟩
      · exact absurd rfl (h ds)
      · cases e; exact h
    refine iteF' rfl ?_
    refine ⟨Nat.zero_le _, fun lr h1 => ⟨_, rfl, (by show 1 ≤ sizeLine; decide), fun ll h2 => ?_⟩⟩
    have e1 : upd (upd H lr (.lst [])) ll (.lst [v]) lr = some (.lst []) := same_new h2 _ _ _ upd_same
    have ne : lr ≠ ll := ne_of_none upd_same h2
    have hll : H ll = none := by
      cases z : H ll with
      | none => rfl
      | some u => rw [same_new h1 _ _ _ z] at h2; cases h2
    have s0 : Same H (out lr (out ll (upd (upd H lr (.lst [])) ll (.lst [v])))) := fun b u e => by
      have n1 := ne_of_none e h1
      have n2 := ne_of_none e hll
      rw [out_ne n1, out_ne n2, upd_ne n2, upd_ne n1]; exact e
    have hd0 : Dq K (out lr (out ll (upd (upd H lr (.lst [])) ll (.lst [v])))) v (rwe (true, ds)) := hd.same s0
    simp only [sz] at hz
    refine ⟨FbW K H v (1 + szs ds), ⟨1 + szs ds, lr, ll, [], [v], [(true, ds)], none, none, rfl, ne, e1, upd_same, .cons hd0 .nil, by simp [mesD], by simp, ⟨(true, ds), by simp, hp⟩, s0⟩, ?_⟩
    clear s0 hd0 e1 ne hll h1 h2
    rintro n σ H1 ⟨lr, ll, rs, us, L, o3, o4, rfl, ne, e1, e2, du, rfl, hn, hbad, sm⟩
    refine ⟨_, rfl, _, .inl ⟨us, .of e2, rfl⟩, ?_⟩
    rcases List.eq_nil_or_concat L with hs | ⟨L', e, hs⟩
    · subst hs
      obtain ⟨e, he, _⟩ := hbad
      cases he
    rw [List.concat_eq_append] at hs
    subst hs
    obtain ⟨b, G⟩ := e
    have em : (L' ++ [(b, G)]).map rwe = L'.map rwe ++ [rwe (b, G)] := by simp
    rw [em] at du
    obtain ⟨us', y, rfl, du1, hy⟩ := du.last
    refine iteT' (by simp) ⟨_, fun _ _ z => z, ?_⟩
    refine ⟨_, rfl, .inl ⟨rfl, _, .of e2⟩, ll, us' ++ [y], y, rfl, rfl, e2, last_at us' y, ?_⟩
    rw [dl_append]
    have e1b : upd H1 ll (.lst us') lr = some (.lst rs) := (upd_ne ne).trans e1
    have hmz : mesD (L' ++ [(b, G)]) = mesD L' + (1 + szs G) := by rw [mesD_app]; simp [mesD]
    rw [hmz] at hn ⊢
    refine ⟨_, rfl, .inl ⟨rfl, _, .of e1b⟩, _, rfl, lr, rs, _, rfl, rfl, e1b, fits_lt (by omega), ?_⟩
    have s3 : Same (out lr (out ll H1)) (out lr (out ll (upd (upd H1 ll (.lst us')) lr (.lst (rs ++ [y]))))) := same2 (same2 (Same.refl _) _ (.inr rfl)) _ (.inl rfl)
    have e3r : upd (upd H1 ll (.lst us')) lr (.lst (rs ++ [y])) lr = some (.lst (rs ++ [y])) := upd_same
    have e3l : upd (upd H1 ll (.lst us')) lr (.lst (rs ++ [y])) ll = some (.lst us') := (upd_ne ne.symm).trans upd_same
    have sm3 := sm.trans s3
    have du3 := du1.same s3
    have hy3 := hy.same s3
    generalize upd (upd H1 ll (.lst us')) lr (.lst (rs ++ [y])) = H3 at s3 e3r e3l sm3 du3 hy3 ⊢
    obtain ⟨a, xs, rfl, hS, hA⟩ := rwe_read hy3
    have hxl := hA.length
    have hul := du3.length
    rw [List.length_map] at hul
    have hll := len_mesD L'
    have lenG : G.length ≤ szs G := len_szs G
    refine or_both (C := iList _ _ _ _ _) (D := iTup _ _ _ _ _) hS (fun hS s d => ⟨_, rfl, a, rfl, ⟨xs, L2.Same.seq out2_sub hS⟩, for_list (K := K) (a := a) (xs := xs) (FcbW K H3 v (.ref a) lr ll (rs ++ [.ref a]) L' G) ⟨_, _, rfl, e3r, e3l, by simpa [wntD] using du3, by simp, Same.refl _⟩ (fun i σ H' _ h => by obtain ⟨us, o4, _, _, _, _, _, z⟩ := h; exact L2.Same.seq out2_sub (L2.Same.seq z hS)) s d⟩)
      (fun hS s d => ⟨_, rfl, a, rfl, ⟨xs, KB.Same.tup out2_sub hS⟩, for_tup (K := K) (a := a) (xs := xs) (FcbW K H3 v (.ref a) lr ll (rs ++ [.ref a]) L' G) ⟨_, _, rfl, e3r, e3l, by simpa [wntD] using du3, by simp, Same.refl _⟩ (fun i σ H' _ h => by obtain ⟨us, o4, _, _, _, _, _, z⟩ := h; exact KB.Same.tup out2_sub (KB.Same.tup z hS)) s d⟩) ?_ ?_
    · rintro i x σ H4 hx ⟨us4, o4, rfl, e4r, e4l, du4, hok, s4⟩
      obtain ⟨g, eg, hg⟩ := at_dqs (hA.same s4) hx
      have hiG : i < G.length := (List.getElem?_eq_some_iff.mp eg).1
      refine ⟨_, rfl, x, g, rfl, hg.same out2_sub, _, rfl, ?_⟩
      by_cases hs : facSh g = true
      · rw [hs]
        refine iteF' rfl ?_
        refine ⟨_, rfl, .inl ⟨rfl, _, .of e4l⟩, ?_⟩
        have nx : wntD (G.take (i + 1)) = wntD (G.take i) ++ [(false, wOf g)] := by rw [List.take_add_one, eg]; simp [wntD]
        obtain ⟨ws, n, rfl, hn8⟩ := facSh_is hs
        obtain ⟨ga, gxs, dsg, rfl, ed, hSg, hAg⟩ := dq_tup hg rfl
        have ed' : dsg = [.tuple ws, .int (n : Int)] := (PyData.tuple.inj ed).symm
        subst ed'
        rcases dqa_split hAg with ⟨_, z⟩ | ⟨wv, xs1, d1, r1, rfl, z, gw, g1⟩
        · cases z
        cases z
        have u4 := du4.length
        rw [List.length_map, List.length_append, wntD, List.length_map, List.length_take] at u4
        refine ⟨_, rfl, .inl (.inr (.inl ⟨ga, _, 0, wv, rfl, rfl, KB.Same.tup out2_sub hSg, at0 _ _, ll, us4, _, rfl, rfl, e4l, fits_lt (by omega), ?_⟩))⟩
        have s5 : Same (out lr (out ll H4)) (out lr (out ll (upd H4 ll (.lst (us4 ++ [wv]))))) := same2 (Same.refl _) _ (.inr rfl)
        refine ⟨_, _, rfl, (upd_ne ne).trans e4r, upd_same, ?_, ?_, s4.trans s5⟩
        · rw [nx, ← List.append_assoc, List.map_append]
          exact (du4.same s5).append (.cons (gw.same s5) .nil)
        · intro d hd
          rw [List.take_add_one, eg] at hd
          rcases List.mem_append.mp hd with hd | hd
          · exact hok d hd
          · rw [show d = .tuple [.tuple ws, .int (n : Int)] by simpa using hd]; exact hs
      · rw [Bool.eq_false_iff.mpr hs]
        exact iteT' rfl (q _ (of_out2 (sm3.trans s4)))
    · rintro σ H4 ⟨us4, o4, rfl, e4r, e4l, du4, hok, s4⟩
      rw [hxl, List.take_length] at du4 hok
      have mw := mes_wntD G hok
      refine ⟨mesD (L' ++ wntD G), by rw [mesD_app]; omega, lr, ll, _, us4, L' ++ wntD G, _, _, rfl, ne, e4r, e4l, du4, rfl, by rw [mesD_app, List.length_append]; simp only [List.length_cons, List.length_nil]; omega, ?_, sm3.trans s4⟩
      obtain ⟨e, he, hb⟩ := hbad
      rcases List.mem_append.mp he with he | he
      · exact ⟨e, List.mem_append.mpr (.inl he), hb⟩
      · rw [List.mem_singleton.mp he] at hb
        by_cases hx : ∀ d ∈ G, pL (wOf d) ≠ none
        · exact absurd hb (pL_all hok hx)
        · obtain ⟨d, hx⟩ := Classical.not_forall.mp hx
          obtain ⟨hd, hx⟩ := Classical.not_imp.mp hx
          exact ⟨(false, wOf d), List.mem_append.mpr (.inr (List.mem_map.mpr ⟨d, hd, rfl⟩)), Classical.not_not.mp hx⟩
  · exact iteT' (by simp [ht]) (q H (Same.refl H))
end
/-! ## kind_of of anything -/
def isFm (d : PyData) : Bool := lawL d
def spKof2 (K : PySem.W.Frag) (CT : Addr) (N : Nat) : Sp := fun vs H Q E => ∃ v d, vs = [v] ∧ Dq K H v d ∧ sz d ≤ 300000 ∧ d.depth < N ∧ N ≤ 150 ∧
  (∀ F, d = .list (Fc.dats F) → lawL d = true → (∀ n ∈ Fc.nums F, n < 8) → ∀ (v' : V) (H' : Hp), Dq K H' v' (Fc.kds F).dat → Same H H' → Q v' H') ∧ (lawL d = false → ∀ H', Same H H' → E (.ref CT) none H')
section
variable {P : Program} {w : World} {K : PySem.W.Frag} {mg : Str → Option Value} {base : Heap} {CN CT : Addr}
theorem kof2_body {f : Addr} {cdv : Value} {A : Around} {outer : List Env} {s : Shared} {H : Hp} {Q : VK} {E : XK} {N : Nat} {sp : Sp} (T : Txt K mg w CN CT) (hr : Room (N + 3) (A.deeper (envOfC "kind_of" (defScope s_kind_of) s.heap.objs.size f cdv)))
    (C_is_form : Cal P w K mg base CX0 3 "is_form" ["thing"] sp) (C_kind_of_factors : Cal P w K mg base CX0 N "_kind_of_factors" ["factors"] (spKof K N)) {v : V} {d : PyData} (hd : Dq K H v d) (hz : sz d ≤ 300000) (hN : d.depth < N) {b : Bool}
    (hsp : ∀ (Q' : VK) (E' : XK), (∀ H', Same H H' → Q' (.bl b) H') → sp [v] H Q' E')
    (q1 : b = true → ∃ F, d = .list (Fc.dats F) ∧ ∀ (v' : V) (H' : Hp), Dq K H' v' (Fc.kds F).dat → Same H H' → Q v' H') (q2 : b = false → ∀ H', Same H H' → E (.ref CT) none H') :
    ∃ t, PSs (cxOf (L2.CX P w) P w K mg base ["form"] "kind_of" (defScope s_kind_of) f cdv A outer s H E) (defBody s_kind_of) t ∧ t { nx := fun _ H' => Q .non H', rt := Q } (L2.start ["form"] [v]) H := by
  refine ⟨_, (pss_cons (ps_if (pt_not (pt_val (pe_calC C_is_form (hr.mono (by first | decide | omega)) pass0 (pa_cons (pv 0) pa_nil))))
   (pss_one (ps_raiseO rfl (takes_of rfl rfl rfl rfl) T.e_NoForm))
   pss_nil)
  (pss_one (ps_ret (pe_calC C_kind_of_factors (hr.mono (by first | decide | omega)) pass0 (pa_cons (pv 0) pa_nil))))), ?_⟩
  refine ⟨_, rfl, hsp _ _ fun H1 s1 => ⟨_, rfl, ?_⟩⟩
  cases b with
  | false => exact iteT' rfl (q2 rfl H1 s1)
  | true =>
    obtain ⟨F, rfl, q⟩ := q1 rfl
    refine iteF' rfl ?_
    have hd1 := hd.same s1
    obtain ⟨a, xs, rfl, hS', hA⟩ : ∃ a xs, v = .ref a ∧ SqL K H1 a xs ∧ DqAll K H1 xs (Fc.dats F) := by cases hd1 with | lst s d => exact ⟨_, _, rfl, s, d⟩
    simp only [PyData.depth] at hN
    simp only [sz] at hz
    exact ⟨_, rfl, a, xs, F, rfl, .inl hS', hA, by omega, by omega, fun v' H2 dv s2 => q v' H2 dv (s1.trans s2)⟩
end

/-! ## what the law takes for a factor, for a form -/
def spLFa (K : PySem.W.Frag) (N : Nat) : Sp := fun vs H Q _ => ∃ v d, vs = [v] ∧ Dq K H v d ∧ d.depth < N ∧ d.depth ≤ 150 ∧ sz d ≤ 300000 ∧ ∀ H', Same H H' → Q (.bl (lawF d)) H'
def spLFo (K : PySem.W.Frag) : Sp := fun vs H Q _ => ∃ v d, vs = [v] ∧ Dq K H v d ∧ d.depth ≤ 150 ∧ sz d ≤ 300000 ∧ ∀ H', Same H H' → Q (.bl (lawL d)) H'
abbrev s_law_is_factor : Stmt := top 23
theorem sc_law_is_factor : FnScope ["thing", "one", "k"] ["thing"] (defScope s_law_is_factor) := ⟨rfl, rfl, rfl, by decide +kernel, rfl, by decide +kernel, by decide +kernel⟩
abbrev s_law_is_form : Stmt := top 24
theorem sc_law_is_form : FnScope ["thing", "one", "k"] ["thing"] (defScope s_law_is_form) := ⟨rfl, rfl, rfl, by decide +kernel, rfl, by decide +kernel, by decide +kernel⟩
/-- those that are no factors, found so far -/
def NfW (H : Hp) (D : Addr) (ws : List PyData) (i : Nat) (H' : Hp) : Prop := ∃ acc : List V, H' D = some (.lst acc) ∧ acc.length ≤ i ∧ acc.isEmpty = (ws.take i).all lawF ∧ Same H (out D H')
/-- the places where neighbours are turned, found so far -/
def NnW (H : Hp) (D : Addr) (F : List Fc) (i : Nat) (H' : Hp) : Prop := ∃ acc : List Nat, H' D = some (.lst (acc.map fun n : Nat => V.int n)) ∧ acc.length ≤ i ∧ (acc = [] ↔ ∀ j, j < i → ∀ f g, F[j]? = some f → F[j + 1]? = some g → Fc.lt g f = false) ∧ Same H (out D H')
theorem ints_lay : ∀ l : List Nat, PyData.canLayAll0 (l.map fun n : Nat => PyData.int n) = true
  | [] => by simp [PyData.canLayAll0]
  | n :: r => by simp only [List.map_cons, PyData.canLayAll0, ints_lay r, PyData.canLay0, Bool.and_self]
theorem ints_dq {K : PySem.W.Frag} {H : Hp} : ∀ l : List Nat, DqAll K H (l.map fun n : Nat => V.int n) (l.map fun n : Nat => PyData.int n)
  | [] => .nil
  | n :: r => .cons (.int _) (ints_dq r)
theorem ev_nilR : ∀ xs : List PyData, PyData.eqvAll xs [] = xs.isEmpty
  | [] => by rw [ev_nil]; rfl
  | x :: r => by rw [ev_cnil]; rfl
theorem near_all {F : List Fc} : (∀ j, j < F.length - 1 → ∀ f g, F[j]? = some f → F[j + 1]? = some g → Fc.lt g f = false) ↔ Fc.Ord F := by
  constructor
  · intro h
    refine ord_near fun k k0 k1 f g hf hg => ?_
    have e : k = (k - 1) + 1 := by omega
    exact h (k - 1) (by omega) f g hf (by rw [← e]; exact hg)
  · intro o j hj f g hf hg
    exact near_ord o (k := j + 1) (by omega) hf hg
theorem eq_nilI {K : PySem.W.Frag} {H : Hp} {D l : Addr} {acc : List Nat} {Q : VK} (e : H D = some (.lst (acc.map fun n : Nat => V.int n))) (el : H l = some (.lst [])) (q : Q (.bl acc.isEmpty) H) : rEqA K (.ref D) (.ref l) H Q := by
  have x1 : Dq K H (.ref D) (.list (acc.map fun n : Nat => PyData.int n)) := .lst (.of e) (ints_dq acc)
  have x2 : Dq K H (.ref l) (.list []) := .lst (.of el) .nil
  have c1 : (PyData.list (acc.map fun n : Nat => PyData.int n)).canLay0 = true := by simpa [PyData.canLay0] using ints_lay acc
  have c2 : (PyData.list []).canLay0 = true := by simp [PyData.canLay0, PyData.canLayAll0]
  refine .inr ⟨_, _, x1.dp c1, x2.dp c2, c1, c2, by simp only [PyData.depth, PyData.depthAll]; omega, ?_⟩
  rw [ev_lst, ev_nilR]
  have : (acc.map fun n : Nat => PyData.int n).isEmpty = acc.isEmpty := by cases acc <;> rfl
  rw [this]; exact q
theorem her_of {F : List Fc} (h : F.all (fun f => Fc.her f.ws) = true) {acc : List Nat} (ha : acc = [] ↔ ∀ j, j < F.length - 1 → ∀ f g, F[j]? = some f → F[j + 1]? = some g → Fc.lt g f = false) : acc.isEmpty = Fc.her F := by
  rw [her_cons, h, Bool.and_true]
  rw [near_all] at ha
  rw [← ord_iff] at ha
  cases hc : (Fc.cmps F (Fc.srt F) == .eq) with
  | true => rw [ha.mpr hc]; rfl
  | false =>
    cases acc with
    | nil => rw [ha.mp rfl] at hc; cases hc
    | cons a r => rfl
theorem depthAll_mem : ∀ {ds : List PyData} {d : PyData}, d ∈ ds → d.depth ≤ PyData.depthAll ds
  | x :: r, d, h => by
    simp only [PyData.depthAll]
    rcases List.mem_cons.mp h with rfl | h
    · omega
    · have := depthAll_mem h; omega
theorem szs_mem : ∀ {ds : List PyData} {d : PyData}, d ∈ ds → sz d ≤ szs ds
  | x :: r, d, h => by
    simp only [szs]
    rcases List.mem_cons.mp h with rfl | h
    · omega
    · have := szs_mem h; omega
section
variable {P : Program} {w : World} {K : PySem.W.Frag} {mg : Str → Option Value} {base : Heap} {CN CT : Addr}
theorem roomU' {k : Nat} {A : Around} (r : Room k A) : A.units < cLine := by have := r.un; omega
theorem isi_t {d : PyData} (h : tyN d = "tuple") : isiN (tyN d) "tuple" = true := by rw [h]; rfl
theorem isi_n {d : PyData} {S : String} (h : tyN d ≠ S) (hs : S ≠ "int") : isiN (tyN d) S = false := by
  unfold isiN
  rw [beq_eq_false_iff_ne.mpr h, beq_eq_false_iff_ne.mpr hs]; simp
theorem ok_lfac1 {N : Nat} (A : At K mg "_law_is_factor" s_law_is_factor) (T : Txt K mg w CN CT) (C_law_is_factor : Cal P w K mg base CX0 N "_law_is_factor" ["thing"] (spLFa K N)) : Cal P w K mg base CX0 (N + 1) "_law_is_factor" ["thing"] (spLFa K (N + 1)) := by
  obtain ⟨f, fd, F, m⟩ := A
  refine ⟨f, fd, F.ok sc_law_is_factor (fun vs H Q E h => ?_) (fun cdv A outer s H vs Q E hr h => ?_), F.binds (ps := ["thing"]) (fun _ _ _ _ _ _ us hl => match us, hl with | [_], _ => rfl), F.kp, m⟩
  · obtain ⟨v, d, rfl, _⟩ := h; rfl
  obtain ⟨v, d, rfl, hd, hN, hdp, hz, q⟩ := h
  have no : facSh d = false → Q (.bl false) H := fun h => qbl (q H (Same.refl H)) (by rw [lawF, pF_no h])
  refine ⟨_, (pss_cons (ps_if (PW.pt (pw_or (pt_not (pt_val (pe_callB call_isiD (by rfl) T.z_isinstance (by decide +kernel) (pa_cons (pv 0) (pa_cons (pe_bltn (v := .ty "tuple") (by rfl) T.z_tuple (by decide +kernel) rfl) pa_nil))))) (pw_or (pt_cmpR (op_neA (room200 hr)) (pe_callB call_len (by rfl) T.z_len (by decide +kernel) (pa_cons (pv 0) pa_nil)) pe_int (nomark _)) (pw_or1 (pt_not (pt_val (pe_callB call_isiD (by rfl) T.z_isinstance (by decide +kernel) (pa_cons (pe_ix (r := rIxB K w) ix_B (pv 0) pe_int (fun _ _ => rfl)) (pa_cons (pe_bltn (v := .ty "tuple") (by rfl) T.z_tuple (by decide +kernel) rfl) pa_nil)))))))))
   (pss_one (ps_ret pe_bl))
   pss_nil)
  (pss_gen (I := (fun D σ H1 => ∃ (a : Addr) (wv bv : V) (w0 b0 : PyData) (o1 o2 : Option V), σ = [some v, o1, o2] ∧ v = .ref a ∧ d = .tuple [w0, b0] ∧ tyN w0 = "tuple" ∧ SqT K H1 a [wv, bv] ∧ Dq K H1 wv w0 ∧ Dq K H1 bv b0 ∧ Same H H1 ∧ ∀ v' H', Q v' H' → D.rt v' H')) (pss_cons (ps_if (PW.pt (pw_or (pt_not (pt_val (pe_callB call_isiD (by rfl) T.z_isinstance (by decide +kernel) (pa_cons (pe_ix ix_B (pv 0) pe_int (fun _ _ => rfl)) (pa_cons (pe_bltn (v := .ty "int") (by rfl) T.z_int (by decide +kernel) rfl) pa_nil))))) (pw_or (pt_val (pe_callB call_isiD (by rfl) T.z_isinstance (by decide +kernel) (pa_cons (pe_ix ix_B (pv 0) pe_int (fun _ _ => rfl)) (pa_cons (pe_bltn (v := .ty "bool") (by rfl) T.z_bool (by decide +kernel) rfl) pa_nil)))) (pw_or1 (pt_not (pt_chain op_le op_le pe_int (pe_ix ix_B (pv 0) pe_int (fun _ _ => rfl)) pe_int))))))
   (pss_one (ps_ret pe_bl))
   pss_nil)
  (pss_gen (I := (fun D σ H1 => ∃ (a wa : Addr) (bv : V) (wxs : List V) (ws : List PyData) (n : Nat) (o1 o2 : Option V), σ = [some v, o1, o2] ∧ v = .ref a ∧ d = .tuple [.tuple ws, .int (n : Int)] ∧ n < 8 ∧ SqT K H1 a [.ref wa, bv] ∧ SqT K H1 wa wxs ∧ DqAll K H1 wxs ws ∧ Same H H1 ∧ ∀ v' H', Q v' H' → D.rt v' H')) (pss_cons (ps_if (pt_cmpR (op_neNilL (roomU' hr)) (pe_lc (own := [("one", 1)]) (g := gName 1) (by rfl) sc_law_is_factor.nd (pi_tup (pe_ix (r := rIxB K w) ix_B (pv 0) pe_int (fun _ _ => rfl))) (blkOk_by (own := [("one", 1)]) (N := ["thing", "one", "k"]) (sc := defScope s_law_is_factor) (by decide +kernel)) (fun _ _ _ _ _ => (pg_name (i := 1) sc_law_is_factor.nd rfl (by first | exact Or.inl rfl | exact Or.inr rfl))) (fun _ _ _ _ _ => (pts_one (pt_not (pt_val (pe_calC C_law_is_factor (hr.mono (by first | decide | omega)) pass0 (pa_cons (pv 1) pa_nil)))))) (fun _ _ _ _ _ => (pv 1))) (pe_lst pa_nil) (nomark _))
   (pss_one (ps_ret pe_bl))
   pss_nil)
  (pss_gen (I := (fun D σ H1 => ∃ (a wa : Addr) (bv : V) (wxs : List V) (F : List Fc) (n : Nat) (o1 o2 : Option V), σ = [some v, o1, o2] ∧ v = .ref a ∧ d = .tuple [.tuple (Fc.dats F), .int (n : Int)] ∧ n < 8 ∧ pL (Fc.dats F) = some F ∧ F.all (fun f => Fc.her f.ws) = true ∧ SqT K H1 a [.ref wa, bv] ∧ SqT K H1 wa wxs ∧ DqAll K H1 wxs (Fc.dats F) ∧ Same H H1 ∧ ∀ v' H', Q v' H' → D.rt v' H')) (pss_one (ps_ret (pe_cmpR (op_eqA (room200 hr)) (pe_lc (own := [("k", 2)]) (g := gName 2) (by rfl) sc_law_is_factor.nd (pi_range2 (by rfl) T.z_range (pa_cons pe_int (pa_cons (pe_callB call_len (by rfl) T.z_len (by decide +kernel) (pa_cons (pe_ix (r := rIxB K w) ix_B (pv 0) pe_int (fun _ _ => rfl)) pa_nil)) pa_nil))) (blkOk_by (own := [("k", 2)]) (N := ["thing", "one", "k"]) (sc := defScope s_law_is_factor) (by decide +kernel)) (fun _ _ _ _ _ => (pg_name (i := 2) sc_law_is_factor.nd rfl (by first | exact Or.inl rfl | exact Or.inr rfl))) (fun _ _ _ _ _ => (pts_one (pt_cmpR (r := rGtF K) (op_gtF (room200 hr)) (pe_ix (r := rIxB K w) ix_B (pe_ix (r := rIxB K w) ix_B (pv 0) pe_int (fun _ _ => rfl)) (pe_op op_sub (pv 2) pe_int) (fun _ _ => rfl)) (pe_ix (r := rIxB K w) ix_B (pe_ix (r := rIxB K w) ix_B (pv 0) pe_int (fun _ _ => rfl)) (pv 2) (fun _ _ => rfl)) (nomark _)))) (fun _ _ _ _ _ => (pv 2))) (pe_lst pa_nil) (nomark _)))) ?four)) ?three)) ?two)), ?one⟩
  case one =>
    refine ⟨_, rfl, _, "tuple", d, rfl, hd, rfl, _, rfl, ?_⟩
    by_cases ht : tyN d = "tuple"
    · obtain ⟨a, xs, ds, rfl, rfl, hS, hA⟩ := dq_tup hd ht
      refine iteF' (by rw [isi_t ht]; rfl) ?_
      refine ⟨_, rfl, _, _, rfl, .inr ⟨_, hS, rfl⟩, .inl ⟨rfl, _, rfl, ?_⟩⟩
      have len := hA.length
      have l2 : ∀ n : Nat, n ≠ 2 → (!decide (V.int (n : Nat) = V.int 2)) = true := fun n h => by rw [decide_eq_false fun z => h (by have z' := V.int.inj z; omega)]; rfl
      cases hA with
      | nil => exact iteT' (l2 0 (by decide)) (no rfl)
      | cons g1 hA1 =>
        rename_i v1 vs1 w0 ds1
        cases hA1 with
        | nil => exact iteT' (l2 1 (by decide)) (no rfl)
        | cons g2 hA2 =>
          rename_i v2 vs2 b0 ds2
          cases hA2 with
          | cons g3 hA3 => exact iteT' (l2 _ (by simp only [List.length_cons]; omega)) (no rfl)
          | nil =>
            refine iteF' (by show (!decide (V.int 2 = V.int 2)) = false; decide) ?_
            refine ⟨_, rfl, .inl (.inr (.inl ⟨a, _, 0, _, rfl, rfl, hS, at0 _ _, _, "tuple", w0, rfl, g1, rfl, _, rfl, ?_⟩))⟩
            by_cases h0 : tyN w0 = "tuple"
            · refine iteF' (by rw [isi_t h0]; rfl) ?_
              exact ⟨a, v1, v2, w0, b0, _, _, rfl, rfl, rfl, h0, hS, g1, g2, Same.refl H, fun _ _ h => h⟩
            · refine iteT' (by rw [isi_n h0 (by decide)]; rfl) (no ?_)
              simp [facSh, h0]
    · refine iteT' (by rw [isi_n ht (by decide)]; rfl) (no ?_)
      cases d <;> first | rfl | (simp [tyN] at ht)
  case two =>
    rintro D σ H1 ⟨a, wv, bv, w0, b0, o1, o2, rfl, rfl, rfl, h0, hS, gw, gb, s1, hQ⟩
    have nb : isBn b0 = false → D.rt (.bl false) H1 := fun h => hQ _ _ (qbl (q H1 s1) (by rw [lawF, pF_no (by simp [facSh, h])]))
    refine ⟨_, rfl, .inl (.inr (.inl ⟨a, _, 1, _, rfl, rfl, hS, at1 _ _ _, _, "int", b0, rfl, gb, rfl, _, rfl, ?_⟩))⟩
    cases b0 with
    | int n =>
      refine iteF' rfl ?_
      refine ⟨_, rfl, .inl (.inr (.inl ⟨a, _, 1, _, rfl, rfl, hS, at1 _ _ _, _, "bool", _, rfl, gb, rfl, _, rfl, iteF' rfl ?_⟩))⟩
      cases gb
      refine ⟨_, rfl, .inl (.inr (.inl ⟨a, _, 1, _, rfl, rfl, hS, at1 _ _ _, _, _, rfl, rfl, ?_⟩))⟩
      refine ⟨_, rfl, ite2 (fun c => ?_) (fun c => ⟨_, rfl, iteT' rfl (nb ?_)⟩)⟩
      · refine ⟨_, _, rfl, rfl, _, rfl, ?_⟩
        have c0 : 0 ≤ n := of_decide_eq_true c
        by_cases c7 : n ≤ 7
        · refine iteF' (by rw [decide_eq_true c7]; rfl) ?_
          obtain ⟨ws, rfl⟩ : ∃ ws, w0 = .tuple ws := by cases w0 <;> first | exact ⟨_, rfl⟩ | (simp [tyN] at h0)
          obtain ⟨wa, wxs, ws', rfl, e, hW, hWA⟩ := dq_tup gw h0
          cases e
          obtain ⟨m, rfl⟩ := Int.eq_ofNat_of_zero_le c0
          exact ⟨a, wa, _, wxs, ws, m, _, _, rfl, rfl, rfl, by omega, hS, hW, hWA, s1, hQ⟩
        · refine iteT' (by rw [decide_eq_false c7]; rfl) (nb ?_)
          have : ¬ n < 8 := by omega
          simp [isBn, this]
      · have c0 : ¬ 0 ≤ n := of_decide_eq_false (Bool.eq_false_iff.mpr c)
        simp [isBn, c0]
    | bool b =>
      refine iteF' rfl ?_
      exact ⟨_, rfl, .inl (.inr (.inl ⟨a, _, 1, _, rfl, rfl, hS, at1 _ _ _, _, "bool", _, rfl, gb, rfl, _, rfl, iteT' rfl (nb rfl)⟩))⟩
    | none => exact iteT' rfl (nb rfl)
    | str _ => exact iteT' rfl (nb rfl)
    | list _ => exact iteT' rfl (nb rfl)
    | tuple _ => exact iteT' rfl (nb rfl)
    | dict _ => exact iteT' rfl (nb rfl)
  case three =>
    rintro D σ H1 ⟨a, wa, bv, wxs, ws, n, o1, o2, rfl, rfl, rfl, h8, hS, hW, hWA, s1, hQ⟩
    have len := hWA.length
    simp only [PyData.depth, PyData.depthAll] at hN hdp
    simp only [sz, szs] at hz
    have lenz := len_szs ws
    refine ⟨_, rfl, .inl (.inr (.inl ⟨a, _, 0, _, rfl, rfl, hS, at0 _ _, wa, rfl, ⟨_, hW⟩, fun D1 hD1 => ?_⟩))⟩
    refine lc_tup (K := K) (a := wa) (xs := wxs) (NfW H1 D1 ws) ⟨[], upd_same, Nat.le_refl 0, by simp, same_keepO' hD1⟩ ?_ ?_ ?_
    · rintro i H2 _ ⟨acc, _, _, _, s2⟩
      exact KB.Same.tup (of_out s2) hW
    · rintro i x H2 hx ⟨acc, e2, la, hacc, s2⟩
      have t2 := of_out s2
      obtain ⟨dx, ex, hdx⟩ := at_dqs (hWA.same t2) hx
      have hi : i < ws.length := (List.getElem?_eq_some_iff.mp ex).1
      have mdx : dx ∈ ws := List.mem_of_getElem? ex
      have ddx := depthAll_mem mdx
      have zdx := szs_mem mdx
      refine ⟨rfl, _, rfl, x, dx, rfl, hdx, by omega, by omega, by omega, fun H3 s3 => ⟨_, rfl, ?_⟩⟩
      have e3 := s3 _ _ e2
      have s23 : Same H1 (out D1 H3) := s2.trans (out_same s3)
      have nx : (ws.take (i + 1)).all lawF = ((ws.take i).all lawF && lawF dx) := by rw [List.take_add_one, ex, List.all_append]; simp
      cases hl : lawF dx with
      | true =>
        refine iteF' rfl ⟨acc, e3, by omega, by rw [nx, hl, Bool.and_true]; exact hacc, s23⟩
      | false =>
        refine iteT' rfl ⟨_, rfl, acc, e3, fits_lt (by omega), acc ++ [x], upd_same, by rw [List.length_append]; simp only [List.length_cons, List.length_nil]; omega, by rw [nx, hl, Bool.and_false]; simp, s23.trans (out_set _)⟩
    · rintro H2 ⟨acc, e2, la, hacc, s2⟩
      rw [len, List.take_length] at hacc
      refine ⟨Nat.zero_le _, fun l hl => ⟨D1, l, acc, rfl, rfl, .of (same_new hl _ _ _ e2), .of upd_same, _, rfl, ?_⟩⟩
      rw [hacc]
      have t3 := (of_out s2).trans (same_new hl (.lst []))
      have la2 := lawF_all ws
      cases hp : pL ws with
      | none =>
        rw [hp] at la2
        rw [la2]
        refine iteT' rfl (hQ _ _ (qbl (q _ (s1.trans t3)) ?_))
        rw [lawF, pF_sh ws n h8, hp]; rfl
      | some F =>
        rw [hp] at la2
        obtain ⟨ed, g⟩ := pL_dats hp
        subst ed
        rw [la2]
        cases hall : F.all (fun f => Fc.her f.ws) with
        | false =>
          refine iteT' (by simp [hall]) (hQ _ _ (qbl (q _ (s1.trans t3)) ?_))
          rw [lawF, pF_sh _ n h8, hp]
          show Fc.her F = false
          rw [her_cons, hall, Bool.and_false]
        | true =>
          exact iteF' (by simp [hall]) ⟨a, wa, bv, wxs, F, n, _, _, rfl, rfl, rfl, h8, hp, hall, KB.Same.tup t3 hS, KB.Same.tup t3 hW, hWA.same t3, s1.trans t3, hQ⟩
  case four =>
    rintro D σ H1 ⟨a, wa, bv, wxs, F, n, o1, o2, rfl, rfl, rfl, h8, hp, hall, hS, hW, hWA, s1, hQ⟩
    have len := hWA.length
    rw [Fc.dats_length] at len
    simp only [PyData.depth, PyData.depthAll] at hN hdp
    simp only [sz, szs] at hz
    have lenz := len_szs (Fc.dats F)
    rw [Fc.dats_length] at lenz
    refine ⟨_, rfl, .inl (.inr (.inl ⟨a, _, 0, _, rfl, rfl, hS, at0 _ _, _, _, rfl, .inr ⟨_, hW, rfl⟩, ?_⟩))⟩
    rw [len]
    refine ⟨1, _, rfl, ⟨by decide, by decide, by omega, by omega⟩, fun D1 hD1 => ?_⟩
    refine lc_range (lo := 1) (n := ((F.length : Int) - 1).toNat) (NnW H1 D1 F) ⟨[], upd_same, Nat.le_refl 0, by simp, same_keepO' hD1⟩ ?_ ?_
    · rintro i H2 hi ⟨acc, e2, la, hacc, s2⟩
      have t2 := of_out s2
      have hi' : i + 1 < F.length := by omega
      have hS2 := KB.Same.tup t2 hS
      have hW2 := KB.Same.tup t2 hW
      have hA2 := hWA.same t2
      have x1 : wxs[i]? = some (wxs[i]'(by omega)) := List.getElem?_eq_getElem _
      have x2 : wxs[i + 1]? = some (wxs[i + 1]'(by omega)) := List.getElem?_eq_getElem _
      obtain ⟨f1, ef, df⟩ := at_dats hA2 x1
      obtain ⟨g1, eg, dg⟩ := at_dats hA2 x2
      have dpf := Fc.depth_mem ef
      have i1 : (1 + (i : Int)) - 1 = ((i : Nat) : Int) := by omega
      have i2 : (1 + (i : Int)) = ((i + 1 : Nat) : Int) := by omega
      refine ⟨rfl, _, rfl, .inl (.inr (.inl ⟨a, _, 0, _, rfl, rfl, hS2, at0 _ _, _, rfl, _, _, rfl, rfl, .inl (.inr (.inl ⟨wa, _, _, _, rfl, rfl, hW2, by rw [i1]; exact atI_nat x1, ?_⟩))⟩))⟩
      refine ⟨_, rfl, .inl (.inr (.inl ⟨a, _, 0, _, rfl, rfl, hS2, at0 _ _, _, rfl, .inl (.inr (.inl ⟨wa, _, _, _, rfl, rfl, hW2, by rw [i2]; exact atI_nat x2, ?_⟩))⟩))⟩
      refine ⟨f1, g1, df, dg, by omega, _, rfl, ?_⟩
      have step : (acc = [] ∧ Fc.lt g1 f1 = false) ↔ ∀ j, j < i + 1 → ∀ f g, F[j]? = some f → F[j + 1]? = some g → Fc.lt g f = false := by
        rw [hacc]
        constructor
        · rintro ⟨h1, h2⟩ j hj f g hf hg
          by_cases hji : j = i
          · subst hji
            rw [ef] at hf; rw [eg] at hg
            cases hf; cases hg; exact h2
          · exact h1 j (by omega) f g hf hg
        · intro h
          exact ⟨fun j hj => h j (by omega), h i (by omega) f1 g1 ef eg⟩
      cases hlt : Fc.lt g1 f1 with
      | false => exact iteF' rfl ⟨acc, e2, by omega, by rw [← step, hlt]; simp, s2⟩
      | true =>
        refine iteT' rfl ⟨_, rfl, _, e2, by rw [List.length_map]; exact fits_lt (by omega), acc ++ [i + 1], ?_, by rw [List.length_append]; simp only [List.length_cons, List.length_nil]; omega, ?_, s2.trans (out_set _)⟩
        · rw [List.map_append, upd_same, i2]; rfl
        · rw [← step, hlt]; simp
    · rintro H2 ⟨acc, e2, la, hacc, s2⟩
      refine ⟨Nat.zero_le _, fun l hl => eq_nilI (same_new hl _ _ _ e2) upd_same (hQ _ _ (qbl (q _ (s1.trans ((of_out s2).trans (same_new hl _)))) ?_))⟩
      have hn : ((F.length : Int) - 1).toNat = F.length - 1 := by omega
      rw [hn] at hacc
      rw [lawF, pF_sh _ n h8, hp, her_of hall hacc]
      rfl
theorem ok_lfac (A : At K mg "_law_is_factor" s_law_is_factor) (T : Txt K mg w CN CT) : ∀ N : Nat, Cal P w K mg base CX0 N "_law_is_factor" ["thing"] (spLFa K N)
  | 0 => cal_vac A (fun f fd F => F.binds (ps := ["thing"]) (fun _ _ _ _ _ _ us hl => match us, hl with | [_], _ => rfl)) fun vs H Q E ⟨v, d, _, _, h, _⟩ => absurd h (Nat.not_lt_zero _)
  | N + 1 => ok_lfac1 A T (ok_lfac A T N)
end

section
variable {P : Program} {w : World} {K : PySem.W.Frag} {mg : Str → Option Value} {base : Heap} {CN CT : Addr}
theorem ok_lfo {N : Nat} (A : At K mg "_law_is_form" s_law_is_form) (T : Txt K mg w CN CT) (C_law_is_factor : Cal P w K mg base CX0 151 "_law_is_factor" ["thing"] (spLFa K 151)) : Cal P w K mg base CX0 152 "_law_is_form" ["thing"] (spLFo K) := by
  obtain ⟨f, fd, F, m⟩ := A
  refine ⟨f, fd, F.ok sc_law_is_form (fun vs H Q E h => ?_) (fun cdv A outer s H vs Q E hr h => ?_), F.binds (ps := ["thing"]) (fun _ _ _ _ _ _ us hl => match us, hl with | [_], _ => rfl), F.kp, m⟩
  · obtain ⟨v, d, rfl, _⟩ := h; rfl
  obtain ⟨v, d, rfl, hd, hdp, hz, q⟩ := h
  refine ⟨_, (pss_cons (ps_if (PW.pt (pw_or (pt_not (pt_val (pe_callB call_isiD (by rfl) T.z_isinstance (by decide +kernel) (pa_cons (pv 0) (pa_cons (pe_bltn (v := .ty "list") (by rfl) T.z_list (by decide +kernel) rfl) pa_nil))))) (pw_or1 (pt_cmpR (op_neNilL (roomU' hr)) (pe_lc (own := [("one", 1)]) (g := gName 1) (by rfl) sc_law_is_form.nd (pi_list (pv 0)) (blkOk_by (own := [("one", 1)]) (N := ["thing", "one", "k"]) (sc := defScope s_law_is_form) (by decide +kernel)) (fun _ _ _ _ _ => (pg_name (i := 1) sc_law_is_form.nd rfl (by first | exact Or.inl rfl | exact Or.inr rfl))) (fun _ _ _ _ _ => (pts_one (pt_not (pt_val (pe_calC C_law_is_factor (hr.mono (by first | decide | omega)) pass0 (pa_cons (pv 1) pa_nil)))))) (fun _ _ _ _ _ => (pv 1))) (pe_lst pa_nil) (nomark _)))))
   (pss_one (ps_ret pe_bl))
   pss_nil)
  (pss_gen (I := (fun D σ H1 => ∃ (a : Addr) (xs : List V) (F : List Fc) (o1 o2 : Option V), σ = [some v, o1, o2] ∧ v = .ref a ∧ d = .list (Fc.dats F) ∧ pL (Fc.dats F) = some F ∧ F.all (fun f => Fc.her f.ws) = true ∧ SqL K H1 a xs ∧ DqAll K H1 xs (Fc.dats F) ∧ Same H H1 ∧ ∀ v' H', Q v' H' → D.rt v' H')) (pss_one (ps_ret (pe_cmpR (op_eqA (room200 hr)) (pe_lc (own := [("k", 2)]) (g := gName 2) (by rfl) sc_law_is_form.nd (pi_range2 (by rfl) T.z_range (pa_cons pe_int (pa_cons (pe_callB call_len (by rfl) T.z_len (by decide +kernel) (pa_cons (pv 0) pa_nil)) pa_nil))) (blkOk_by (own := [("k", 2)]) (N := ["thing", "one", "k"]) (sc := defScope s_law_is_form) (by decide +kernel)) (fun _ _ _ _ _ => (pg_name (i := 2) sc_law_is_form.nd rfl (by first | exact Or.inl rfl | exact Or.inr rfl))) (fun _ _ _ _ _ => (pts_one (pt_cmpR (r := rGtF K) (op_gtF (room200 hr)) (pe_ix (r := rIxB K w) ix_B (pv 0) (pe_op op_sub (pv 2) pe_int) (fun _ _ => rfl)) (pe_ix (r := rIxB K w) ix_B (pv 0) (pv 2) (fun _ _ => rfl)) (nomark _)))) (fun _ _ _ _ _ => (pv 2))) (pe_lst pa_nil) (nomark _)))) ?four)), ?one⟩
  case one =>
    refine ⟨_, rfl, _, "list", d, rfl, hd, rfl, _, rfl, ?_⟩
    by_cases ht : tyN d = "list"
    · obtain ⟨ds, rfl⟩ : ∃ ds, d = .list ds := by cases d <;> first | exact ⟨_, rfl⟩ | (simp [tyN] at ht)
      obtain ⟨a, xs, rfl, hS, hA⟩ : ∃ a xs, v = .ref a ∧ SqL K H a xs ∧ DqAll K H xs ds := by cases hd with | lst s d => exact ⟨_, _, rfl, s, d⟩
      refine iteF' rfl ?_
      have len := hA.length
      simp only [PyData.depth] at hdp
      simp only [sz] at hz
      have lenz := len_szs ds
      refine ⟨_, rfl, a, rfl, ⟨_, hS⟩, fun D1 hD1 => ?_⟩
      refine lc_list (K := K) (a := a) (xs := xs) (NfW H D1 ds) ⟨[], upd_same, Nat.le_refl 0, by simp, same_keepO' hD1⟩ ?_ ?_ ?_
      · rintro i H2 _ ⟨acc, _, _, _, s2⟩
        exact L2.Same.seq (of_out s2) hS
      · rintro i x H2 hx ⟨acc, e2, la, hacc, s2⟩
        have t2 := of_out s2
        obtain ⟨dx, ex, hdx⟩ := at_dqs (hA.same t2) hx
        have hi : i < ds.length := (List.getElem?_eq_some_iff.mp ex).1
        have mdx : dx ∈ ds := List.mem_of_getElem? ex
        have ddx := depthAll_mem mdx
        have zdx := szs_mem mdx
        refine ⟨rfl, _, rfl, x, dx, rfl, hdx, by omega, by omega, by omega, fun H3 s3 => ⟨_, rfl, ?_⟩⟩
        have e3 := s3 _ _ e2
        have s23 : Same H (out D1 H3) := s2.trans (out_same s3)
        have nx : (ds.take (i + 1)).all lawF = ((ds.take i).all lawF && lawF dx) := by rw [List.take_add_one, ex, List.all_append]; simp
        cases hl : lawF dx with
        | true => exact iteF' rfl ⟨acc, e3, by omega, by rw [nx, hl, Bool.and_true]; exact hacc, s23⟩
        | false => exact iteT' rfl ⟨_, rfl, acc, e3, fits_lt (by omega), acc ++ [x], upd_same, by rw [List.length_append]; simp only [List.length_cons, List.length_nil]; omega, by rw [nx, hl, Bool.and_false]; simp, s23.trans (out_set _)⟩
      · rintro H2 ⟨acc, e2, la, hacc, s2⟩
        rw [len, List.take_length] at hacc
        refine ⟨Nat.zero_le _, fun l hl => ⟨D1, l, acc, rfl, rfl, .of (same_new hl _ _ _ e2), .of upd_same, _, rfl, ?_⟩⟩
        rw [hacc]
        have t3 := (of_out s2).trans (same_new hl (.lst []))
        have la2 := lawF_all ds
        cases hp : pL ds with
        | none =>
          rw [hp] at la2
          rw [la2]
          refine iteT' rfl (qbl (q _ t3) ?_)
          simp only [lawL, hp]
        | some F =>
          rw [hp] at la2
          obtain ⟨ed, g⟩ := pL_dats hp
          subst ed
          rw [la2]
          cases hall : F.all (fun f => Fc.her f.ws) with
          | false =>
            refine iteT' (by simp [hall]) (qbl (q _ t3) ?_)
            simp only [lawL, hp]
            rw [her_cons, hall, Bool.and_false]
          | true =>
            exact iteF' (by simp [hall]) ⟨a, xs, F, _, _, rfl, rfl, rfl, hp, hall, L2.Same.seq t3 hS, hA.same t3, t3, fun _ _ h => h⟩
    · refine iteT' (by rw [isi_n ht (by decide)]; rfl) (qbl (q _ (Same.refl H)) ?_)
      cases d <;> first | rfl | (simp [tyN] at ht)
  case four =>
    rintro D σ H1 ⟨a, xs, F, o1, o2, rfl, rfl, rfl, hp, hall, hW, hWA, s1, hQ⟩
    have len := hWA.length
    rw [Fc.dats_length] at len
    simp only [PyData.depth] at hdp
    simp only [sz] at hz
    have lenz := len_szs (Fc.dats F)
    rw [Fc.dats_length] at lenz
    refine ⟨_, rfl, _, _, rfl, .inl ⟨_, hW, rfl⟩, ?_⟩
    rw [len]
    refine ⟨1, _, rfl, ⟨by decide, by decide, by omega, by omega⟩, fun D1 hD1 => ?_⟩
    refine lc_range (lo := 1) (n := ((F.length : Int) - 1).toNat) (NnW H1 D1 F) ⟨[], upd_same, Nat.le_refl 0, by simp, same_keepO' hD1⟩ ?_ ?_
    · rintro i H2 hi ⟨acc, e2, la, hacc, s2⟩
      have t2 := of_out s2
      have hi' : i + 1 < F.length := by omega
      have hW2 := L2.Same.seq t2 hW
      have hA2 := hWA.same t2
      have x1 : xs[i]? = some (xs[i]'(by omega)) := List.getElem?_eq_getElem _
      have x2 : xs[i + 1]? = some (xs[i + 1]'(by omega)) := List.getElem?_eq_getElem _
      obtain ⟨f1, ef, df⟩ := at_dats hA2 x1
      obtain ⟨g1, eg, dg⟩ := at_dats hA2 x2
      have dpf := Fc.depth_mem ef
      have i1 : (1 + (i : Int)) - 1 = ((i : Nat) : Int) := by omega
      have i2 : (1 + (i : Int)) = ((i + 1 : Nat) : Int) := by omega
      refine ⟨rfl, _, rfl, _, rfl, _, _, rfl, rfl, .inl (.inl ⟨a, _, _, _, rfl, rfl, hW2, by rw [i1]; exact atI_nat x1, ?_⟩)⟩
      refine ⟨_, rfl, _, rfl, .inl (.inl ⟨a, _, _, _, rfl, rfl, hW2, by rw [i2]; exact atI_nat x2, ?_⟩)⟩
      refine ⟨f1, g1, df, dg, by omega, _, rfl, ?_⟩
      have step : (acc = [] ∧ Fc.lt g1 f1 = false) ↔ ∀ j, j < i + 1 → ∀ f g, F[j]? = some f → F[j + 1]? = some g → Fc.lt g f = false := by
        rw [hacc]
        constructor
        · rintro ⟨h1, h2⟩ j hj f g hf hg
          by_cases hji : j = i
          · subst hji
            rw [ef] at hf; rw [eg] at hg
            cases hf; cases hg; exact h2
          · exact h1 j (by omega) f g hf hg
        · intro h
          exact ⟨fun j hj => h j (by omega), h i (by omega) f1 g1 ef eg⟩
      cases hlt : Fc.lt g1 f1 with
      | false => exact iteF' rfl ⟨acc, e2, by omega, by rw [← step, hlt]; simp, s2⟩
      | true =>
        refine iteT' rfl ⟨_, rfl, _, e2, by rw [List.length_map]; exact fits_lt (by omega), acc ++ [i + 1], ?_, by rw [List.length_append]; simp only [List.length_cons, List.length_nil]; omega, ?_, s2.trans (out_set _)⟩
        · rw [List.map_append, upd_same, i2]; rfl
        · rw [← step, hlt]; simp
    · rintro H2 ⟨acc, e2, la, hacc, s2⟩
      refine ⟨Nat.zero_le _, fun l hl => eq_nilI (same_new hl _ _ _ e2) upd_same (hQ _ _ (qbl (q _ (s1.trans ((of_out s2).trans (same_new hl _)))) ?_))⟩
      have hn : ((F.length : Int) - 1).toNat = F.length - 1 := by omega
      rw [hn] at hacc
      simp only [lawL, hp]
      rw [her_of hall hacc]
end

/-! ## a form spoilt -/
/-- small things, without a dict -/
def Pz (D : Nat) (d : PyData) : Prop := Sm d = true ∧ d.hasDict = false ∧ d.depth ≤ D
def SpO (B D : Nat) (ds : List PyData) : Prop := (∀ d ∈ ds, Pz D d) ∧ szs ds ≤ B
mutual
theorem pz_dat : ∀ {f : Fc}, (∀ n ∈ Fc.num f, n < 8) → Pz (Fc.dat f).depth (Fc.dat f)
  | .mk ws n, h => by
    rw [Fc.num] at h
    have a := pz_dats (l := ws) fun k hk => h k (List.mem_cons_of_mem _ hk)
    have hn := h n List.mem_cons_self
    have e : Sms (Fc.dats ws) = true ∧ PyData.hasDictAll (Fc.dats ws) = false := a
    refine ⟨?_, ?_, Nat.le_refl _⟩
    · rw [Fc.dat]; simp only [Sm, Sms, e.1, Bool.true_and, Bool.and_true, decide_eq_true_eq]; omega
    · rw [Fc.dat]; simp [PyData.hasDict, PyData.hasDictAll, e.2]
theorem pz_dats : ∀ {l : List Fc}, (∀ n ∈ Fc.nums l, n < 8) → Sms (Fc.dats l) = true ∧ PyData.hasDictAll (Fc.dats l) = false
  | [], _ => by rw [Fc.dats]; exact ⟨rfl, by simp [PyData.hasDictAll]⟩
  | f :: r, h => by
    rw [Fc.nums] at h
    obtain ⟨a, b, _⟩ := pz_dat (f := f) fun n hn => h n (List.mem_append.mpr (.inl hn))
    obtain ⟨c, d⟩ := pz_dats (l := r) fun n hn => h n (List.mem_append.mpr (.inr hn))
    rw [Fc.dats]
    exact ⟨by rw [Sms, a, c]; rfl, by simp [PyData.hasDictAll, b, d]⟩
end
theorem sms_of : ∀ {ds : List PyData}, (∀ d ∈ ds, Sm d = true) → Sms ds = true
  | [], _ => rfl
  | d :: r, h => by rw [Sms, h d List.mem_cons_self, sms_of fun e he => h e (List.mem_cons_of_mem _ he)]; rfl
theorem nod_of : ∀ {ds : List PyData}, (∀ d ∈ ds, d.hasDict = false) → PyData.hasDictAll ds = false
  | [], _ => by simp [PyData.hasDictAll]
  | d :: r, h => by simp [PyData.hasDictAll, h d List.mem_cons_self, nod_of fun e he => h e (List.mem_cons_of_mem _ he)]
theorem dep_of {D : Nat} : ∀ {ds : List PyData}, (∀ d ∈ ds, d.depth ≤ D) → PyData.depthAll ds ≤ D
  | [], _ => by simp [PyData.depthAll]
  | d :: r, h => by
    have a := h d List.mem_cons_self
    have b := dep_of (ds := r) fun e he => h e (List.mem_cons_of_mem _ he)
    simp only [PyData.depthAll]; omega
theorem mem_dats {l : List Fc} {d : PyData} (h : d ∈ Fc.dats l) : ∃ f ∈ l, d = Fc.dat f := by
  induction l with
  | nil => rw [Fc.dats] at h; cases h
  | cons g r ih =>
    rw [Fc.dats] at h
    rcases List.mem_cons.mp h with rfl | h
    · exact ⟨g, List.mem_cons_self, rfl⟩
    · obtain ⟨f, m, e⟩ := ih h
      exact ⟨f, List.mem_cons_of_mem _ m, e⟩
theorem pz_form {F : List Fc} (h : ∀ n ∈ Fc.nums F, n < 8) : ∀ d ∈ Fc.dats F, Pz (PyData.depthAll (Fc.dats F)) d := fun d hd => by
  obtain ⟨f, m, rfl⟩ := mem_dats hd
  obtain ⟨a, b, _⟩ := pz_dat (f := f) fun n hn => h n (Fc.mem_nums.mpr ⟨f, m, hn⟩)
  exact ⟨a, b, Fc.depth_of m⟩
theorem Pz.mono {D E : Nat} {d : PyData} (h : Pz D d) (l : D ≤ E) : Pz E d := ⟨h.1, h.2.1, Nat.le_trans h.2.2 l⟩
def oddD : List PyData := [.tuple [.tuple [], .int 8], .tuple [.tuple [], .bool true], .tuple [.tuple [], .int (-1)], .tuple [.list [], .int 0], .tuple [.tuple [], .int 0, .int 0], .tuple [.tuple []], .none, .int 0, .tuple [.tuple [.tuple [.tuple [], .int 0]], .int 0], .tuple [.tuple [], .int 7], .tuple [.tuple [.int 0], .int 0], .tuple [.tuple [.tuple [.tuple [], .int 1], .tuple [.tuple [], .int 0]], .int 0], .tuple [.tuple [.tuple [.tuple [], .int 0], .tuple [.tuple [], .int 1]], .int 0]]
theorem oddD_ok : ∀ d ∈ oddD, Pz 6 d ∧ sz d ≤ 12 := by
  have h : (oddD.all fun d => Sm d && !d.hasDict && decide (d.depth ≤ 6) && decide (sz d ≤ 12)) = true := by decide +kernel
  intro d hd
  have := List.all_eq_true.mp h d hd
  simp only [Bool.and_eq_true, Bool.not_eq_true', decide_eq_true_eq] at this
  exact ⟨⟨this.1.1.1, this.1.1.2, this.1.2⟩, this.2⟩
theorem oddD_len : oddD.length = 13 := rfl
theorem szs_take (ds : List PyData) (k : Nat) : szs (ds.take k) + szs (ds.drop k) = szs ds := by rw [← szs_append, List.take_append_drop]
theorem szs_split {ds : List PyData} {k : Nat} {d : PyData} (h : ds[k]? = some d) : szs (ds.take k) + sz d + szs (ds.drop (k + 1)) = szs ds := by
  have hk := (List.getElem?_eq_some_iff.mp h).1
  have e : ds.drop k = d :: ds.drop (k + 1) := by rw [List.drop_eq_getElem_cons hk]; congr 1; exact (List.getElem?_eq_some_iff.mp h).2
  have := szs_take ds k
  rw [e] at this
  simp only [szs] at this
  omega
theorem DqAll.take {K : PySem.W.Frag} {H : Hp} : ∀ (k : Nat) {xs : List V} {ds : List PyData}, DqAll K H xs ds → DqAll K H (xs.take k) (ds.take k)
  | 0, _, _, _ => by simp only [List.take_zero]; exact .nil
  | k + 1, _, _, .nil => by simp only [List.take_nil]; exact .nil
  | k + 1, _, _, .cons a b => by simp only [List.take_succ_cons]; exact .cons a (KW.DqAll.take k b)
theorem DqAll.drop {K : PySem.W.Frag} {H : Hp} : ∀ (k : Nat) {xs : List V} {ds : List PyData}, DqAll K H xs ds → DqAll K H (xs.drop k) (ds.drop k)
  | 0, _, _, h => by simpa only [List.drop_zero] using h
  | k + 1, _, _, .nil => by simp only [List.drop_nil]; exact .nil
  | k + 1, _, _, .cons a b => by simp only [List.drop_succ_cons]; exact KW.DqAll.drop k b
theorem DqAll.rev {K : PySem.W.Frag} {H : Hp} : ∀ {xs : List V} {ds : List PyData}, DqAll K H xs ds → DqAll K H xs.reverse ds.reverse
  | _, _, .nil => .nil
  | _, _, .cons a b => by simp only [List.reverse_cons]; exact (KW.DqAll.rev b).append (.cons a .nil)
theorem cut_to (xs : List V) (k : Nat) (h : k ≤ xs.length) : cutV xs none (some (k : Int)) = xs.take k := by
  unfold cutV
  have e := HT.sIx_nat xs.length xs.length k
  have e0 : HT.sIx xs.length 0 none = 0 := rfl
  rw [e, e0]
  simp only [List.drop_zero, Nat.sub_zero]
  congr 1; omega
theorem cut_from (xs : List V) (k : Nat) : cutV xs (some (k : Int)) none = xs.drop k := by
  unfold cutV
  have e := HT.sIx_nat xs.length 0 k
  have e0 : HT.sIx xs.length xs.length none = xs.length := rfl
  rw [e, e0]
  by_cases h : k ≤ xs.length
  · have : min k xs.length = k := by omega
    rw [this]
    exact List.take_of_length_le (by simp)
  · have : min k xs.length = xs.length := by omega
    rw [this, Nat.sub_self, List.take_zero]
    exact (List.drop_of_length_le (by omega)).symm
theorem dats_get : ∀ {l : List Fc} {i : Nat} {f : Fc}, l[i]? = some f → (Fc.dats l)[i]? = some (Fc.dat f)
  | [], _, _, h => by simp at h
  | g :: r, 0, f, h => by
    have e : g = f := by simpa using h
    rw [Fc.dats, e]; rfl
  | g :: r, i + 1, f, h => by rw [Fc.dats]; simpa using dats_get (l := r) (i := i) (by simpa using h)
theorem szs_rev : ∀ ds : List PyData, szs ds.reverse = szs ds
  | [] => rfl
  | d :: r => by rw [List.reverse_cons, szs_append, szs_rev r]; simp only [szs]; omega
def spSp (K : PySem.W.Frag) (N : Nat) : Sp := fun vs H Q _ => ∃ (w a : Addr) (xs : List V) (F : List Fc), vs = [.ref w, .ref a] ∧ Well H w ∧ SqL K (out w H) a xs ∧ DqAll K (out w H) xs (Fc.dats F) ∧ (∀ n ∈ Fc.nums F, n < 8) ∧ PyData.depthAll (Fc.dats F) < N ∧ szs (Fc.dats F) ≤ 1000 ∧
  ∀ (ds : List PyData) (p : Addr) (H' : Hp), Dq K (out w H') (.ref p) (.list ds) → SpO (szs (Fc.dats F) + 12) (PyData.depthAll (Fc.dats F) + 6) ds → Aft w H H' → Q (.ref p) H'
abbrev s_law_spoilt : Stmt := top 25
theorem sc_law_spoilt : FnScope ["state", "row", "place", "odd", "way", "wants", "n"] ["state", "row"] (defScope s_law_spoilt) := ⟨rfl, rfl, rfl, by decide +kernel, rfl, by decide +kernel, by decide +kernel⟩
/-- the odd things stand there -/
def IWay (K : PySem.W.Frag) (H : Hp) (Q : VK) (wl a : Addr) (n : Nat) : TS := fun D σ H' => ∃ (pl : Nat) (lo : Addr) (vals : List V) (o4 o5 o6 : Option V), σ = [some (.ref wl), some (.ref a), some (.int (pl : Int)), some (.ref lo), o4, o5, o6] ∧ pl ≤ n ∧ lo ≠ wl ∧ out wl H' lo = some (.lst vals) ∧ DqAll K (out wl H') vals oddD ∧ Aft wl H H' ∧ ∀ v H2, Q v H2 → D.rt v H2
section
variable {P : Program} {w : World} {K : PySem.W.Frag} {mg : Str → Option Value} {base : Heap} {CN CT : Addr}
theorem ok_spoilt1 {N : Nat} (A : At K mg "_law_spoilt" s_law_spoilt) (T : Txt K mg w CN CT) (C_law_digit : Cal P w K mg base CX0 1 "_law_digit" ["state", "base"] spDigit) (C_law_spoilt : Cal P w K mg base CX0 (N + 1) "_law_spoilt" ["state", "row"] (spSp K N)) : Cal P w K mg base CX0 (N + 2) "_law_spoilt" ["state", "row"] (spSp K (N + 1)) := by
  obtain ⟨f, fd, F, m⟩ := A
  refine ⟨f, fd, F.ok sc_law_spoilt (fun vs H Q E h => ?_) (fun cdv A outer s H vs Q E hr h => ?_), F.binds (ps := ["state", "row"]) (fun _ _ _ _ _ _ us hl => match us, hl with | [_, _], _ => rfl), F.kp, m⟩
  · obtain ⟨w, a, xs, F, rfl, _⟩ := h; rfl
  obtain ⟨wl, a, xs, F, rfl, hw, hS, hA, h8, hN, hz, q⟩ := h
  have len := hA.length
  rw [Fc.dats_length] at len
  have lenz := len_szs (Fc.dats F)
  rw [Fc.dats_length] at lenz
  refine ⟨_, (pss_cons (ps_set (i := 2) sc_law_spoilt.nd rfl (by first | exact Or.inl rfl | exact Or.inr rfl) (pe_calC C_law_digit (hr.mono (by first | decide | omega)) pass0 (pa_cons (pv 0) (pa_cons (pe_op op_addA (pe_callB call_len (by rfl) T.z_len (by decide +kernel) (pa_cons (pv 1) pa_nil)) pe_int) pa_nil))))
  (pss_cons (ps_set (i := 3) sc_law_spoilt.nd rfl (by first | exact Or.inl rfl | exact Or.inr rfl) (pe_lst (pa_cons (pe_tup (pa_cons (pe_tup pa_nil) (pa_cons pe_int pa_nil))) (pa_cons (pe_tup (pa_cons (pe_tup pa_nil) (pa_cons pe_bl pa_nil))) (pa_cons (pe_tup (pa_cons (pe_tup pa_nil) (pa_cons (pe_un un_neg pe_int) pa_nil))) (pa_cons (pe_tup (pa_cons (pe_lst pa_nil) (pa_cons pe_int pa_nil))) (pa_cons (pe_tup (pa_cons (pe_tup pa_nil) (pa_cons pe_int (pa_cons pe_int pa_nil)))) (pa_cons (pe_tup (pa_cons (pe_tup pa_nil) pa_nil)) (pa_cons pe_non (pa_cons pe_int (pa_cons (pe_tup (pa_cons (pe_tup (pa_cons (pe_tup (pa_cons (pe_tup pa_nil) (pa_cons pe_int pa_nil))) pa_nil)) (pa_cons pe_int pa_nil))) (pa_cons (pe_tup (pa_cons (pe_tup pa_nil) (pa_cons pe_int pa_nil))) pa_nil))))))))))))
  (pss_cons (ps_set (i := 3) sc_law_spoilt.nd rfl (by first | exact Or.inl rfl | exact Or.inr rfl) (pe_op op_addA (pv 3) (pe_lst (pa_cons (pe_tup (pa_cons (pe_tup (pa_cons pe_int pa_nil)) (pa_cons pe_int pa_nil))) (pa_cons (pe_tup (pa_cons (pe_tup (pa_cons (pe_tup (pa_cons (pe_tup pa_nil) (pa_cons pe_int pa_nil))) (pa_cons (pe_tup (pa_cons (pe_tup pa_nil) (pa_cons pe_int pa_nil))) pa_nil))) (pa_cons pe_int pa_nil))) (pa_cons (pe_tup (pa_cons (pe_tup (pa_cons (pe_tup (pa_cons (pe_tup pa_nil) (pa_cons pe_int pa_nil))) (pa_cons (pe_tup (pa_cons (pe_tup pa_nil) (pa_cons pe_int pa_nil))) pa_nil))) (pa_cons pe_int pa_nil))) pa_nil))))))
  (pss_gen (I := IWay K H Q wl a xs.length) (pss_cons (ps_set (i := 4) sc_law_spoilt.nd rfl (by first | exact Or.inl rfl | exact Or.inr rfl) (pe_calC C_law_digit (hr.mono (by first | decide | omega)) pass0 (pa_cons (pv 0) (pa_cons pe_int pa_nil))))
  (pss_cons (ps_if (pt_cmpR (op_eqA (room200 hr)) (pv 4) pe_int (nomark _))
   (pss_one (ps_ret (pe_revL (pv 1))))
   pss_nil)
  (pss_cons (ps_if (PW.pt (pw_and (pt_cmpR (op_eqA (room200 hr)) (pv 4) pe_int (nomark _)) (pw_and1 (pt_cmpR op_lt (pv 2) (pe_callB call_len (by rfl) T.z_len (by decide +kernel) (pa_cons (pv 1) pa_nil)) (nomark _)))))
   (pss_cons (ps_asg (pe_ix ix_B (pv 1) (pv 2) (fun _ _ => rfl)) (pg_tup (by rfl) (pgs_cons (pg_name (i := 5) sc_law_spoilt.nd rfl (by first | exact Or.inl rfl | exact Or.inr rfl)) (pgs_cons (pg_name (i := 6) sc_law_spoilt.nd rfl (by first | exact Or.inl rfl | exact Or.inr rfl)) pgs_nil))))
  (pss_one (ps_ret (pe_op op_addA (pe_op op_addA (pe_slice sl_A (pv 1) po_none (po_some (pv 2))) (pe_lst (pa_cons (pe_tup (pa_cons (pe_callTy call_tuple_of (by rfl) T.z_tuple (by decide +kernel) (pa_cons (pe_calC C_law_spoilt (hr.mono (by first | decide | omega)) pass0 (pa_cons (pv 0) (pa_cons (pe_callTy call_list_of (by rfl) T.z_list (by decide +kernel) (pa_cons (pv 5) pa_nil)) pa_nil))) pa_nil)) (pa_cons (pv 6) pa_nil))) pa_nil))) (pe_slice sl_A (pv 1) (po_some (pe_op op_addA (pv 2) pe_int)) po_none)))))
   pss_nil)
  (pss_cons (ps_if (pt_cmpR (op_eqA (room200 hr)) (pv 4) pe_int (nomark _))
   (pss_one (ps_ret (pe_op op_addA (pe_op op_addA (pe_slice sl_A (pv 1) po_none (po_some (pv 2))) (pe_lst (pa_cons (pe_ix ix_B (pv 3) (pe_calC C_law_digit (hr.mono (by first | decide | omega)) pass0 (pa_cons (pv 0) (pa_cons pe_int pa_nil))) (fun _ _ => rfl)) pa_nil))) (pe_slice sl_A (pv 1) (po_some (pe_op op_addA (pv 2) pe_int)) po_none))))
   pss_nil)
  (pss_one (ps_ret (pe_op op_addA (pe_op op_addA (pe_slice sl_A (pv 1) po_none (po_some (pv 2))) (pe_lst (pa_cons (pe_ix ix_B (pv 3) (pe_calC C_law_digit (hr.mono (by first | decide | omega)) pass0 (pa_cons (pv 0) (pa_cons pe_int pa_nil))) (fun _ _ => rfl)) pa_nil))) (pe_slice sl_A (pv 1) (po_some (pv 2)) po_none)))))))) ?way)))), ?top⟩
  case top =>
    refine ⟨_, rfl, _, rfl, _, _, rfl, .inl ⟨_, L2.Same.seq (out_sub wl H) hS, rfl⟩, .inl ⟨_, _, rfl, rfl, wl, _, rfl, hw, by omega, by omega, fun d H1 d0 d1 a1 => ?_⟩⟩
    obtain ⟨pl, rfl⟩ := Int.eq_ofNat_of_zero_le d0
    refine ⟨(by show 0 ≤ sizeLine; decide), fun t1 h1 => ?_⟩
    have b1 := a1.new h1 (.tup [])
    have s1 := out_new (w := wl) h1 (.tup [])
    have r1 := a1.well.laid h1 (.tup [])
    have x1 : Dq K (out wl (upd H1 t1 (.tup []))) (.ref t1) (.tuple []) := .tup (.of r1) .nil
    generalize upd H1 t1 (.tup []) = K1 at b1 x1  ⊢
    clear s1 r1
    refine ⟨(by show 2 ≤ sizeLine; decide), fun t2 h2 => ?_⟩
    have b2 := b1.new h2 (.tup [.ref t1, .int 8])
    have s2 := out_new (w := wl) h2 (.tup [.ref t1, .int 8])
    have r2 := b1.well.laid h2 (.tup [.ref t1, .int 8])
    have x1 := x1.same s2
    have x2 : Dq K (out wl (upd K1 t2 (.tup [.ref t1, .int 8]))) (.ref t2) (.tuple [.tuple [], .int 8]) := .tup (.of r2) (.cons x1 (.cons (.int _) .nil))
    generalize upd K1 t2 (.tup [.ref t1, .int 8]) = K2 at b2 x2  ⊢
    clear s2 r2
    refine ⟨(by show 0 ≤ sizeLine; decide), fun t3 h3 => ?_⟩
    have b3 := b2.new h3 (.tup [])
    have s3 := out_new (w := wl) h3 (.tup [])
    have r3 := b2.well.laid h3 (.tup [])
    have x2 := x2.same s3
    have x3 : Dq K (out wl (upd K2 t3 (.tup []))) (.ref t3) (.tuple []) := .tup (.of r3) .nil
    generalize upd K2 t3 (.tup []) = K3 at b3 x3  x2 ⊢
    clear s3 r3
    refine ⟨(by show 2 ≤ sizeLine; decide), fun t4 h4 => ?_⟩
    have b4 := b3.new h4 (.tup [.ref t3, .bl true])
    have s4 := out_new (w := wl) h4 (.tup [.ref t3, .bl true])
    have r4 := b3.well.laid h4 (.tup [.ref t3, .bl true])
    have x2 := x2.same s4
    have x3 := x3.same s4
    have x4 : Dq K (out wl (upd K3 t4 (.tup [.ref t3, .bl true]))) (.ref t4) (.tuple [.tuple [], .bool true]) := .tup (.of r4) (.cons x3 (.cons (.bl _) .nil))
    generalize upd K3 t4 (.tup [.ref t3, .bl true]) = K4 at b4 x4  x2 ⊢
    clear s4 r4
    refine ⟨(by show 0 ≤ sizeLine; decide), fun t5 h5 => ?_⟩
    have b5 := b4.new h5 (.tup [])
    have s5 := out_new (w := wl) h5 (.tup [])
    have r5 := b4.well.laid h5 (.tup [])
    have x2 := x2.same s5
    have x4 := x4.same s5
    have x5 : Dq K (out wl (upd K4 t5 (.tup []))) (.ref t5) (.tuple []) := .tup (.of r5) .nil
    generalize upd K4 t5 (.tup []) = K5 at b5 x5  x2 x4 ⊢
    clear s5 r5
    refine ⟨_, rfl, ?_⟩
    refine ⟨(by show 2 ≤ sizeLine; decide), fun t6 h6 => ?_⟩
    have b6 := b5.new h6 (.tup [.ref t5, .int (-1)])
    have s6 := out_new (w := wl) h6 (.tup [.ref t5, .int (-1)])
    have r6 := b5.well.laid h6 (.tup [.ref t5, .int (-1)])
    have x2 := x2.same s6
    have x4 := x4.same s6
    have x5 := x5.same s6
    have x6 : Dq K (out wl (upd K5 t6 (.tup [.ref t5, .int (-1)]))) (.ref t6) (.tuple [.tuple [], .int (-1)]) := .tup (.of r6) (.cons x5 (.cons (.int _) .nil))
    generalize upd K5 t6 (.tup [.ref t5, .int (-1)]) = K6 at b6 x6  x2 x4 ⊢
    clear s6 r6
    refine ⟨(by show 0 ≤ sizeLine; decide), fun t7 h7 => ?_⟩
    have b7 := b6.new h7 (.lst [])
    have s7 := out_new (w := wl) h7 (.lst [])
    have r7 := b6.well.laid h7 (.lst [])
    have x2 := x2.same s7
    have x4 := x4.same s7
    have x6 := x6.same s7
    have x7 : Dq K (out wl (upd K6 t7 (.lst []))) (.ref t7) (.list []) := .lst (.of r7) .nil
    generalize upd K6 t7 (.lst []) = K7 at b7 x7  x2 x4 x6 ⊢
    clear s7 r7
    refine ⟨(by show 2 ≤ sizeLine; decide), fun t8 h8 => ?_⟩
    have b8 := b7.new h8 (.tup [.ref t7, .int 0])
    have s8 := out_new (w := wl) h8 (.tup [.ref t7, .int 0])
    have r8 := b7.well.laid h8 (.tup [.ref t7, .int 0])
    have x2 := x2.same s8
    have x4 := x4.same s8
    have x6 := x6.same s8
    have x7 := x7.same s8
    have x8 : Dq K (out wl (upd K7 t8 (.tup [.ref t7, .int 0]))) (.ref t8) (.tuple [.list [], .int 0]) := .tup (.of r8) (.cons x7 (.cons (.int _) .nil))
    generalize upd K7 t8 (.tup [.ref t7, .int 0]) = K8 at b8 x8  x2 x4 x6 ⊢
    clear s8 r8
    refine ⟨(by show 0 ≤ sizeLine; decide), fun t9 h9 => ?_⟩
    have b9 := b8.new h9 (.tup [])
    have s9 := out_new (w := wl) h9 (.tup [])
    have r9 := b8.well.laid h9 (.tup [])
    have x2 := x2.same s9
    have x4 := x4.same s9
    have x6 := x6.same s9
    have x8 := x8.same s9
    have x9 : Dq K (out wl (upd K8 t9 (.tup []))) (.ref t9) (.tuple []) := .tup (.of r9) .nil
    generalize upd K8 t9 (.tup []) = K9 at b9 x9  x2 x4 x6 x8 ⊢
    clear s9 r9
    refine ⟨(by show 3 ≤ sizeLine; decide), fun t10 h10 => ?_⟩
    have b10 := b9.new h10 (.tup [.ref t9, .int 0, .int 0])
    have s10 := out_new (w := wl) h10 (.tup [.ref t9, .int 0, .int 0])
    have r10 := b9.well.laid h10 (.tup [.ref t9, .int 0, .int 0])
    have x2 := x2.same s10
    have x4 := x4.same s10
    have x6 := x6.same s10
    have x8 := x8.same s10
    have x9 := x9.same s10
    have x10 : Dq K (out wl (upd K9 t10 (.tup [.ref t9, .int 0, .int 0]))) (.ref t10) (.tuple [.tuple [], .int 0, .int 0]) := .tup (.of r10) (.cons x9 (.cons (.int _) (.cons (.int _) .nil)))
    generalize upd K9 t10 (.tup [.ref t9, .int 0, .int 0]) = K10 at b10 x10  x2 x4 x6 x8 ⊢
    clear s10 r10
    refine ⟨(by show 0 ≤ sizeLine; decide), fun t11 h11 => ?_⟩
    have b11 := b10.new h11 (.tup [])
    have s11 := out_new (w := wl) h11 (.tup [])
    have r11 := b10.well.laid h11 (.tup [])
    have x2 := x2.same s11
    have x4 := x4.same s11
    have x6 := x6.same s11
    have x8 := x8.same s11
    have x10 := x10.same s11
    have x11 : Dq K (out wl (upd K10 t11 (.tup []))) (.ref t11) (.tuple []) := .tup (.of r11) .nil
    generalize upd K10 t11 (.tup []) = K11 at b11 x11  x2 x4 x6 x8 x10 ⊢
    clear s11 r11
    refine ⟨(by show 1 ≤ sizeLine; decide), fun t12 h12 => ?_⟩
    have b12 := b11.new h12 (.tup [.ref t11])
    have s12 := out_new (w := wl) h12 (.tup [.ref t11])
    have r12 := b11.well.laid h12 (.tup [.ref t11])
    have x2 := x2.same s12
    have x4 := x4.same s12
    have x6 := x6.same s12
    have x8 := x8.same s12
    have x10 := x10.same s12
    have x11 := x11.same s12
    have x12 : Dq K (out wl (upd K11 t12 (.tup [.ref t11]))) (.ref t12) (.tuple [.tuple []]) := .tup (.of r12) (.cons x11 .nil)
    generalize upd K11 t12 (.tup [.ref t11]) = K12 at b12 x12  x2 x4 x6 x8 x10 ⊢
    clear s12 r12
    refine ⟨(by show 0 ≤ sizeLine; decide), fun t13 h13 => ?_⟩
    have b13 := b12.new h13 (.tup [])
    have s13 := out_new (w := wl) h13 (.tup [])
    have r13 := b12.well.laid h13 (.tup [])
    have x2 := x2.same s13
    have x4 := x4.same s13
    have x6 := x6.same s13
    have x8 := x8.same s13
    have x10 := x10.same s13
    have x12 := x12.same s13
    have x13 : Dq K (out wl (upd K12 t13 (.tup []))) (.ref t13) (.tuple []) := .tup (.of r13) .nil
    generalize upd K12 t13 (.tup []) = K13 at b13 x13  x2 x4 x6 x8 x10 x12 ⊢
    clear s13 r13
    refine ⟨(by show 2 ≤ sizeLine; decide), fun t14 h14 => ?_⟩
    have b14 := b13.new h14 (.tup [.ref t13, .int 0])
    have s14 := out_new (w := wl) h14 (.tup [.ref t13, .int 0])
    have r14 := b13.well.laid h14 (.tup [.ref t13, .int 0])
    have x2 := x2.same s14
    have x4 := x4.same s14
    have x6 := x6.same s14
    have x8 := x8.same s14
    have x10 := x10.same s14
    have x12 := x12.same s14
    have x13 := x13.same s14
    have x14 : Dq K (out wl (upd K13 t14 (.tup [.ref t13, .int 0]))) (.ref t14) (.tuple [.tuple [], .int 0]) := .tup (.of r14) (.cons x13 (.cons (.int _) .nil))
    generalize upd K13 t14 (.tup [.ref t13, .int 0]) = K14 at b14 x14  x2 x4 x6 x8 x10 x12 ⊢
    clear s14 r14
    refine ⟨(by show 1 ≤ sizeLine; decide), fun t15 h15 => ?_⟩
    have b15 := b14.new h15 (.tup [.ref t14])
    have s15 := out_new (w := wl) h15 (.tup [.ref t14])
    have r15 := b14.well.laid h15 (.tup [.ref t14])
    have x2 := x2.same s15
    have x4 := x4.same s15
    have x6 := x6.same s15
    have x8 := x8.same s15
    have x10 := x10.same s15
    have x12 := x12.same s15
    have x14 := x14.same s15
    have x15 : Dq K (out wl (upd K14 t15 (.tup [.ref t14]))) (.ref t15) (.tuple [.tuple [.tuple [], .int 0]]) := .tup (.of r15) (.cons x14 .nil)
    generalize upd K14 t15 (.tup [.ref t14]) = K15 at b15 x15  x2 x4 x6 x8 x10 x12 ⊢
    clear s15 r15
    refine ⟨(by show 2 ≤ sizeLine; decide), fun t16 h16 => ?_⟩
    have b16 := b15.new h16 (.tup [.ref t15, .int 0])
    have s16 := out_new (w := wl) h16 (.tup [.ref t15, .int 0])
    have r16 := b15.well.laid h16 (.tup [.ref t15, .int 0])
    have x2 := x2.same s16
    have x4 := x4.same s16
    have x6 := x6.same s16
    have x8 := x8.same s16
    have x10 := x10.same s16
    have x12 := x12.same s16
    have x15 := x15.same s16
    have x16 : Dq K (out wl (upd K15 t16 (.tup [.ref t15, .int 0]))) (.ref t16) (.tuple [.tuple [.tuple [.tuple [], .int 0]], .int 0]) := .tup (.of r16) (.cons x15 (.cons (.int _) .nil))
    generalize upd K15 t16 (.tup [.ref t15, .int 0]) = K16 at b16 x16  x2 x4 x6 x8 x10 x12 ⊢
    clear s16 r16
    refine ⟨(by show 0 ≤ sizeLine; decide), fun t17 h17 => ?_⟩
    have b17 := b16.new h17 (.tup [])
    have s17 := out_new (w := wl) h17 (.tup [])
    have r17 := b16.well.laid h17 (.tup [])
    have x2 := x2.same s17
    have x4 := x4.same s17
    have x6 := x6.same s17
    have x8 := x8.same s17
    have x10 := x10.same s17
    have x12 := x12.same s17
    have x16 := x16.same s17
    have x17 : Dq K (out wl (upd K16 t17 (.tup []))) (.ref t17) (.tuple []) := .tup (.of r17) .nil
    generalize upd K16 t17 (.tup []) = K17 at b17 x17  x2 x4 x6 x8 x10 x12 x16 ⊢
    clear s17 r17
    refine ⟨(by show 2 ≤ sizeLine; decide), fun t18 h18 => ?_⟩
    have b18 := b17.new h18 (.tup [.ref t17, .int 7])
    have s18 := out_new (w := wl) h18 (.tup [.ref t17, .int 7])
    have r18 := b17.well.laid h18 (.tup [.ref t17, .int 7])
    have x2 := x2.same s18
    have x4 := x4.same s18
    have x6 := x6.same s18
    have x8 := x8.same s18
    have x10 := x10.same s18
    have x12 := x12.same s18
    have x16 := x16.same s18
    have x17 := x17.same s18
    have x18 : Dq K (out wl (upd K17 t18 (.tup [.ref t17, .int 7]))) (.ref t18) (.tuple [.tuple [], .int 7]) := .tup (.of r18) (.cons x17 (.cons (.int _) .nil))
    generalize upd K17 t18 (.tup [.ref t17, .int 7]) = K18 at b18 x18  x2 x4 x6 x8 x10 x12 x16 ⊢
    clear s18 r18
    refine ⟨(by show 10 ≤ sizeLine; decide), fun t19 h19 => ?_⟩
    have b19 := b18.new h19 (.lst [.ref t2, .ref t4, .ref t6, .ref t8, .ref t10, .ref t12, .non, .int 0, .ref t16, .ref t18])
    have s19 := out_new (w := wl) h19 (.lst [.ref t2, .ref t4, .ref t6, .ref t8, .ref t10, .ref t12, .non, .int 0, .ref t16, .ref t18])
    have r19 := b18.well.laid h19 (.lst [.ref t2, .ref t4, .ref t6, .ref t8, .ref t10, .ref t12, .non, .int 0, .ref t16, .ref t18])
    have x2 := x2.same s19
    have x4 := x4.same s19
    have x6 := x6.same s19
    have x8 := x8.same s19
    have x10 := x10.same s19
    have x12 := x12.same s19
    have x16 := x16.same s19
    have x18 := x18.same s19
    generalize upd K18 t19 (.lst [.ref t2, .ref t4, .ref t6, .ref t8, .ref t10, .ref t12, .non, .int 0, .ref t16, .ref t18]) = K19 at b19 r19 x2 x4 x6 x8 x10 x12 x16 x18 ⊢
    clear s19
    refine ⟨_, rfl, ?_⟩
    refine ⟨(by show 1 ≤ sizeLine; decide), fun t20 h20 => ?_⟩
    have b20 := b19.new h20 (.tup [.int 0])
    have s20 := out_new (w := wl) h20 (.tup [.int 0])
    have r20 := b19.well.laid h20 (.tup [.int 0])
    have x2 := x2.same s20
    have x4 := x4.same s20
    have x6 := x6.same s20
    have x8 := x8.same s20
    have x10 := x10.same s20
    have x12 := x12.same s20
    have x16 := x16.same s20
    have x18 := x18.same s20
    have r19 := s20 _ _ r19
    have x20 : Dq K (out wl (upd K19 t20 (.tup [.int 0]))) (.ref t20) (.tuple [.int 0]) := .tup (.of r20) (.cons (.int _) .nil)
    generalize upd K19 t20 (.tup [.int 0]) = K20 at b20 x20  x2 x4 x6 x8 x10 x12 x16 x18 r19 ⊢
    clear s20 r20
    refine ⟨(by show 2 ≤ sizeLine; decide), fun t21 h21 => ?_⟩
    have b21 := b20.new h21 (.tup [.ref t20, .int 0])
    have s21 := out_new (w := wl) h21 (.tup [.ref t20, .int 0])
    have r21 := b20.well.laid h21 (.tup [.ref t20, .int 0])
    have x2 := x2.same s21
    have x4 := x4.same s21
    have x6 := x6.same s21
    have x8 := x8.same s21
    have x10 := x10.same s21
    have x12 := x12.same s21
    have x16 := x16.same s21
    have x18 := x18.same s21
    have x20 := x20.same s21
    have r19 := s21 _ _ r19
    have x21 : Dq K (out wl (upd K20 t21 (.tup [.ref t20, .int 0]))) (.ref t21) (.tuple [.tuple [.int 0], .int 0]) := .tup (.of r21) (.cons x20 (.cons (.int _) .nil))
    generalize upd K20 t21 (.tup [.ref t20, .int 0]) = K21 at b21 x21  x2 x4 x6 x8 x10 x12 x16 x18 r19 ⊢
    clear s21 r21
    refine ⟨(by show 0 ≤ sizeLine; decide), fun t22 h22 => ?_⟩
    have b22 := b21.new h22 (.tup [])
    have s22 := out_new (w := wl) h22 (.tup [])
    have r22 := b21.well.laid h22 (.tup [])
    have x2 := x2.same s22
    have x4 := x4.same s22
    have x6 := x6.same s22
    have x8 := x8.same s22
    have x10 := x10.same s22
    have x12 := x12.same s22
    have x16 := x16.same s22
    have x18 := x18.same s22
    have x21 := x21.same s22
    have r19 := s22 _ _ r19
    have x22 : Dq K (out wl (upd K21 t22 (.tup []))) (.ref t22) (.tuple []) := .tup (.of r22) .nil
    generalize upd K21 t22 (.tup []) = K22 at b22 x22  x2 x4 x6 x8 x10 x12 x16 x18 x21 r19 ⊢
    clear s22 r22
    refine ⟨(by show 2 ≤ sizeLine; decide), fun t23 h23 => ?_⟩
    have b23 := b22.new h23 (.tup [.ref t22, .int 1])
    have s23 := out_new (w := wl) h23 (.tup [.ref t22, .int 1])
    have r23 := b22.well.laid h23 (.tup [.ref t22, .int 1])
    have x2 := x2.same s23
    have x4 := x4.same s23
    have x6 := x6.same s23
    have x8 := x8.same s23
    have x10 := x10.same s23
    have x12 := x12.same s23
    have x16 := x16.same s23
    have x18 := x18.same s23
    have x21 := x21.same s23
    have x22 := x22.same s23
    have r19 := s23 _ _ r19
    have x23 : Dq K (out wl (upd K22 t23 (.tup [.ref t22, .int 1]))) (.ref t23) (.tuple [.tuple [], .int 1]) := .tup (.of r23) (.cons x22 (.cons (.int _) .nil))
    generalize upd K22 t23 (.tup [.ref t22, .int 1]) = K23 at b23 x23  x2 x4 x6 x8 x10 x12 x16 x18 x21 r19 ⊢
    clear s23 r23
    refine ⟨(by show 0 ≤ sizeLine; decide), fun t24 h24 => ?_⟩
    have b24 := b23.new h24 (.tup [])
    have s24 := out_new (w := wl) h24 (.tup [])
    have r24 := b23.well.laid h24 (.tup [])
    have x2 := x2.same s24
    have x4 := x4.same s24
    have x6 := x6.same s24
    have x8 := x8.same s24
    have x10 := x10.same s24
    have x12 := x12.same s24
    have x16 := x16.same s24
    have x18 := x18.same s24
    have x21 := x21.same s24
    have x23 := x23.same s24
    have r19 := s24 _ _ r19
    have x24 : Dq K (out wl (upd K23 t24 (.tup []))) (.ref t24) (.tuple []) := .tup (.of r24) .nil
    generalize upd K23 t24 (.tup []) = K24 at b24 x24  x2 x4 x6 x8 x10 x12 x16 x18 x21 x23 r19 ⊢
    clear s24 r24
    refine ⟨(by show 2 ≤ sizeLine; decide), fun t25 h25 => ?_⟩
    have b25 := b24.new h25 (.tup [.ref t24, .int 0])
    have s25 := out_new (w := wl) h25 (.tup [.ref t24, .int 0])
    have r25 := b24.well.laid h25 (.tup [.ref t24, .int 0])
    have x2 := x2.same s25
    have x4 := x4.same s25
    have x6 := x6.same s25
    have x8 := x8.same s25
    have x10 := x10.same s25
    have x12 := x12.same s25
    have x16 := x16.same s25
    have x18 := x18.same s25
    have x21 := x21.same s25
    have x23 := x23.same s25
    have x24 := x24.same s25
    have r19 := s25 _ _ r19
    have x25 : Dq K (out wl (upd K24 t25 (.tup [.ref t24, .int 0]))) (.ref t25) (.tuple [.tuple [], .int 0]) := .tup (.of r25) (.cons x24 (.cons (.int _) .nil))
    generalize upd K24 t25 (.tup [.ref t24, .int 0]) = K25 at b25 x25  x2 x4 x6 x8 x10 x12 x16 x18 x21 x23 r19 ⊢
    clear s25 r25
    refine ⟨(by show 2 ≤ sizeLine; decide), fun t26 h26 => ?_⟩
    have b26 := b25.new h26 (.tup [.ref t23, .ref t25])
    have s26 := out_new (w := wl) h26 (.tup [.ref t23, .ref t25])
    have r26 := b25.well.laid h26 (.tup [.ref t23, .ref t25])
    have x2 := x2.same s26
    have x4 := x4.same s26
    have x6 := x6.same s26
    have x8 := x8.same s26
    have x10 := x10.same s26
    have x12 := x12.same s26
    have x16 := x16.same s26
    have x18 := x18.same s26
    have x21 := x21.same s26
    have x23 := x23.same s26
    have x25 := x25.same s26
    have r19 := s26 _ _ r19
    have x26 : Dq K (out wl (upd K25 t26 (.tup [.ref t23, .ref t25]))) (.ref t26) (.tuple [.tuple [.tuple [], .int 1], .tuple [.tuple [], .int 0]]) := .tup (.of r26) (.cons x23 (.cons x25 .nil))
    generalize upd K25 t26 (.tup [.ref t23, .ref t25]) = K26 at b26 x26  x2 x4 x6 x8 x10 x12 x16 x18 x21 r19 ⊢
    clear s26 r26
    refine ⟨(by show 2 ≤ sizeLine; decide), fun t27 h27 => ?_⟩
    have b27 := b26.new h27 (.tup [.ref t26, .int 0])
    have s27 := out_new (w := wl) h27 (.tup [.ref t26, .int 0])
    have r27 := b26.well.laid h27 (.tup [.ref t26, .int 0])
    have x2 := x2.same s27
    have x4 := x4.same s27
    have x6 := x6.same s27
    have x8 := x8.same s27
    have x10 := x10.same s27
    have x12 := x12.same s27
    have x16 := x16.same s27
    have x18 := x18.same s27
    have x21 := x21.same s27
    have x26 := x26.same s27
    have r19 := s27 _ _ r19
    have x27 : Dq K (out wl (upd K26 t27 (.tup [.ref t26, .int 0]))) (.ref t27) (.tuple [.tuple [.tuple [.tuple [], .int 1], .tuple [.tuple [], .int 0]], .int 0]) := .tup (.of r27) (.cons x26 (.cons (.int _) .nil))
    generalize upd K26 t27 (.tup [.ref t26, .int 0]) = K27 at b27 x27  x2 x4 x6 x8 x10 x12 x16 x18 x21 r19 ⊢
    clear s27 r27
    refine ⟨(by show 0 ≤ sizeLine; decide), fun t28 h28 => ?_⟩
    have b28 := b27.new h28 (.tup [])
    have s28 := out_new (w := wl) h28 (.tup [])
    have r28 := b27.well.laid h28 (.tup [])
    have x2 := x2.same s28
    have x4 := x4.same s28
    have x6 := x6.same s28
    have x8 := x8.same s28
    have x10 := x10.same s28
    have x12 := x12.same s28
    have x16 := x16.same s28
    have x18 := x18.same s28
    have x21 := x21.same s28
    have x27 := x27.same s28
    have r19 := s28 _ _ r19
    have x28 : Dq K (out wl (upd K27 t28 (.tup []))) (.ref t28) (.tuple []) := .tup (.of r28) .nil
    generalize upd K27 t28 (.tup []) = K28 at b28 x28  x2 x4 x6 x8 x10 x12 x16 x18 x21 x27 r19 ⊢
    clear s28 r28
    refine ⟨(by show 2 ≤ sizeLine; decide), fun t29 h29 => ?_⟩
    have b29 := b28.new h29 (.tup [.ref t28, .int 0])
    have s29 := out_new (w := wl) h29 (.tup [.ref t28, .int 0])
    have r29 := b28.well.laid h29 (.tup [.ref t28, .int 0])
    have x2 := x2.same s29
    have x4 := x4.same s29
    have x6 := x6.same s29
    have x8 := x8.same s29
    have x10 := x10.same s29
    have x12 := x12.same s29
    have x16 := x16.same s29
    have x18 := x18.same s29
    have x21 := x21.same s29
    have x27 := x27.same s29
    have x28 := x28.same s29
    have r19 := s29 _ _ r19
    have x29 : Dq K (out wl (upd K28 t29 (.tup [.ref t28, .int 0]))) (.ref t29) (.tuple [.tuple [], .int 0]) := .tup (.of r29) (.cons x28 (.cons (.int _) .nil))
    generalize upd K28 t29 (.tup [.ref t28, .int 0]) = K29 at b29 x29  x2 x4 x6 x8 x10 x12 x16 x18 x21 x27 r19 ⊢
    clear s29 r29
    refine ⟨(by show 0 ≤ sizeLine; decide), fun t30 h30 => ?_⟩
    have b30 := b29.new h30 (.tup [])
    have s30 := out_new (w := wl) h30 (.tup [])
    have r30 := b29.well.laid h30 (.tup [])
    have x2 := x2.same s30
    have x4 := x4.same s30
    have x6 := x6.same s30
    have x8 := x8.same s30
    have x10 := x10.same s30
    have x12 := x12.same s30
    have x16 := x16.same s30
    have x18 := x18.same s30
    have x21 := x21.same s30
    have x27 := x27.same s30
    have x29 := x29.same s30
    have r19 := s30 _ _ r19
    have x30 : Dq K (out wl (upd K29 t30 (.tup []))) (.ref t30) (.tuple []) := .tup (.of r30) .nil
    generalize upd K29 t30 (.tup []) = K30 at b30 x30  x2 x4 x6 x8 x10 x12 x16 x18 x21 x27 x29 r19 ⊢
    clear s30 r30
    refine ⟨(by show 2 ≤ sizeLine; decide), fun t31 h31 => ?_⟩
    have b31 := b30.new h31 (.tup [.ref t30, .int 1])
    have s31 := out_new (w := wl) h31 (.tup [.ref t30, .int 1])
    have r31 := b30.well.laid h31 (.tup [.ref t30, .int 1])
    have x2 := x2.same s31
    have x4 := x4.same s31
    have x6 := x6.same s31
    have x8 := x8.same s31
    have x10 := x10.same s31
    have x12 := x12.same s31
    have x16 := x16.same s31
    have x18 := x18.same s31
    have x21 := x21.same s31
    have x27 := x27.same s31
    have x29 := x29.same s31
    have x30 := x30.same s31
    have r19 := s31 _ _ r19
    have x31 : Dq K (out wl (upd K30 t31 (.tup [.ref t30, .int 1]))) (.ref t31) (.tuple [.tuple [], .int 1]) := .tup (.of r31) (.cons x30 (.cons (.int _) .nil))
    generalize upd K30 t31 (.tup [.ref t30, .int 1]) = K31 at b31 x31  x2 x4 x6 x8 x10 x12 x16 x18 x21 x27 x29 r19 ⊢
    clear s31 r31
    refine ⟨(by show 2 ≤ sizeLine; decide), fun t32 h32 => ?_⟩
    have b32 := b31.new h32 (.tup [.ref t29, .ref t31])
    have s32 := out_new (w := wl) h32 (.tup [.ref t29, .ref t31])
    have r32 := b31.well.laid h32 (.tup [.ref t29, .ref t31])
    have x2 := x2.same s32
    have x4 := x4.same s32
    have x6 := x6.same s32
    have x8 := x8.same s32
    have x10 := x10.same s32
    have x12 := x12.same s32
    have x16 := x16.same s32
    have x18 := x18.same s32
    have x21 := x21.same s32
    have x27 := x27.same s32
    have x29 := x29.same s32
    have x31 := x31.same s32
    have r19 := s32 _ _ r19
    have x32 : Dq K (out wl (upd K31 t32 (.tup [.ref t29, .ref t31]))) (.ref t32) (.tuple [.tuple [.tuple [], .int 0], .tuple [.tuple [], .int 1]]) := .tup (.of r32) (.cons x29 (.cons x31 .nil))
    generalize upd K31 t32 (.tup [.ref t29, .ref t31]) = K32 at b32 x32  x2 x4 x6 x8 x10 x12 x16 x18 x21 x27 r19 ⊢
    clear s32 r32
    refine ⟨(by show 2 ≤ sizeLine; decide), fun t33 h33 => ?_⟩
    have b33 := b32.new h33 (.tup [.ref t32, .int 0])
    have s33 := out_new (w := wl) h33 (.tup [.ref t32, .int 0])
    have r33 := b32.well.laid h33 (.tup [.ref t32, .int 0])
    have x2 := x2.same s33
    have x4 := x4.same s33
    have x6 := x6.same s33
    have x8 := x8.same s33
    have x10 := x10.same s33
    have x12 := x12.same s33
    have x16 := x16.same s33
    have x18 := x18.same s33
    have x21 := x21.same s33
    have x27 := x27.same s33
    have x32 := x32.same s33
    have r19 := s33 _ _ r19
    have x33 : Dq K (out wl (upd K32 t33 (.tup [.ref t32, .int 0]))) (.ref t33) (.tuple [.tuple [.tuple [.tuple [], .int 0], .tuple [.tuple [], .int 1]], .int 0]) := .tup (.of r33) (.cons x32 (.cons (.int _) .nil))
    generalize upd K32 t33 (.tup [.ref t32, .int 0]) = K33 at b33 x33  x2 x4 x6 x8 x10 x12 x16 x18 x21 x27 r19 ⊢
    clear s33 r33
    refine ⟨(by show 3 ≤ sizeLine; decide), fun t34 h34 => ?_⟩
    have b34 := b33.new h34 (.lst [.ref t21, .ref t27, .ref t33])
    have s34 := out_new (w := wl) h34 (.lst [.ref t21, .ref t27, .ref t33])
    have r34 := b33.well.laid h34 (.lst [.ref t21, .ref t27, .ref t33])
    have x2 := x2.same s34
    have x4 := x4.same s34
    have x6 := x6.same s34
    have x8 := x8.same s34
    have x10 := x10.same s34
    have x12 := x12.same s34
    have x16 := x16.same s34
    have x18 := x18.same s34
    have x21 := x21.same s34
    have x27 := x27.same s34
    have x33 := x33.same s34
    have r19 := s34 _ _ r19
    generalize upd K33 t34 (.lst [.ref t21, .ref t27, .ref t33]) = K34 at b34 r34 x2 x4 x6 x8 x10 x12 x16 x18 x21 x27 x33 r19 ⊢
    clear s34
    refine .inr (.inr (.inl ⟨t19, t34, _, _, rfl, rfl, (out_some r19).2, (out_some r34).2, (by show 13 ≤ sizeLine; decide), fun lo hlo => ?_⟩))
    have bo := b34.new hlo (.lst ([.ref t2, .ref t4, .ref t6, .ref t8, .ref t10, .ref t12, .non, .int 0, .ref t16, .ref t18] ++ [.ref t21, .ref t27, .ref t33]))
    have so := out_new (w := wl) hlo (.lst ([.ref t2, .ref t4, .ref t6, .ref t8, .ref t10, .ref t12, .non, .int 0, .ref t16, .ref t18] ++ [.ref t21, .ref t27, .ref t33]))
    have ro := b34.well.laid hlo (.lst ([.ref t2, .ref t4, .ref t6, .ref t8, .ref t10, .ref t12, .non, .int 0, .ref t16, .ref t18] ++ [.ref t21, .ref t27, .ref t33]))
    have dall : DqAll K (out wl (upd K34 lo (.lst ([.ref t2, .ref t4, .ref t6, .ref t8, .ref t10, .ref t12, .non, .int 0, .ref t16, .ref t18] ++ [.ref t21, .ref t27, .ref t33])))) ([.ref t2, .ref t4, .ref t6, .ref t8, .ref t10, .ref t12, .non, .int 0, .ref t16, .ref t18] ++ [.ref t21, .ref t27, .ref t33]) (oddD) := (.cons (x2.same so) (.cons (x4.same so) (.cons (x6.same so) (.cons (x8.same so) (.cons (x10.same so) (.cons (x12.same so) (.cons .non (.cons (.int _) (.cons (x16.same so) (.cons (x18.same so) (.cons (x21.same so) (.cons (x27.same so) (.cons (x33.same so) .nil)))))))))))))
    exact ⟨pl, lo, _, _, _, _, rfl, by omega, (out_some ro).1, ro, dall, bo, fun _ _ h => h⟩
  case way =>
    rintro D σ H1 ⟨pl, lo, vals, o4, o5, o6, rfl, hpl, nlo, elo, hO, a1, hQ⟩
    refine ⟨_, rfl, wl, 4, rfl, a1.well, by decide, by decide, fun way H2 w0 w1 a2 => ?_⟩
    have b2 := a1.trans a2
    have hS2 := L2.Same.seq b2.but hS
    have hA2 := hA.same b2.but
    have hO2 := hO.same a2.but
    have elo2 := a2.but _ _ elo
    have sub2 := out_sub wl H2
    have all := pz_form h8
    refine ⟨_, rfl, .inl ⟨rfl, _, rfl, ite2 (fun c0 => ?rev) (fun c0 => ⟨_, rfl, .inl ⟨rfl, _, rfl, ?mid⟩⟩)⟩⟩
    case rev =>
      refine ⟨_, rfl, a, xs, rfl, L2.Same.seq sub2 hS2, fun p hp => hQ _ _ (q (Fc.dats F).reverse p _ ?_ ⟨fun d hd => (all d (List.mem_reverse.mp hd)).mono (by omega), ?_⟩ (b2.new hp _))⟩
      · exact .lst (.of (b2.well.laid hp _)) ((KW.DqAll.rev hA2).same (out_new hp _))
      · rw [szs_rev]; omega
    case mid =>
      have hS2' := L2.Same.seq sub2 hS2
      have fin : ∀ {H9 : Hp} {x : V} {d : PyData} {j B : Nat} (p1 l : Addr), j ≤ xs.length + 1 → H9 p1 = some (.lst (xs.take pl)) → H9 l = some (.lst [x]) → p1 ≠ wl → l ≠ wl → Aft wl H H9 → Dq K (out wl H9) x d → Pz (PyData.depthAll (Fc.dats F) + 6) d → szs ((Fc.dats F).take pl) + sz d + szs ((Fc.dats F).drop j) ≤ szs (Fc.dats F) + 12 →
          ∀ (l2 p3 l4 : Addr) , H9 l2 = none → upd H9 l2 (.lst (xs.take pl ++ [x])) p3 = none → upd (upd H9 l2 (.lst (xs.take pl ++ [x]))) p3 (.lst (xs.drop j)) l4 = none →
          D.rt (.ref l4) (upd (upd (upd H9 l2 (.lst (xs.take pl ++ [x]))) p3 (.lst (xs.drop j))) l4 (.lst (xs.take pl ++ [x] ++ xs.drop j))) := by
        intro H9 x d j B p1 l hj e1 el n1 nl a9 dx pz zz l2 p3 l4 h2 h3 h4
        have hA9 := hA.same a9.but
        have b1 := a9.new h2 (.lst (xs.take pl ++ [x]))
        have b2 := b1.new h3 (.lst (xs.drop j))
        have b3 := b2.new h4 (.lst (xs.take pl ++ [x] ++ xs.drop j))
        have sm := ((out_new (w := wl) h2 (.lst (xs.take pl ++ [x]))).trans (out_new (w := wl) h3 (.lst (xs.drop j)))).trans (out_new (w := wl) h4 (.lst (xs.take pl ++ [x] ++ xs.drop j)))
        refine hQ _ _ (q ((Fc.dats F).take pl ++ [d] ++ (Fc.dats F).drop j) l4 _ (.lst (.of (b2.well.laid h4 _)) ?_) ⟨fun z hz => ?_, ?_⟩ b3)
        · exact (((KW.DqAll.take pl hA9).append (.cons dx .nil)).append (KW.DqAll.drop j hA9)).same sm
        · rcases List.mem_append.mp hz with hz | hz
          · rcases List.mem_append.mp hz with hz | hz
            · exact (all z (List.mem_of_mem_take hz)).mono (by omega)
            · rw [List.mem_singleton.mp hz]; exact pz
          · exact (all z (List.mem_of_mem_drop hz)).mono (by omega)
        · rw [szs_append, szs_append]; simp only [szs]; omega
      have put : ∀ (j : Nat) (H3 : Hp) (x : V) (d : PyData) (p1 l : Addr) (R : VK), j ≤ xs.length + 1 → H3 p1 = some (.lst (xs.take pl)) → H3 l = some (.lst [x]) → (∀ l2, H3 l2 = none → R (.ref l2) (upd H3 l2 (.lst (xs.take pl ++ [x])))) → rAddA K (.ref p1) (.ref l) H3 R := by
        intro j H3 x d p1 l R hj e1 el hR
        exact .inr (.inr (.inl ⟨p1, l, _, _, rfl, rfl, e1, el, fits (by rw [List.length_take]; simp only [List.length_cons, List.length_nil]; omega), hR⟩))
      refine (fun els => ite2 (fun c => ⟨_, rfl, _, rfl, _, _, rfl, .inl ⟨_, hS2', rfl⟩, _, _, rfl, rfl, _, rfl, ite2 (fun c2 => ?deep) (fun _ => els)⟩) (fun _ => els)) ?els
      case deep =>
        have hlt : pl < xs.length := by
          have z : (pl : Int) < (xs.length : Int) := of_decide_eq_true c2
          omega
        have x1 : xs[pl]? = some (xs[pl]'hlt) := List.getElem?_eq_getElem hlt
        obtain ⟨g, eg, hg⟩ := at_dats (hA2.same sub2) x1
        have mg' : g ∈ F := List.mem_of_getElem? eg
        have gd := Fc.depth_mem eg
        have g8 : ∀ n ∈ Fc.num g, n < 8 := fun n hn => h8 n (Fc.mem_nums.mpr ⟨g, mg', hn⟩)
        have egd : (Fc.dats F)[pl]? = some (Fc.dat g) := dats_get eg
        have gsz := szs_split egd
        refine ⟨_, rfl, _, rfl, .inl (.inl ⟨a, _, _, _, rfl, rfl, hS2', atI_nat x1, ?_⟩)⟩
        generalize xs[pl]'hlt = xv at hg x1 ⊢
        obtain ⟨ws, n⟩ := g
        rw [Fc.dat] at hg gd egd gsz
        rw [Fc.num] at g8
        simp only [PyData.depth, PyData.depthAll] at gd
        obtain ⟨ya, yxs, ds, rfl, ed, hSy, hAy⟩ := dq_tup hg rfl
        have ed' : ds = [.tuple (Fc.dats ws), .int n] := (PyData.tuple.inj ed).symm
        subst ed'
        rcases dqa_split hAy with ⟨_, z⟩ | ⟨wv, xs1, d1, r1, rfl, z, gw, g1⟩
        · cases z
        cases z
        rcases dqa_split g1 with ⟨_, z⟩ | ⟨nv, xs2, d2', r2, rfl, z, gn, g2⟩
        · cases z
        cases z
        cases g2
        cases gn
        obtain ⟨wa, wxs, wds, rfl, ew, hSw, hAw⟩ := dq_tup gw rfl
        have ew' : wds = Fc.dats ws := (PyData.tuple.inj ew).symm
        subst ew'
        simp only [sz, szs] at gsz
        have pzw := pz_dats (l := ws) fun k hk => g8 k (List.mem_cons_of_mem _ hk)
        have hn8 := g8 n List.mem_cons_self
        refine ⟨ya, _, rfl, hSy, rfl, _, _, rfl, _, _, rfl, rfl, ?_⟩
        refine ⟨_, rfl, _, rfl, _, rfl, .inl ⟨a, xs, rfl, hS2', fun p1 hp1 => ?_⟩⟩
        rw [cut_to xs pl (by omega)]
        have s3 := same_new hp1 (.lst (xs.take pl))
        refine ⟨_, rfl, _, rfl, wa, wxs, rfl, .inr (KB.Same.tup s3 hSw), fun c1 hc1 => ?_⟩
        have b3 := b2.new hp1 (.lst (xs.take pl))
        have b4 := b3.new hc1 (.lst wxs)
        have np1 := b2.well.ne hp1
        have s4 := same_new hc1 (.lst wxs)
        have hAo : DqAll K (out wl (upd (upd H2 p1 (.lst (xs.take pl))) c1 (.lst wxs))) wxs (Fc.dats ws) := by
          obtain ⟨xs0, ew0, _⟩ := b4.well
          exact DqAll.outp ew0 (Fc.pure_dats _) (hAw.same (s3.trans s4))
        refine ⟨wl, c1, wxs, ws, rfl, b4.well, .of (b3.well.laid hc1 _), hAo, fun k hk => g8 k (List.mem_cons_of_mem _ hk), by omega, by omega, fun ds' p2 H5 d5 so a5 => ?_⟩
        have b5 := b4.trans a5
        have e15 : H5 p1 = some (.lst (xs.take pl)) := a5.at_ np1 (s4 _ _ upd_same)
        obtain ⟨ys, hS5, hA5⟩ : ∃ ys, SqL K (out wl H5) p2 ys ∧ DqAll K (out wl H5) ys ds' := by cases d5 with | lst s d => exact ⟨_, s, d⟩
        refine ⟨p2, ys, rfl, .inl ⟨L2.Same.seq (out_sub wl H5) hS5, fun t ht => ?_⟩⟩
        have b6 := b5.new ht (.tup ys)
        have st := out_new (w := wl) ht (.tup ys)
        have rt := b5.well.laid ht (.tup ys)
        refine ⟨_, rfl, (by show 2 ≤ sizeLine; decide), fun u hu => ⟨(by show 1 ≤ sizeLine; decide), fun l hl => ?_⟩⟩
        have b7 := b6.new hu (.tup [.ref t, .int n])
        have su := out_new (w := wl) hu (.tup [.ref t, .int n])
        have ru := b6.well.laid hu (.tup [.ref t, .int n])
        have b8 := b7.new hl (.lst [.ref u])
        have sl := out_new (w := wl) hl (.lst [.ref u])
        have e18 := (out_some (sl _ _ (su _ _ (st _ _ (out_at np1 e15))))).2
        have du : Dq K (out wl (upd (upd (upd H5 t (.tup ys)) u (.tup [.ref t, .int n])) l (.lst [.ref u]))) (.ref u) (.tuple [.tuple ds', .int n]) :=
          .tup (.of (sl _ _ ru)) (.cons (.tup (.of (sl _ _ (su _ _ rt))) (((hA5.same st).same su).same sl)) (.cons (.int _) .nil))
        have nl := b7.well.ne hl
        have pzu : Pz (PyData.depthAll (Fc.dats F) + 6) (.tuple [.tuple ds', .int (n : Int)]) := by
          have a1 := sms_of fun d hd => (so.1 d hd).1
          have a2 := nod_of fun d hd => (so.1 d hd).2.1
          have a3 := dep_of fun d hd => (so.1 d hd).2.2
          refine ⟨?_, by simp [PyData.hasDict, PyData.hasDictAll, a2], by simp only [PyData.depth, PyData.depthAll]; omega⟩
          simp only [Sm, Sms, a1, Bool.true_and, Bool.and_true, decide_eq_true_eq]; omega
        have szu := so.2
        refine put (pl + 1) _ (.ref u) (.tuple [.tuple ds', .int (n : Int)]) p1 l _ (by omega) e18 upd_same fun l2 h2 => ?_
        refine ⟨_, rfl, _, rfl, .inl ⟨_, _, rfl, rfl, _, rfl, .inl ⟨a, xs, rfl, L2.Same.seq ((out_sub wl _)) (L2.Same.seq (b8.new h2 _).but hS), fun p3 h3 => ?_⟩⟩⟩
        have ec : ((pl : Int) + 1) = ((pl + 1 : Nat) : Int) := by omega
        rw [show cutV xs (some ((pl : Int) + 1)) none = xs.drop (pl + 1) by rw [ec]; exact cut_from xs (pl + 1)]
        refine .inr (.inr (.inl ⟨l2, p3, _, _, rfl, rfl, (upd_ne (ne_of_none upd_same h3)).trans upd_same, upd_same, fits (by rw [List.length_append, List.length_take, List.length_drop]; simp only [List.length_cons, List.length_nil]; omega), fun l4 h4 => ?_⟩))
        exact fin (B := 0) p1 l (by omega) e18 upd_same np1 nl b8 du pzu (by simp only [sz, szs]; omega) l2 p3 l4 h2 h3 h4
      case els =>
        refine iteF' rfl ?_
        have pick : ∀ d : Int, 0 ≤ d → d < 13 → ∃ x dd, atI vals d = some x ∧ dd ∈ oddD ∧ ∀ {H3 : Hp}, Same (out wl H2) (out wl H3) → Dq K (out wl H3) x dd := by
          intro d d0 d1
          have lv := hO2.length
          rw [oddD_len] at lv
          obtain ⟨j, rfl⟩ := Int.eq_ofNat_of_zero_le d0
          have hj : j < vals.length := by omega
          have xj : vals[j]? = some (vals[j]'hj) := List.getElem?_eq_getElem hj
          obtain ⟨dd, ed, hdd⟩ := at_dqs hO2 xj
          exact ⟨_, dd, atI_nat xj, List.mem_of_getElem? ed, fun s => hdd.same s⟩
        refine ⟨_, rfl, .inl ⟨rfl, _, rfl, ite2 (fun c2 => ?two) (fun c2 => ?three)⟩⟩
        case two =>
          refine ⟨_, rfl, _, rfl, _, rfl, .inl ⟨a, xs, rfl, hS2', fun p1 hp1 => ?_⟩⟩
          rw [cut_to xs pl (by omega)]
          have b3 := b2.new hp1 (.lst (xs.take pl))
          have np1 := b2.well.ne hp1
          refine ⟨_, rfl, _, rfl, wl, 13, rfl, b3.well, by decide, by decide, fun d H4 d0 d1 a4 => ?_⟩
          obtain ⟨x, dd, ex, mdd, hx⟩ := pick d d0 d1
          have b4 := b3.trans a4
          have s24 := (out_new (w := wl) hp1 (.lst (xs.take pl))).trans a4.but
          refine .inl (.inl ⟨lo, _, _, _, rfl, rfl, .of (out_some (s24 _ _ elo2)).2, ex, ?_⟩)
          refine ⟨(by show 1 ≤ sizeLine; decide), fun l hl => ?_⟩
          have b5 := b4.new hl (.lst [x])
          have sl := out_new (w := wl) hl (.lst [x])
          have e15 := (out_some (sl _ _ (a4.but _ _ (b2.well.laid hp1 (.lst (xs.take pl)))))).2
          have nl := b4.well.ne hl
          obtain ⟨po, zo⟩ := oddD_ok dd mdd
          have zt := szs_take (Fc.dats F) pl
          have zd : szs ((Fc.dats F).drop (pl + 1)) ≤ szs ((Fc.dats F).drop pl) := by
            have := szs_take ((Fc.dats F).drop pl) 1
            rw [List.drop_drop] at this
            omega
          refine put (pl + 1) _ x dd p1 l _ (by omega) e15 upd_same fun l2 h2 => ?_
          refine ⟨_, rfl, _, rfl, .inl ⟨_, _, rfl, rfl, _, rfl, .inl ⟨a, xs, rfl, L2.Same.seq ((out_sub wl _)) (L2.Same.seq (b5.new h2 _).but hS), fun p3 h3 => ?_⟩⟩⟩
          have ec : ((pl : Int) + 1) = ((pl + 1 : Nat) : Int) := by omega
          rw [show cutV xs (some ((pl : Int) + 1)) none = xs.drop (pl + 1) by rw [ec]; exact cut_from xs (pl + 1)]
          refine .inr (.inr (.inl ⟨l2, p3, _, _, rfl, rfl, (upd_ne (ne_of_none upd_same h3)).trans upd_same, upd_same, fits (by rw [List.length_append, List.length_take, List.length_drop]; simp only [List.length_cons, List.length_nil]; omega), fun l4 h4 => ?_⟩))
          exact fin (B := 0) p1 l (by omega) e15 upd_same np1 nl b5 (hx (s24.trans sl)) (po.mono (by omega)) (by omega) l2 p3 l4 h2 h3 h4
        case three =>
          refine ⟨_, rfl, _, rfl, _, rfl, .inl ⟨a, xs, rfl, hS2', fun p1 hp1 => ?_⟩⟩
          rw [cut_to xs pl (by omega)]
          have b3 := b2.new hp1 (.lst (xs.take pl))
          have np1 := b2.well.ne hp1
          refine ⟨_, rfl, _, rfl, wl, 13, rfl, b3.well, by decide, by decide, fun d H4 d0 d1 a4 => ?_⟩
          obtain ⟨x, dd, ex, mdd, hx⟩ := pick d d0 d1
          have b4 := b3.trans a4
          have s24 := (out_new (w := wl) hp1 (.lst (xs.take pl))).trans a4.but
          refine .inl (.inl ⟨lo, _, _, _, rfl, rfl, .of (out_some (s24 _ _ elo2)).2, ex, ?_⟩)
          refine ⟨(by show 1 ≤ sizeLine; decide), fun l hl => ?_⟩
          have b5 := b4.new hl (.lst [x])
          have sl := out_new (w := wl) hl (.lst [x])
          have e15 := (out_some (sl _ _ (a4.but _ _ (b2.well.laid hp1 (.lst (xs.take pl)))))).2
          have nl := b4.well.ne hl
          obtain ⟨po, zo⟩ := oddD_ok dd mdd
          have zt := szs_take (Fc.dats F) pl
          refine put pl _ x dd p1 l _ (by omega) e15 upd_same fun l2 h2 => ?_
          refine ⟨_, rfl, _, rfl, _, rfl, .inl ⟨a, xs, rfl, L2.Same.seq ((out_sub wl _)) (L2.Same.seq (b5.new h2 _).but hS), fun p3 h3 => ?_⟩⟩
          rw [cut_from xs pl]
          refine .inr (.inr (.inl ⟨l2, p3, _, _, rfl, rfl, (upd_ne (ne_of_none upd_same h3)).trans upd_same, upd_same, fits (by rw [List.length_append, List.length_take, List.length_drop]; simp only [List.length_cons, List.length_nil]; omega), fun l4 h4 => ?_⟩))
          exact fin (B := 0) p1 l (by omega) e15 upd_same np1 nl b5 (hx (s24.trans sl)) (po.mono (by omega)) (by omega) l2 p3 l4 h2 h3 h4
theorem ok_spoilt (A : At K mg "_law_spoilt" s_law_spoilt) (T : Txt K mg w CN CT) (C_law_digit : Cal P w K mg base CX0 1 "_law_digit" ["state", "base"] spDigit) : ∀ N : Nat, Cal P w K mg base CX0 (N + 1) "_law_spoilt" ["state", "row"] (spSp K N)
  | 0 => cal_vac A (fun f fd F => F.binds (ps := ["state", "row"]) (fun _ _ _ _ _ _ us hl => match us, hl with | [_, _], _ => rfl)) fun vs H Q E ⟨w, a, xs, F, _, _, _, _, _, h, _⟩ => absurd h (Nat.not_lt_zero _)
  | N + 1 => ok_spoilt1 A T C_law_digit (ok_spoilt A T C_law_digit N)
end

/-! ## what is told of anything -/
theorem sz_small {k : Kd} (h : k.leaves ≤ 10000) : sz k.dat ≤ 1000000 := by have := k.sz_dat; omega
theorem not_kd {k : Kd} {A : Prop} (ok : k.ok) (h : isKd k.dat = false) : A := by rw [isKd_dat k ok] at h; cases h
theorem rk80 {k : Kd} (h : k.leaves ≤ 80) : k.rk ≤ 80 := by have := k.rk_lt; omega
theorem cmps_self (l : List Fc) : (Fc.cmps l l == .eq) = true := by rw [(Fc.cmps_eq _ _).mpr rfl]; rfl
theorem ne_forms {K : PySem.W.Frag} {H : Hp} {p1 p2 : Addr} {l : List Fc} {xs ys : List V} {Q : VK} (s1 : SqL K H p1 xs) (d1 : DqAll K H xs (Fc.dats l)) (s2 : SqL K H p2 ys) (d2 : DqAll K H ys (Fc.dats l)) (hl : PyData.depthAll (Fc.dats l) ≤ 180) (q : Q (.bl false) H) : rNeA K (.ref p1) (.ref p2) H Q := by
  have c1 : (PyData.list (Fc.dats l)).canLay0 = true := by simpa [PyData.canLay0] using Fc.lays l
  refine .inr ⟨_, _, (Dq.lst s1 d1).dp c1, (Dq.lst s2 d2).dp c1, c1, c1, by simp only [PyData.depth]; omega, ?_⟩
  rw [ev_lst, Fc.eqvs, cmps_self]; exact q
mutual
theorem good_her : ∀ {f : Fc}, Fc.her f.ws = true → (∀ n ∈ Fc.num f, n < 8) → Fc.good f
  | .mk ws n, h, g => by
    have h' : Fc.her ws = true := h
    rw [her_cons, Bool.and_eq_true] at h'
    rw [Fc.num] at g
    rw [Fc.good]
    exact ⟨g n List.mem_cons_self, (ord_iff ws).mp h'.1, goods_her (fun f hf => List.all_eq_true.mp h'.2 f hf) fun k hk => g k (List.mem_cons_of_mem _ hk)⟩
theorem goods_her : ∀ {l : List Fc}, (∀ f ∈ l, Fc.her f.ws = true) → (∀ n ∈ Fc.nums l, n < 8) → Fc.goods l
  | [], _, _ => by rw [Fc.goods]; trivial
  | f :: r, h, g => by
    rw [Fc.nums] at g
    rw [Fc.goods]
    exact ⟨good_her (h f List.mem_cons_self) fun n hn => g n (List.mem_append.mpr (.inl hn)), goods_her (fun e he => h e (List.mem_cons_of_mem _ he)) fun n hn => g n (List.mem_append.mpr (.inr hn))⟩
end
theorem lawL_dats {F : List Fc} (h : ∀ n ∈ Fc.nums F, n < 8) : lawL (.list (Fc.dats F)) = Fc.her F := by simp only [lawL, pL_of h]
theorem lawL_is {d : PyData} (h : lawL d = true) : ∃ F, d = .list (Fc.dats F) ∧ (∀ n ∈ Fc.nums F, n < 8) ∧ Fc.her F = true := by
  cases d <;> simp only [lawL] at h <;> try (cases h)
  rename_i ds
  cases hp : pL ds with
  | none => rw [hp] at h; cases h
  | some F =>
    rw [hp] at h
    obtain ⟨e, g⟩ := pL_dats hp
    exact ⟨F, by rw [e], g, h⟩
def spTold (K : PySem.W.Frag) : Sp := fun vs H Q _ => ∃ v d, vs = [v] ∧ Dq K H v d ∧ sz d ≤ 10000 ∧ d.depth ≤ 100 ∧
  (∀ F, d = .list (Fc.dats F) → Fc.her F = true → (∀ n ∈ Fc.nums F, n < 8) → ∀ (ys : List V) (p : Addr) (H' : Hp), H' p = some (.lst ys) → DqAll K H' ys (Fc.dats F) → Same H H' → Q (.ref p) H') ∧ (lawL d = false → ∀ H', Same H H' → Q (.str "none") H')
abbrev s_law_told : Stmt := top 26
theorem sc_law_told : FnScope ["thing", "e"] ["thing"] (defScope s_law_told) := ⟨rfl, rfl, rfl, by decide +kernel, rfl, by decide +kernel, by decide +kernel⟩
section
variable {P : Program} {w : World} {K : PySem.W.Frag} {mg : Str → Option Value} {base : Heap} {CN CT : Addr}
theorem ok_kind_of2 {N : Nat} (A : At K mg "kind_of" s_kind_of) (T : Txt K mg w CN CT) (C_is_form : Cal P w K mg base CX0 3 "is_form" ["thing"] (spIsForm K)) (C_is_formB : Cal P w K mg base CX0 3 "is_form" ["thing"] (spIsFormB K)) (C_kof : Cal P w K mg base CX0 N "_kind_of_factors" ["factors"] (spKof K N)) : Cal P w K mg base (L2.CX P w) (N + 4) "kind_of" ["form"] (spKof2 K CT N) := by
  obtain ⟨f, fd, F, m⟩ := A
  refine ⟨f, fd, F.okX sc_kind_of (fun vs H Q E h => ?_) (fun cdv A outer s H vs Q E hr h => ?_), F.binds (ps := ["form"]) (fun _ _ _ _ _ _ us hl => match us, hl with | [_], _ => rfl), F.kp, m⟩
  · obtain ⟨v, d, rfl, _⟩ := h; rfl
  obtain ⟨v, d, rfl, hd, hz, hdep, hN, q1, q2⟩ := h
  by_cases hL : ∃ F, d = .list (Fc.dats F) ∧ ∀ n ∈ Fc.nums F, n < 8
  · obtain ⟨F, rfl, g⟩ := hL
    have e := lawL_dats g
    simp only [PyData.depth] at hdep
    have hz' := hz
    simp only [sz] at hz'
    rw [Fc.szs_cnt] at hz'
    exact kof2_body T hr C_is_form C_kof hd hz (by simp only [PyData.depth]; omega) (b := Fc.her F) (fun Q' E' h => ⟨v, F, rfl, hd, ⟨by omega, g⟩, by omega, h⟩) (fun h => ⟨F, rfl, q1 F rfl (by rw [e]; exact h) g⟩) (fun h => q2 (by rw [e]; exact h))
  · have no : noFm d := by
      by_cases hl : ∃ ds, d = .list ds
      · obtain ⟨ds, rfl⟩ := hl
        cases hp : pL ds with
        | none => exact .inr ⟨ds, rfl, hp⟩
        | some F =>
          obtain ⟨e, g⟩ := pL_dats hp
          exact absurd ⟨F, by rw [e], g⟩ hL
      · exact .inl fun ds e => hl ⟨ds, e⟩
    have lf : lawL d = false := by
      cases h : lawL d with
      | false => rfl
      | true =>
        obtain ⟨F, e, g, _⟩ := lawL_is h
        exact absurd ⟨F, e, g⟩ hL
    exact kof2_body T hr C_is_formB C_kof hd hz hdep (b := false) (fun Q' E' h => ⟨v, d, rfl, hd, no, by omega, h⟩) (fun h => by cases h) (fun _ => q2 lf)
theorem ok_told (A : At K mg "_law_told" s_law_told) (T : Txt K mg w CN CT) (C_kind_of : Cal P w K mg base (L2.CX P w) 124 "kind_of" ["form"] (spKof2 K CT 120)) (C_form : Cal P w K mg base (L2.CX P w) 82 "form" ["kind"] (spForm K CN)) : Cal P w K mg base CX0 125 "_law_told" ["thing"] (spTold K) := by
  obtain ⟨f, fd, F, m⟩ := A
  obtain ⟨CS, gS, hS⟩ := T.o_SwapError
  refine ⟨f, fd, F.ok sc_law_told (fun vs H Q E h => ?_) (fun cdv A outer s H vs Q E hr h => ?_), F.binds (ps := ["thing"]) (fun _ _ _ _ _ _ us hl => match us, hl with | [_], _ => rfl), F.kp, m⟩
  · obtain ⟨v, d, rfl, _⟩ := h; rfl
  obtain ⟨v, d, rfl, hd, hz, hdep, q1, q2⟩ := h
  refine ⟨_, (pss_one (ps_try_hit (i := 1) (C := CT) (c := .ref CS) rfl rfl sc_law_told.nd rfl rfl ⟨by rfl, by decide, .inl gS⟩ (fun W pn xe tk _ => (pss_one (ps_ret (pe_calS C_form (hr.mono (by first | decide | omega)) (fun z => passAt tk z) (pa_cons (pe_calS C_kind_of (hr.mono (by first | decide | omega)) (fun z => passAt tk z) (pa_cons (pv 0) pa_nil)) pa_nil)))))
  (fun a oe pn hz hf => (pss_one (ps_ret (pe_ix ix_BS (pe_lst (pa_cons pe_str (pa_cons pe_str pa_nil))) (pe_callTy call_int1 (by rfl) T.z_int (by decide +kernel) (pa_cons (pe_and (pe_callB (call_caught T.x_caught hz hf) (by rfl) T.z_isinstance (by decide +kernel) (pa_cons (pv 1) (pa_cons (pe_glob (v := V.ref CT) (by rfl) T.g_NoForm (by exact rfl)) pa_nil))) (pe_one (pe_not (pe_callB (call_caught T.x_caught hz hf) (by rfl) T.z_isinstance (by decide +kernel) (pa_cons (pv 1) (pa_cons (pe_glob (v := V.ref CN) (by rfl) T.g_NoKind (by exact rfl)) pa_nil)))))) pa_nil)) (fun _ _ => rfl))))))), ?_⟩
  refine ⟨_, rfl, v, d, rfl, hd, by omega, by omega, by decide, fun F e hl g v' H1 dv s1 => ?_, fun hl H1 s1 => ?_⟩
  · subst e
    rw [lawL_dats g] at hl
    have go : Fc.goods F := by
      rw [her_cons, Bool.and_eq_true] at hl
      exact goods_her (fun f hf => List.all_eq_true.mp hl.2 f hf) g
    have or : Fc.Ord F := by
      rw [her_cons, Bool.and_eq_true] at hl
      exact (ord_iff F).mp hl.1
    have okb := Fc.kds_ok go
    have rkb := Fc.kds_rk F
    have lvb := Fc.kds_leaves F
    simp only [PyData.depth] at hdep
    simp only [sz] at hz
    rw [Fc.szs_cnt] at hz
    refine ⟨v', _, rfl, dv, sz_small (by omega), fun k' _ e => ?_, fun h => not_kd okb h⟩
    have ee := Kd.dat_inj _ _ e
    subst ee
    refine ⟨(by first | exact rk80 (by omega) | omega), by omega, fun ys p H2 hpn hp dy s2 => ?_⟩
    rw [Fc.kds_form go or] at dy
    exact q1 F rfl hl g ys p H2 hp (dy.same (out_sub p H2)) (s1.trans (of_out s2))
  · refine ⟨rfl, rfl, hS, fun a ha => ⟨(by show 2 ≤ sizeLine; decide), fun l hl2 => ?_⟩⟩
    refine ⟨_, rfl, .inl ⟨.ref CT, .ref CT, true, rfl, fun u h => h, T.k_self, _, rfl, iteT' rfl ?_⟩⟩
    refine ⟨_, rfl, .inl ⟨.ref CN, .ref CN, false, rfl, fun u h => h, T.k_kind, ?_⟩⟩
    exact ⟨_, rfl, .inr ⟨_, rfl, .inl (.inl ⟨l, _, 1, .str "none", rfl, rfl, .of upd_same, at1 _ _ _, q2 hl _ (s1.trans (same_new hl2 _))⟩)⟩⟩
end

/-! ## the law -/
def spLaw (K : PySem.W.Frag) : Sp := fun vs H Q _ => ∃ (a : Addr) (ns : List Int), vs = [.ref a] ∧ SqL K H a (ns.map V.int) ∧ ns.length ≤ 63 ∧ ∀ H', Q (.bl true) H'
abbrev s_law : Stmt := top 27
theorem sc_law : FnScope ["script", "k", "state", "thing", "due", "kept"] ["script"] (defScope s_law) := ⟨rfl, rfl, rfl, by decide +kernel, rfl, by decide +kernel, by decide +kernel⟩
/-- the thing is drawn -/
def IDue (K : PySem.W.Frag) (a : Addr) (ns : List Int) : TS := fun D σ H' => ∃ (tv : V) (d : PyData) (o1 o2 o4 o5 : Option V), σ = [some (.ref a), o1, o2, some tv, o4, o5] ∧ Dq K H' tv d ∧ Fine d ∧ sz d ≤ 5000 ∧ d.depth ≤ 50 ∧ SqL K H' a (ns.map V.int) ∧
  ∀ (o1 o2 o3 o4 o5 : Option V) (H2 : Hp), SqL K H2 a (ns.map V.int) → D.nx [some (.ref a), o1, o2, o3, o4, o5] H2
/-- what is due is known -/
def IKept (K : PySem.W.Frag) (a : Addr) (ns : List Int) : TS := fun D σ H' => ∃ (tv dv : V) (d : PyData) (o1 o2 o5 : Option V), σ = [some (.ref a), o1, o2, some tv, some dv, o5] ∧ Dq K H' tv d ∧ Fine d ∧ sz d ≤ 5000 ∧ d.depth ≤ 50 ∧ ((lawL d = true ∧ dv = tv) ∨ (lawL d = false ∧ dv = .str "none")) ∧ SqL K H' a (ns.map V.int) ∧
  ∀ (o1 o2 o3 o4 o5 : Option V) (H2 : Hp), SqL K H2 a (ns.map V.int) → D.nx [some (.ref a), o1, o2, o3, o4, o5] H2
theorem fine_list {ds : List PyData} {B D : Nat} (h : SpO B D ds) : Fine (.list ds) ∧ Fine (.tuple ds) ∧ sz (.list ds) ≤ B + 1 ∧ sz (.tuple ds) ≤ B + 1 ∧ (PyData.list ds).depth ≤ D + 1 ∧ (PyData.tuple ds).depth ≤ D + 1 := by
  have a1 := sms_of fun d hd => (h.1 d hd).1
  have a2 := nod_of fun d hd => (h.1 d hd).2.1
  have a3 := dep_of fun d hd => (h.1 d hd).2.2
  have hz := h.2
  refine ⟨⟨by simp only [Sm]; exact a1, fun z => by simp [PyData.hasDict, a2] at z⟩, ⟨by simp only [Sm]; exact a1, fun z => by simp [PyData.hasDict, a2] at z⟩, by simp only [sz]; omega, by simp only [sz]; omega, by simp only [PyData.depth]; omega, by simp only [PyData.depth]; omega⟩
section
variable {P : Program} {w : World} {K : PySem.W.Frag} {mg : Str → Option Value} {base : Heap} {CN CT : Addr}
theorem ok_law {f : Addr} {fd : FuncData} (F : Fun K "law" "law" s_law f fd) (T : Txt K mg w CN CT) (C_law_cell_at : Cal P w K mg base CX0 1 "_law_cell_at" ["script", "k"] (spCell K)) (C_law_digit : Cal P w K mg base CX0 1 "_law_digit" ["state", "base"] spDigit)
    (C_law_kind : Cal P w K mg base CX0 6 "_law_kind" ["state", "deep"] (spKind K 5)) (C_law_form : Cal P w K mg base CX0 20 "_law_form" ["kind"] (spLf K 20)) (C_law_spoilt : Cal P w K mg base CX0 21 "_law_spoilt" ["state", "row"] (spSp K 20))
    (C_law_is_form : Cal P w K mg base CX0 152 "_law_is_form" ["thing"] (spLFo K)) (C_law_told : Cal P w K mg base CX0 125 "_law_told" ["thing"] (spTold K)) : FnG P w K mg base CX0 153 f fd ["script"] (spLaw K) := by
  refine okG F sc_law (fun vs H Q E h => ?_) (fun cdv A outer s H vs Q E hg hr h => ?_)
  · obtain ⟨a, ns, rfl, _⟩ := h; rfl
  obtain ⟨a, ns, rfl, hS, hl, q⟩ := h
  refine ⟨_, (pss_cons (ps_for PassesOwn.never rfl (pi_range1 (by rfl) T.z_range (pa_cons (pe_callB (call_max2 rfl) (by rfl) T.z_max (by decide +kernel) (pa_cons pe_int (pa_cons (pe_callB (call_min2 rfl) (by rfl) T.z_min (by decide +kernel) (pa_cons pe_int (pa_cons (pe_callB call_len (by rfl) T.z_len (by decide +kernel) (pa_cons (pv 0) pa_nil)) pa_nil))) pa_nil))) pa_nil)) (pg_name (i := 1) sc_law.nd rfl (by first | exact Or.inl rfl | exact Or.inr rfl))
   (pss_cons (ps_set (i := 2) sc_law.nd rfl (by first | exact Or.inl rfl | exact Or.inr rfl) (pe_lst (pa_cons (pe_op op_addA (pe_calC C_law_cell_at (hr.mono (by first | decide | omega)) pass0 (pa_cons (pv 0) (pa_cons (pv 1) pa_nil))) (pe_op op_mulA pe_int (pv 1))) pa_nil)))
  (pss_cons (ps_set (i := 3) sc_law.nd rfl (by first | exact Or.inl rfl | exact Or.inr rfl) (pe_calC C_law_form (hr.mono (by first | decide | omega)) pass0 (pa_cons (pe_calC C_law_kind (hr.mono (by first | decide | omega)) pass0 (pa_cons (pv 2) (pa_cons pe_int pa_nil))) pa_nil)))
  (pss_cons (ps_if (pt_cmpR op_gt (pe_calC C_law_digit (hr.mono (by first | decide | omega)) pass0 (pa_cons (pv 2) (pa_cons pe_int pa_nil))) pe_int (nomark _))
   (pss_cons (ps_set (i := 3) sc_law.nd rfl (by first | exact Or.inl rfl | exact Or.inr rfl) (pe_calC C_law_spoilt (hr.mono (by first | decide | omega)) pass0 (pa_cons (pv 2) (pa_cons (pv 3) pa_nil))))
  (pss_one (ps_if (pt_cmpR (op_eqA (room200 hr)) (pe_calC C_law_digit (hr.mono (by first | decide | omega)) pass0 (pa_cons (pv 2) (pa_cons pe_int pa_nil))) pe_int (nomark _))
   (pss_one (ps_set (i := 3) sc_law.nd rfl (by first | exact Or.inl rfl | exact Or.inr rfl) (pe_ix ix_B (pe_lst (pa_cons (pe_callTy call_tuple_of (by rfl) T.z_tuple (by decide +kernel) (pa_cons (pv 3) pa_nil)) (pa_cons pe_non (pa_cons pe_str (pa_cons pe_dnewK pa_nil))))) (pe_calC C_law_digit (hr.mono (by first | decide | omega)) pass0 (pa_cons (pv 2) (pa_cons pe_int pa_nil))) (fun _ _ => rfl))))
   pss_nil)))
   pss_nil)
  (pss_gen (I := IDue K a ns) (pss_cons (ps_set (i := 4) sc_law.nd rfl (by first | exact Or.inl rfl | exact Or.inr rfl) pe_str)
  (pss_cons (ps_if (pt_val (pe_calC C_law_is_form (hr.mono (by first | decide | omega)) pass0 (pa_cons (pv 3) pa_nil)))
   (pss_one (ps_set (i := 4) sc_law.nd rfl (by first | exact Or.inl rfl | exact Or.inr rfl) (pv 3)))
   pss_nil)
  (pss_gen (I := IKept K a ns) (pss_cons (ps_set (i := 5) sc_law.nd rfl (by first | exact Or.inl rfl | exact Or.inr rfl) (pe_callB (call_reprD hg (room200 hr)) (by rfl) T.z_repr (by decide +kernel) (pa_cons (pv 3) pa_nil)))
  (pss_one (ps_if (PW.pt (pw_or (pt_cmpR (op_neA (room200 hr)) (pe_calC C_law_told (hr.mono (by first | decide | omega)) pass0 (pa_cons (pv 3) pa_nil)) (pv 4) (nomark _)) (pw_or1 (pt_cmpR (op_neA (room200 hr)) (pe_callB (call_reprD hg (room200 hr)) (by rfl) T.z_repr (by decide +kernel) (pa_cons (pv 3) pa_nil)) (pv 5) (nomark _)))))
   (pss_one (ps_ret pe_bl))
   pss_nil))) ?kept))) ?due)))))
  (pss_one (ps_ret pe_bl))), ?top⟩
  case kept =>
    rintro D σ H1 ⟨tv, dv, d, o1, o2, o5, rfl, dt, fi, zd, dd, hdue, hS1, hn⟩
    have sm := Sm.fine d fi.sm
    have shn := fi.shown (by omega)
    refine ⟨_, rfl, tv, d, rfl, dt, sm.1, fi.nd, by omega, shn, ?_⟩
    refine ⟨_, rfl, tv, d, rfl, dt, by omega, by omega, fun F e hh g ys p H2 hp dy s2 => ?_, fun hl2 H2 s2 => ?_⟩
    · subst e
      have el : lawL (.list (Fc.dats F)) = true := by rw [lawL_dats g]; exact hh
      rcases hdue with ⟨_, rfl⟩ | ⟨h, _⟩
      · obtain ⟨ta, xs, rfl, hT, hTA⟩ : ∃ ta xs, dv = .ref ta ∧ SqL K H1 ta xs ∧ DqAll K H1 xs (Fc.dats F) := by cases dt with | lst s d => exact ⟨_, _, rfl, s, d⟩
        simp only [PyData.depth] at dd
        refine ⟨_, rfl, ne_forms (.of hp) dy (L2.Same.seq s2 hT) (hTA.same s2) (by omega) ⟨_, rfl, iteF' rfl ?_⟩⟩
        refine ⟨_, rfl, _, _, rfl, dt.same s2, sm.1, fi.nd, by simp only [PyData.depth]; omega, shn, _, rfl, .inl ⟨rfl, _, rfl, iteF' (by rw [decide_eq_true rfl]; rfl) (hn _ _ _ _ _ _ (L2.Same.seq s2 hS1))⟩⟩
      · rw [el] at h; cases h
    · rcases hdue with ⟨h, _⟩ | ⟨_, rfl⟩
      · rw [hl2] at h; cases h
      · refine ⟨_, rfl, .inl ⟨rfl, _, rfl, iteF' (by rw [decide_eq_true rfl]; rfl) ?_⟩⟩
        exact ⟨_, rfl, _, _, rfl, dt.same s2, sm.1, fi.nd, by omega, shn, _, rfl, .inl ⟨rfl, _, rfl, iteF' (by rw [decide_eq_true rfl]; rfl) (hn _ _ _ _ _ _ (L2.Same.seq s2 hS1))⟩⟩
  case due =>
    rintro D σ H1 ⟨tv, d, o1, o2, o4, o5, rfl, dt, fi, zd, dd, hS1, hn⟩
    refine ⟨_, rfl, tv, d, rfl, dt, by omega, by omega, fun H2 s2 => ⟨_, rfl, ?_⟩⟩
    cases hl2 : lawL d with
    | true => exact iteT' rfl ⟨_, rfl, tv, tv, d, _, _, _, rfl, dt.same s2, fi, zd, dd, .inl ⟨hl2, rfl⟩, L2.Same.seq s2 hS1, hn⟩
    | false => exact iteF' rfl ⟨tv, _, d, _, _, _, rfl, dt.same s2, fi, zd, dd, .inr ⟨hl2, rfl⟩, L2.Same.seq s2 hS1, hn⟩
  case top =>
    refine ⟨_, rfl, _, _, rfl, .inl ⟨_, hS, rfl⟩, _, _, rfl, _, _, rfl, ?_⟩
    rw [List.length_map]
    generalize hm : (if (if (ns.length : Int) < 16 then (ns.length : Int) else 16) > 1 then (if (ns.length : Int) < 16 then (ns.length : Int) else 16) else (1 : Int)) = m
    have m0 : 0 ≤ m ∧ m ≤ 16 := by rw [← hm]; split <;> split <;> omega
    clear hm
    refine ⟨_, rfl, by omega, by omega, ?_⟩
    refine for_range (n := m.toNat) (fun _ σ H' => ∃ o1 o2 o3 o4 o5 : Option V, σ = [some (.ref a), o1, o2, o3, o4, o5] ∧ SqL K H' a (ns.map V.int)) ⟨_, _, _, _, _, rfl, hS⟩ ?_ ?_
    · rintro i σ H0 _ ⟨o1, o2, o3, o4, o5, rfl, hS0⟩
      refine ⟨_, rfl, _, rfl, a, ns, _, rfl, hS0, by omega, fun c => ⟨_, rfl, .inl ⟨_, _, rfl, rfl, .inl (by decide), .inl ⟨_, _, rfl, rfl, (by show 1 ≤ sizeLine; decide), fun wl hwl => ?_⟩⟩⟩⟩
      have ez : upd H0 wl (.lst [.int (c + 19 * (0 + (i : Int)))]) wl = some (.lst [.int (c + 19 * (0 + (i : Int)))]) := upd_same
      have hSo : SqL K (out wl (upd H0 wl (.lst [.int (c + 19 * (0 + (i : Int)))]))) a (ns.map V.int) := L2.Same.seq (same_keepO' hwl) hS0
      generalize upd H0 wl (.lst [.int (c + 19 * (0 + (i : Int)))]) = H1 at ez hSo ⊢
      have well1 : Well H1 wl := ⟨_, ez, .inl ⟨_, rfl⟩⟩
      have hn : ∀ (o1 o2 o3 o4 o5 : Option V) (H2 : Hp), SqL K H2 a (ns.map V.int) → ∃ p1 p2 p3 p4 p5 : Option V, [some (.ref a), o1, o2, o3, o4, o5] = [some (.ref a), p1, p2, p3, p4, p5] ∧ SqL K H2 a (ns.map V.int) := fun _ _ _ _ _ _ h => ⟨_, _, _, _, _, rfl, h⟩
      refine ⟨_, rfl, wl, 3, rfl, well1, by decide, by decide, by decide, fun k v H2 ok lv dp dk a2 => ?_⟩
      have lv : k.leaves ≤ 8 := lv
      have dp : k.deep ≤ 4 := dp
      have rk := k.rk_deep
      have fd := k.form_depth
      have fc := Kd.cnts_deep 3 k (by omega)
      have c3 : cb 3 = 30 := by decide
      have n8 := Fc.goods_num (Kd.form_good ok)
      have zf : szs (Fc.dats k.form) ≤ 90 := by rw [Fc.szs_cnt]; omega
      refine ⟨v, k, rfl, dk.same (out_sub wl H2), ok, by omega, by omega, by omega, fun ys p H3 hp3 e3 d3 s3 => ?_⟩
      have np := a2.well.ne hp3
      have b3 := a2.same (of_out s3)
      have hS3 := L2.Same.seq b3.but hSo
      have df3 : DqAll K (out wl H3) ys (Fc.dats k.form) := by
        obtain ⟨xs, ew, _⟩ := b3.well
        exact DqAll.outp ew (Fc.pure_dats _) (d3.same (out_sub p H3))
      have so3 : SpO 90 10 (Fc.dats k.form) := ⟨fun d hd => (pz_form n8 d hd).mono (by omega), zf⟩
      refine ⟨_, rfl, wl, 4, rfl, b3.well, by decide, by decide, fun d4 H4 d40 d41 a4 => ⟨_, _, rfl, rfl, _, rfl, ?_⟩⟩
      have b4 := b3.trans a4
      have e4 := a4.but _ _ (out_at np e3)
      have hS4 := L2.Same.seq a4.but hS3
      have df4 := df3.same a4.but
      refine ite2 (fun c1 => ?_) (fun c1 => ?_)
      · refine ⟨_, rfl, _, rfl, wl, p, ys, k.form, rfl, b4.well, .of e4, df4, n8, by omega, by omega, fun ds p5 H5 dq5 so5 a5 => ?_⟩
        have b5 := b4.trans a5
        have hS5 := L2.Same.seq a5.but hS4
        have so5 : SpO 120 20 ds := ⟨fun d hd => (so5.1 d hd).mono (by omega), by have := so5.2; omega⟩
        obtain ⟨f1, f2, f3, f4, f5, f6⟩ := fine_list so5
        refine ⟨_, rfl, wl, 6, rfl, b5.well, by decide, by decide, fun d6 H6 _ _ a6 => .inl ⟨rfl, _, rfl, ?_⟩⟩
        have b6 := b5.trans a6
        have dq6 := dq5.same a6.but
        have hS6 := L2.Same.seq a6.but hS5
        refine ite2 (fun c2 => ?_) (fun c2 => ?_)
        · obtain ⟨zs, hz6, hA6⟩ : ∃ zs, SqL K (out wl H6) p5 zs ∧ DqAll K (out wl H6) zs ds := by cases dq6 with | lst s d => exact ⟨_, s, d⟩
          refine ⟨_, rfl, p5, zs, rfl, .inl ⟨L2.Same.seq (out_sub wl H6) hz6, fun t ht => ?_⟩⟩
          have b7 := b6.new ht (.tup zs)
          have st := out_new (w := wl) ht (.tup zs)
          have rt := b6.well.laid ht (.tup zs)
          refine fun dd hdd => ⟨(by show 4 ≤ sizeLine; decide), fun l hl4 => ?_⟩
          have b8 := b7.new hdd (.dK [])
          have sd := out_new (w := wl) hdd (.dK [])
          have rd := b7.well.laid hdd (.dK [])
          have b9 := b8.new hl4 (.lst [.ref t, .non, .str "form", .ref dd])
          have sl := out_new (w := wl) hl4 (.lst [.ref t, .non, .str "form", .ref dd])
          have rl := b8.well.laid hl4 (.lst [.ref t, .non, .str "form", .ref dd])
          refine ⟨_, rfl, wl, 4, rfl, b9.well, by decide, by decide, fun d10 H10 d100 d101 a10 => ?_⟩
          have sub := out_sub wl H10
          have sa := (st.trans (sd.trans sl)).trans a10.but
          have dt : Dq K H10 (.ref t) (.tuple ds) := .tup (.of (sub _ _ (a10.but _ _ (sl _ _ (sd _ _ rt))))) ((hA6.same sa).same sub)
          have dD : Dq K H10 (.ref dd) (.dict []) := .dct (sub _ _ (a10.but _ _ (sl _ _ rd)))
          have hS10 := L2.Same.seq sub (L2.Same.seq sa hS6)
          have el := sub _ _ (a10.but _ _ rl)
          obtain ⟨x, dx, ex, qx, fx, zx, px⟩ : ∃ x dx, atI [V.ref t, .non, .str "form", .ref dd] d10 = some x ∧ Dq K H10 x dx ∧ Fine dx ∧ sz dx ≤ 5000 ∧ dx.depth ≤ 50 := by
            have : d10 = 0 ∨ d10 = 1 ∨ d10 = 2 ∨ d10 = 3 := by omega
            rcases this with rfl | rfl | rfl | rfl
            · exact ⟨_, _, rfl, dt, f2, by omega, by omega⟩
            · exact ⟨_, .none, rfl, .non, ⟨by decide, fun z => by simp [PyData.hasDict] at z⟩, by decide, by decide⟩
            · exact ⟨_, .str "form", rfl, .str _, ⟨by decide +kernel, fun z => by simp [PyData.hasDict] at z⟩, by simp [sz], by simp [PyData.depth]⟩
            · exact ⟨_, .dict [], rfl, dD, ⟨by decide, fun _ => by simp [noL]⟩, by decide, by simp [PyData.depth, PyData.depthKv]⟩
          refine .inl (.inl ⟨l, _, _, _, rfl, rfl, .of el, ex, ?_⟩)
          exact ⟨x, dx, _, _, _, _, rfl, qx, fx, zx, px, hS10, hn⟩
        · exact ⟨_, _, _, _, _, _, rfl, dq6.same (out_sub wl H6), f1, by omega, by omega, L2.Same.seq (out_sub wl H6) hS6, hn⟩
      · obtain ⟨f1, f2, f3, f4, f5, f6⟩ := fine_list so3
        exact ⟨_, .list (Fc.dats k.form), _, _, _, _, rfl, .lst (.of (out_sub wl H4 _ _ e4)) (df4.same (out_sub wl H4)), f1, by omega, by omega, L2.Same.seq (out_sub wl H4) hS4, hn⟩
    · rintro σ H' ⟨o1, o2, o3, o4, o5, rfl, _⟩
      exact q H'
end

theorem exm_mk {K : PySem.W.Frag} {h : Heap} {mg : Str → Option Value} {x y : Str} {D A : Addr} {b : Bool} (_ : K.In h) (_ : ExcF K mg x D) (_ : mg y = some (.ref A)) (e : PySem.W.exmOne K (.ref D) (.ref A) = some b) : PySem.W.exmOne K (.ref D) (.ref A) = some b := e
theorem kit_mk {K : PySem.W.Frag} {h : Heap} {mg : Str → Option Value} {x y : Str} {D A : Addr} {b : Bool} (_ : K.In h) (_ : ExcF K mg x D) (_ : mg y = some (.ref A)) (e : PySem.W.kitOne K (.ref D) (.ref A) = some b) : PySem.W.kitOne K (.ref D) (.ref A) = some b := e
theorem law_fn {P : Program} {w : World} {K : PySem.W.Frag} {mg : Str → Option Value} {l : PySem.W.OpenLaw} {fa : Addr} (hfa : mg "law" = some (.ref fa)) (A : At K mg "law" s_law) (h : ∀ (f : Addr) (fd : FuncData), Fun K "law" "law" s_law f fd → ∀ base : Heap, FnG l.prog w K mg base CX0 153 f fd ["script"] (spLaw K)) :
    ∃ fd : FuncData, (∀ (s : Shared) (v : Value), BindsTo s fd ⟨[v], []⟩ [("script", v)]) ∧ ∀ base : Heap, K.In base → base.Ns mainGlobals mg → FnG l.prog w K mg base CX0 153 fa fd ["script"] (spLaw K) := by
  obtain ⟨f, fd, F, m⟩ := A
  have e := hfa.symm.trans m
  cases e
  obtain ⟨oc, od, kV, doc, pm, an, cdv, ct, osl, rfl, lk, hcd⟩ := id F.ex
  exact ⟨_, fun s v => .of_eq rfl, fun base _ _ => h _ _ F base⟩
theorem walk {l : PySem.W.OpenLaw} {q : Program} {loose : List Str} {XP : (Str → Option Value) → Heap → Prop} {YP : World → Heap → Prop} {d : DefRec} {K : Params → PySem.W.Frag} (hn : l.most = some 63) (hdf : d.params.defaults = [])
    (hY : ∀ (w : World) (h : Heap), YP w h → (K w.params).In h)
    (F : ∀ (w : World) (mg : Str → Option Value) (fa : Addr) (h : Heap), (K w.params).In h → h.Ns mainGlobals mg → mg d.name = some (.ref fa) →
      ∃ fd : FuncData, (∀ (s : Shared) (u : Value), BindsTo s fd ⟨[u], []⟩ [("script", u)]) ∧ ∀ base : Heap, (K w.params).In base → base.Ns mainGlobals mg → FnG l.prog w (K w.params) mg base CX0 153 fa fd ["script"] (spLaw (K w.params))) :
    PySem.W.WalkO q loose XP YP l.row.toRowW d [] (fun f vs => PySem.call f vs) :=
  walk_ofG (n := 63) (k := 153) (x := "script") (sp := fun w => spLaw (K w.params)) hn (by decide) hdf ⟨rfl, by decide, by decide⟩ hY F (fun _ _ a ns hl _ hS => ⟨a, ns, rfl, hS, hl, fun _ => rfl⟩)
section
variable {P : Program} {w : World} {K : PySem.W.Frag} {mg : Str → Option Value} {base : Heap} {CN CT : Addr}
theorem law_end {l : PySem.W.OpenLaw} {fa : Addr} (hfa : mg "law" = some (.ref fa)) (T : Txt K mg w CN CT) (A_is_base_number : At K mg "is_base_number" s_is_base_number) (A_is_kind : At K mg "is_kind" s_is_kind) (A__is_kind_but_for_parts : At K mg "_is_kind_but_for_parts" s_is_kind_but_for_parts) (A_need_kind : At K mg "need_kind" s_need_kind) (A_form : At K mg "form" s_form) (A__factors : At K mg "_factors" s_factors) (A_is_form : At K mg "is_form" s_is_form) (A__is_factor_but_for_wants : At K mg "_is_factor_but_for_wants" s_is_factor_but_for_wants) (A_kind_of : At K mg "kind_of" s_kind_of) (A__kind_of_factors : At K mg "_kind_of_factors" s_kind_of_factors) (A__law_cell_at : At K mg "_law_cell_at" s_law_cell_at) (A__law_digit : At K mg "_law_digit" s_law_digit) (A__law_kind : At K mg "_law_kind" s_law_kind) (A__law_form : At K mg "_law_form" s_law_form) (A__law_is_factor : At K mg "_law_is_factor" s_law_is_factor) (A__law_is_form : At K mg "_law_is_form" s_law_is_form) (A__law_spoilt : At K mg "_law_spoilt" s_law_spoilt) (A__law_told : At K mg "_law_told" s_law_told) (A_law : At K mg "law" s_law) :
    ∃ fd : FuncData, (∀ (s : Shared) (v : Value), BindsTo s fd ⟨[v], []⟩ [("script", v)]) ∧ ∀ base : Heap, K.In base → base.Ns mainGlobals mg → FnG l.prog w K mg base CX0 153 fa fd ["script"] (spLaw K) :=
  law_fn (P := l.prog) hfa A_law fun f fd F base => by
    have Cc := ok_cell_at (P := l.prog) (base := base) A__law_cell_at T
    have Cd := ok_digit (P := l.prog) (base := base) A__law_digit T
    have Ck := ok_kind A__law_kind T Cd 5
    have Clf := ok_lform (P := l.prog) (base := base) A__law_form T 20
    have Cbn := ok_is_base_number (P := l.prog) (base := base) A_is_base_number T
    have Cbp := ok_is_kind_but_for_parts A__is_kind_but_for_parts T Cbn
    have Ci := ok_is_kind A_is_kind T Cbp
    have Cn := ok_need_kind A_need_kind T Ci
    have Cf := ok_factors (P := l.prog) (base := base) A__factors T 81
    have Cfo := ok_form A_form T Cn Cf
    have Cif := ok_isfac A__is_factor_but_for_wants T Cbn
    have Cis := ok_is_form A_is_form T Cif
    have CifD := ok_isfacD A__is_factor_but_for_wants T Cbn
    have CisB := ok_is_formB A_is_form T CifD
    have Cko := ok_kof (P := l.prog) (base := base) A__kind_of_factors T 120
    have Ckf := ok_kind_of2 A_kind_of T Cis CisB Cko
    have Cto := ok_told A__law_told T Ckf Cfo
    have Cfa := ok_lfac (P := l.prog) (base := base) A__law_is_factor T 151
    have Clo := ok_lfo (N := 0) A__law_is_form T Cfa
    have Csp := ok_spoilt A__law_spoilt T Cd 20
    exact ok_law F T Cc Cd Ck Clf Csp Clo Cto
end
end KW
open PySem PySem.W PyProof.Rows in
set_option maxRecDepth 100000 in
set_option maxHeartbeats 0 in
theorem PySem.Challenge.cw_kindswap_k12_what_is_no_form_holds : PySem.Challenge.rw_kindswap_k12_what_is_no_form.Holds := by
  w_on; o_law; k_head; (case hw => w_witness2)
  k_fill
  refine KW.walk (l := PySem.Challenge.rw_kindswap_k12_what_is_no_form) rfl rfl (fun w h Y => PySem.W.kIn_of Y) ?F
  case F =>
    intro w mg fa h KX G hmg
    have A_is_base_number := KB.at_mk (x := "is_base_number") (st := KW.s_is_base_number) KX G (by k_is) (by k_is) (by k_is) (by k_is)
    have A_is_kind := KB.at_mk (x := "is_kind") (st := KW.s_is_kind) KX G (by k_is) (by k_is) (by k_is) (by k_is)
    have A__is_kind_but_for_parts := KB.at_mk (x := "_is_kind_but_for_parts") (st := KW.s_is_kind_but_for_parts) KX G (by k_is) (by k_is) (by k_is) (by k_is)
    have A_need_kind := KB.at_mk (x := "need_kind") (st := KW.s_need_kind) KX G (by k_is) (by k_is) (by k_is) (by k_is)
    have A_form := KB.at_mk (x := "form") (st := KW.s_form) KX G (by k_is) (by k_is) (by k_is) (by k_is)
    have A__factors := KB.at_mk (x := "_factors") (st := KW.s_factors) KX G (by k_is) (by k_is) (by k_is) (by k_is)
    have A_is_form := KB.at_mk (x := "is_form") (st := KW.s_is_form) KX G (by k_is) (by k_is) (by k_is) (by k_is)
    have A__is_factor_but_for_wants := KB.at_mk (x := "_is_factor_but_for_wants") (st := KW.s_is_factor_but_for_wants) KX G (by k_is) (by k_is) (by k_is) (by k_is)
    have A_kind_of := KB.at_mk (x := "kind_of") (st := KW.s_kind_of) KX G (by k_is) (by k_is) (by k_is) (by k_is)
    have A__kind_of_factors := KB.at_mk (x := "_kind_of_factors") (st := KW.s_kind_of_factors) KX G (by k_is) (by k_is) (by k_is) (by k_is)
    have A__law_cell_at := KB.at_mk (x := "_law_cell_at") (st := KW.s_law_cell_at) KX G (by k_is) (by k_is) (by k_is) (by k_is)
    have A__law_digit := KB.at_mk (x := "_law_digit") (st := KW.s_law_digit) KX G (by k_is) (by k_is) (by k_is) (by k_is)
    have A__law_kind := KB.at_mk (x := "_law_kind") (st := KW.s_law_kind) KX G (by k_is) (by k_is) (by k_is) (by k_is)
    have A__law_form := KB.at_mk (x := "_law_form") (st := KW.s_law_form) KX G (by k_is) (by k_is) (by k_is) (by k_is)
    have A__law_is_factor := KB.at_mk (x := "_law_is_factor") (st := KW.s_law_is_factor) KX G (by k_is) (by k_is) (by k_is) (by k_is)
    have A__law_is_form := KB.at_mk (x := "_law_is_form") (st := KW.s_law_is_form) KX G (by k_is) (by k_is) (by k_is) (by k_is)
    have A__law_spoilt := KB.at_mk (x := "_law_spoilt") (st := KW.s_law_spoilt) KX G (by k_is) (by k_is) (by k_is) (by k_is)
    have A__law_told := KB.at_mk (x := "_law_told") (st := KW.s_law_told) KX G (by k_is) (by k_is) (by k_is) (by k_is)
    have A_law := KB.at_mk (x := "law") (st := KW.s_law) KX G (by k_is) (by k_is) (by k_is) (by k_is)
    have D1 := KB.ds_mk (x := "SIGN_OF_WORD") (w := w) (kvs := [("both", .str "*"), ("from", .str ">")]) KX G (by k_is) (by k_is) (by exact ⟨⟨_, _, rfl, rfl⟩, ⟨_, _, rfl, rfl⟩, trivial⟩) (by first | rfl | decide) (by exact .cons ⟨_, rfl⟩ (.cons ⟨_, rfl⟩ .nil))
    have E1 := KB.exc_mk (x := "NoKind") KX G (by k_is) (by k_exc) (by k_is) (by k_is) (by k_is) (by k_is) (by first | rfl | k_is)
    have E2 := KB.exc_mk (x := "NoForm") KX G (by k_is) (by k_exc) (by k_is) (by k_is) (by k_is) (by k_is) (by first | rfl | k_is)
    have X1 := KB.excC_mk (x := "NoForm") KX E2 (by k_is) (by k_is) (by k_is) (by k_is) (by k_is) (by k_is) (by k_is) (by k_is)
    have S1 := KB.cls_mk (x := "SwapError") KX G (by k_is)
    have Z1 := KW.exm_mk KX E2 S1 (b := true) (by first | k_is | rfl | decide +kernel)
    have V1 := KW.kit_mk KX E2 E2.g (b := true) (by first | k_is | rfl | decide +kernel)
    have V3 := KW.kit_mk KX E2 E1.g (b := false) (by first | k_is | rfl | decide +kernel)
    have g1 : ∃ t, mg "BASE_LETTERS" = some (.str "abcdefgh" t) := ⟨_, PySem.W.mg_of KX G (by k_is)⟩
    have T : KW.Txt _ mg w _ _ := ⟨PySem.W.mg_none_of KX G (by k_is), PySem.W.mg_none_of KX G (by k_is), PySem.W.mg_none_of KX G (by k_is), PySem.W.mg_none_of KX G (by k_is), PySem.W.mg_none_of KX G (by k_is), PySem.W.mg_none_of KX G (by k_is), PySem.W.mg_none_of KX G (by k_is), PySem.W.mg_none_of KX G (by k_is), PySem.W.mg_none_of KX G (by k_is), PySem.W.mg_none_of KX G (by k_is), PySem.W.mg_none_of KX G (by k_is), PySem.W.mg_none_of KX G (by k_is), PySem.W.mg_none_of KX G (by k_is),
      g1, D1, E1, E2, E1.g, E2.g, X1, ⟨_, S1, Z1⟩, V1, V3⟩
    exact KW.law_end hmg T A_is_base_number A_is_kind A__is_kind_but_for_parts A_need_kind A_form A__factors A_is_form A__is_factor_but_for_wants A_kind_of A__kind_of_factors A__law_cell_at A__law_digit A__law_kind A__law_form A__law_is_factor A__law_is_form A__law_spoilt A__law_told A_law
namespace KW

end KW
