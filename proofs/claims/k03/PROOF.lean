import PyProof.Rows.All
import Wide.All
import OpenK.AllK
import Wide.FinOn
import HandS.ForMost
import HandS.More
import HandS.NoneIn
import HandS.Deep
import HandS.ForExc
import HandS.ExcIs
import HandS.StrMore
import HandS.IsInst
import HandS.TryMany
import HandS.Style
import PySem.Challenge.RW_kindswap_k03_texts_of_no_kind
set_option Elab.async false
set_option linter.all false
set_option maxRecDepth 100000
set_option maxHeartbeats 4000000
namespace KB
open PySem PySem.Spec PyProof.Rows L2

/-! ## rules of one's own, wide ones: each serves all kinds of operands that the program has -/
section
variable {X : Cx}
/-- == of data nested up to 190 deep -/
def rEqX (K : PySem.W.Frag) : R2 := fun x y H Q => ∃ d e, Dp K H x d ∧ Dp K H y e ∧ d.canLay0 = true ∧ e.canLay0 = true ∧ min d.depth e.depth ≤ 190 ∧ Q (.bl (PyData.eqv d e)) H
def rNeX (K : PySem.W.Frag) : R2 := fun x y H Q => ∃ d e, Dp K H x d ∧ Dp K H y e ∧ d.canLay0 = true ∧ e.canLay0 = true ∧ min d.depth e.depth ≤ 190 ∧ Q (.bl (!PyData.eqv d e)) H
theorem op_eqX (hu : X.A.units + 200 < cLine) : OpR X (compareOp .Eq) (rEqX X.K) := by
  intro pins s σ H x y v u Q I rx ry ⟨d, e, hd, he, cd, ce, hm, q⟩
  obtain ⟨as, r1⟩ := Dp.reads I d x v hd rx
  obtain ⟨bs, r2⟩ := Dp.reads I e y u he ry
  exact SeqAt.compareEq_reads r1 r2 cd ce (by omega) ⟨.bl _, H, I, rfl, q⟩
theorem op_neX (hu : X.A.units + 200 < cLine) : OpR X (compareOp .NotEq) (rNeX X.K) := by
  intro pins s σ H x y v u Q I rx ry ⟨d, e, hd, he, cd, ce, hm, q⟩
  obtain ⟨as, r1⟩ := Dp.reads I d x v hd rx
  obtain ⟨bs, r2⟩ := Dp.reads I e y u he ry
  exact SeqAt.compareNe_reads r1 r2 cd ce (by omega) ⟨.bl _, H, I, rfl, q⟩
def rEqA (K : PySem.W.Frag) : R2 := fun x y H Q => rEq x y H Q ∨ rEqX K x y H Q
def rNeA (K : PySem.W.Frag) : R2 := fun x y H Q => rNe x y H Q ∨ rNeX K x y H Q
theorem op_eqA (hu : X.A.units + 200 < cLine) : OpR X (compareOp .Eq) (rEqA X.K) := op_eq.or (op_eqX hu)
theorem op_neA (hu : X.A.units + 200 < cLine) : OpR X (compareOp .NotEq) (rNeA X.K) := op_ne.or (op_neX hu)
theorem room200 {k : Nat} {A : Around} (r : Room k A) : A.units + 200 < cLine := by have := r.un; omega

def rAddA (K : PySem.W.Frag) : R2 := fun x y H Q =>
  (rI0 fun i j => .int (i + j)) x y H Q ∨ (∃ i j, x = .str i ∧ y = .str j ∧ i.length + j.length ≤ sizeLine ∧ Q (.str (i ++ j)) H) ∨ rCat x y H Q ∨ rCatT K x y H Q
theorem op_addA : OpR X (binaryOp .Add) (rAddA X.K) := op_add.or (op_add_str.or (op_cat.or op_catT))
def rMulA : R2 := fun x y H Q => (rI CMul fun i j => .int (i * j)) x y H Q ∨ rRep x y H Q
theorem op_mulA : OpR X (binaryOp .Mult) rMulA := op_mul.or op_rep
def rIxA (K : PySem.W.Frag) (w : World) : R2 := fun x y H Q => rIx K x y H Q ∨ rIxD K w x y H Q
theorem ix_A : IxR X (rIxA X.K X.w) := ix_seq.or ix_kdict
def rSlA (K : PySem.W.Frag) : V → Option Int → Option Int → Hp → VK → Prop := fun x lo hi H Q => rSlL K x lo hi H Q ∨ rSlT K x lo hi H Q ∨ rSlS x lo hi H Q
theorem sl_A : SlR X (rSlA X.K) := sl_list.or (sl_tup.or sl_str)
/-- isinstance over the values that the program has: the answer by the two types' names -/
def rIsiB (K : PySem.W.Frag) : List V → Hp → VK → Prop := fun xs H Q => ∃ (x : V) (T : String) (S : String) (b : Bool), xs = [x, .ty S] ∧ TyB K H x T ∧ Q (.bl b) H
end

/-! ## xs.extend(t), t a tuple -/
theorem extend_door2 {a b : Array Value} (h : a.size + b.size ≤ sizeLine) : ¬(!a.isEmpty && Builtin.List.listTooLong (a.size + b.size)) = true := by
  rw [notLongL h, Bool.and_false]; exact Bool.false_ne_true
theorem meets_extend_tup {l b : Addr} {as bs : Array Value} {n n2 : Nat} {dd : Option Addr} {sl : Array (Option Value)} (hz : as.size + bs.size ≤ sizeLine) :
    Meets (Builtin.«list.extend» ⟨[.ref l, .ref b], []⟩) (fun _ R s => s.heap.get? l = some { cls := .type "list", data := .seq as n } ∧
      s.heap.get? b = some ⟨.type "tuple", dd, .seq bs n2, sl⟩ ∧ R (.ok (.ret .none)) { s with heap := s.heap.update l (Obj.mapSeq (· ++ bs)) }) := by
  refine .of_wp fun prog w A R s h => ?_
  obtain ⟨hp, g, d, tk, os⟩ := s
  obtain ⟨hl, hb, h⟩ := h
  have f2 := PySem.AutoSeq1.sub_tuple_tuple
  have f4 := PySem.AutoSeq1.sub_tuple_list
  have door := extend_door2 hz
  have z1 : as.size ≤ sizeLine := by omega
  have z2 : (as ++ bs).size ≤ sizeLine + 1 := by rw [Array.size_append]; omega
  wp_walk using (wpAny_updateSeq hl rfl (hz := z1) (_hz' := z2)), PySem.AutoSeq1.wpAny_loadPart' hl, PySem.AutoSeq1.wpAny_loadPart' hb
  exact ⟨_, rfl, h⟩
def rExtendT (K : PySem.W.Frag) : V → List V → Hp → VK → Prop := fun x vs H Q =>
  ∃ l b xs zs, x = .ref l ∧ vs = [.ref b] ∧ H l = some (.lst xs) ∧ SqT K H b zs ∧ xs.length + zs.length ≤ sizeLine ∧ Q .non (upd H l (.lst (xs ++ zs)))
theorem mt_extendT {X : Cx} : MtM X "list.extend" (rExtendT X.K) := by
  intro pins s σ H x vs v us Q I rx rv ⟨l, b, xs, zs, ex, ev, hH, hB, hz, q⟩
  subst ex ev
  cases rx
  obtain ⟨u, rfl, ru⟩ := Vals.one rv
  cases ru
  obtain ⟨_, its, n, r, hl, e⟩ := I.lstM hH
  obtain ⟨its2, r2, ⟨⟨c2, dd, da, sl⟩, e2, ec, n2, ed⟩, hl2⟩ := I.tuple hB
  simp only at ec ed
  subst ec ed
  have hl3 := r2.length
  have hsz : its.toArray.size + its2.toArray.size ≤ sizeLine := by rw [List.size_toArray, List.size_toArray]; omega
  refine call_meets F.slot_list_extend ⟨_, e, rfl⟩ F.entry_list_extend (F.args_list_extend_2 _ _) (meets_extend_tup hsz) ⟨e, e2, ?_⟩
  refine ⟨.non, _, I.lset (its' := its ++ its2) hH e (by simp) (Vals.append r r2) ?_, rfl, q⟩
  rw [List.length_append]; exact hz

/-! ## a def as it stands; a def that keeps its promise, for its callers -/
/-- the def stands under its own name -/
def At (K : PySem.W.Frag) (mg : Str → Option Value) (x : Str) (st : Stmt) : Prop := ∃ f fd, Fun K x x st f fd ∧ mg x = some (.ref f)
section
variable (P : Program) (w : World) (K : PySem.W.Frag) (mg : Str → Option Value) (base : Heap)
def Cal (CX : CXT) (k : Nat) (x : Str) (ps : List Str) (sp : Sp) : Prop :=
  ∃ f fd, FnOk P w K mg base CX k f fd ps sp ∧ Binds K fd ps [] ∧ PySem.W.keepIn K (.ref f) = true ∧ mg x = some (.ref f)
end
section
variable {X : Cx} {CX : CXT} {k : Nat} {x : Str} {ps : List Str} {sp : Sp} {E : XK} {p pos : Pos} {e : Expr} {es : List Expr} {t : TA}
theorem pe_calC (C : Cal X.prog X.w X.K X.mg X.base CX k x ps sp) (hr : Room k X.A) (hx : Passes CX X E) (ha : PA X (e :: es) t) (hg : Gl X x := by rfl) (hdb : (x == ("__debug__" : Str)) = false := by decide)
    (he : starEach (e :: es) X.env = (false, eval e X.env) :: starEach es X.env := by rfl) (hpl : (backTo pos (starEach es X.env)).any (·.1) = false := by rfl) :
    PE X (.Call (.Name x p) (e :: es) [] pos) (tCall sp [] E t) := by
  obtain ⟨f, fd, F, b, kp, m⟩ := C
  exact pe_call F hr hg m kp b .nil hx ha hdb he hpl
end
theorem Cal.mono {P : Program} {w : World} {K : PySem.W.Frag} {mg : Str → Option Value} {base : Heap} {CX : CXT} {j k : Nat} {x : Str} {ps : List Str} {sp : Sp} (C : Cal P w K mg base CX j x ps sp) (h : j ≤ k) : Cal P w K mg base CX k x ps sp :=
  let ⟨f, fd, F, r⟩ := C; ⟨f, fd, F.mono h, r⟩

/-! ## facts of heaps -/
theorem same_new {H : Hp} {p : Addr} (h : H p = none) (o : HO) : Same H (upd H p o) := fun b u q => by rw [upd_ne (ne_of_none q h)]; exact q
theorem Same.tup {K : PySem.W.Frag} {H H' : Hp} {a : Addr} {xs : List V} (e : Same H H') (h : SqT K H a xs) : SqT K H' a xs := by
  rcases h with (h | ⟨o, h⟩) | h
  · exact .inl (.inl (e _ _ h))
  · exact .inl (.inr ⟨o, e _ _ h⟩)
  · exact .inr h
/-- all but the object at w stands -/
def But (w : Addr) (H H' : Hp) : Prop := ∀ b o, b ≠ w → H b = some o → H' b = some o
theorem But.refl (w : Addr) (H : Hp) : But w H H := fun _ _ _ h => h
theorem But.trans {w : Addr} {H H1 H2 : Hp} (a : But w H H1) (b : But w H1 H2) : But w H H2 := fun c o n h => b c o n (a c o n h)
theorem But.of_same {w : Addr} {H H' : Hp} (h : Same H H') : But w H H' := fun b o _ e => h b o e
theorem But.new {w : Addr} {H : Hp} {p : Addr} (h : H p = none) (o : HO) : But w H (upd H p o) := .of_same (same_new h o)
theorem But.set {w : Addr} {H : Hp} (o : HO) : But w H (upd H w o) := fun b u n q => by rw [upd_ne n]; exact q
end KB

namespace KB
open PySem PySem.Spec PyProof.Rows L2

/-! ## a dict of the module with text keys, asked by any text -/
inductive Ents : List (Str × V) → List DictEntry → Prop where
  | nil : Ents [] []
  | cons {k : Str} {v : V} {u : Value} {t : Tok} {hs : Int} {r : List (Str × V)} {es : List DictEntry} (rv : RelV v u) (tl : Ents r es) : Ents ((k, v) :: r) (⟨hs, .str k t, u⟩ :: es)
def DictS (K : PySem.W.Frag) (w : World) (d : Addr) (kvs : List (Str × V)) : Prop :=
  ∃ es n, K.lookup d = some ⟨.type "dict", none, .dict es n, #[]⟩ ∧ PySem.W.KeysLit w.params es.toList ∧ (d == sysModules) = false ∧ Ents kvs es.toList
theorem Ents.find {z : Str} : ∀ {kvs : List (Str × V)} {es : List DictEntry}, Ents kvs es →
    (es.find? (·.key.isStr z) = none ∧ kvs.lookup z = none ∧ es.any (·.refKey) = false) ∨ ∃ e v, es.find? (·.key.isStr z) = some e ∧ kvs.lookup z = some v ∧ RelV v e.val
  | _, _, .nil => .inl ⟨rfl, rfl, rfl⟩
  | _, _, .cons (k := k) (v := v) (u := u) rv tl => by
    by_cases h : k = z
    · subst h
      refine .inr ⟨_, v, List.find?_cons_of_pos (by simp [Value.isStr]), ?_, rv⟩
      simp [List.lookup]
    · have h1 : ((z == k) : Bool) = false := beq_eq_false_iff_ne.mpr fun q => h q.symm
      have h2 : (Value.isStr (.str k (by assumption)) z) = false := by
        show (k == z) = false
        exact beq_eq_false_iff_ne.mpr h
      rcases tl.find (z := z) with ⟨a, b, c⟩ | ⟨e, v', a, b, c⟩
      · refine .inl ⟨?_, ?_, ?_⟩
        · rw [List.find?_cons_of_neg (by show ¬ (Value.isStr (.str k _) z) = true; rw [show Value.isStr (.str k _) z = (k == z) from rfl, beq_eq_false_iff_ne.mpr h]; exact Bool.false_ne_true)]
          exact a
        · simp [List.lookup, h1, b]
        · rw [List.any_cons, c]; rfl
      · refine .inr ⟨e, v', ?_, ?_, c⟩
        · rw [List.find?_cons_of_neg (by show ¬ (Value.isStr (.str k _) z) = true; rw [show Value.isStr (.str k _) z = (k == z) from rfl, beq_eq_false_iff_ne.mpr h]; exact Bool.false_ne_true)]
          exact a
        · simp [List.lookup, h1, b]
theorem DictS.ns {K : PySem.W.Frag} {w : World} {d : Addr} {kvs : List (Str × V)} (D : DictS K w d kvs) (z : Str) :
    (PySem.W.nsIn K d z = some none ∧ kvs.lookup z = none) ∨ ∃ u v, PySem.W.nsIn K d z = some (some u) ∧ kvs.lookup z = some v ∧ RelV v u := by
  obtain ⟨es, n, hl, _, _, he⟩ := D
  rcases he.find (z := z) with ⟨a, b, c⟩ | ⟨e, v, a, b, c⟩
  · refine .inl ⟨?_, b⟩
    unfold PySem.W.nsIn; rw [hl]; simp only [a, c]; rfl
  · refine .inr ⟨e.val, v, ?_, b, c⟩
    unfold PySem.W.nsIn; rw [hl]; simp only [a]
section
variable {X : Cx} {kvs : List (Str × V)}
def rInDS (K : PySem.W.Frag) (w : World) (neg : Bool) : R2 := fun x y H Q => ∃ (z : Str) (d : Addr) (kvs : List (Str × V)), x = .str z ∧ y = .ref d ∧ DictS K w d kvs ∧ Q (.bl (if neg then !(kvs.lookup z).isSome else (kvs.lookup z).isSome)) H
theorem op_in_DS : OpR X (compareOp .In) (rInDS X.K X.w false) := by
  intro pins s σ H x y v u Q I rx ry ⟨z, d, kvs, ex, ey, D, q⟩
  obtain ⟨es, n, a, b, c, _⟩ := id D
  have kd : KDict X.K X.w d es n := ⟨a, b, c⟩
  rcases D.ns z with ⟨e, l⟩ | ⟨u0, v0, e, l, _⟩
  · exact op_in_kd kd pins s σ H x y v u Q I rx ry ⟨z, _, ex, ey, e, by rw [l] at q; exact q⟩
  · exact op_in_kd kd pins s σ H x y v u Q I rx ry ⟨z, _, ex, ey, e, by rw [l] at q; exact q⟩
theorem op_notIn_DS : OpR X (compareOp .NotIn) (rInDS X.K X.w true) := by
  intro pins s σ H x y v u Q I rx ry ⟨z, d, kvs, ex, ey, D, q⟩
  obtain ⟨es, n, a, b, c, _⟩ := id D
  have kd : KDict X.K X.w d es n := ⟨a, b, c⟩
  rcases D.ns z with ⟨e, l⟩ | ⟨u0, v0, e, l, _⟩
  · exact op_notIn_kd kd pins s σ H x y v u Q I rx ry ⟨z, _, ex, ey, e, by rw [l] at q; exact q⟩
  · exact op_notIn_kd kd pins s σ H x y v u Q I rx ry ⟨z, _, ex, ey, e, by rw [l] at q; exact q⟩
def rIxDS (K : PySem.W.Frag) (w : World) : R2 := fun x y H Q => ∃ (z : Str) (d : Addr) (kvs : List (Str × V)) (v : V), x = .ref d ∧ y = .str z ∧ DictS K w d kvs ∧ kvs.lookup z = some v ∧ Q v H
theorem ix_DS : IxR X (rIxDS X.K X.w) := by
  intro value slice pins s σ H x y v u Q I rx ry ⟨z, d, kvs, v1, ex, ey, D, hl, q⟩ hs
  obtain ⟨es, n, a, b, c, _⟩ := id D
  rcases D.ns z with ⟨e, l⟩ | ⟨u0, v0, e, l, r⟩
  · rw [l] at hl; cases hl
  · rw [l] at hl; cases hl
    exact ix_kdict value slice pins s σ H x y v u Q I rx ry ⟨d, z, _, ex, ey, ⟨es, n, u0, a, b, e, r⟩, q⟩ hs
def rIxB (K : PySem.W.Frag) (w : World) : R2 := fun x y H Q => rIx K x y H Q ∨ rIxDS K w x y H Q
theorem ix_B : IxR X (rIxB X.K X.w) := ix_seq.or ix_DS
end

/-! ## the heap without one object -/
def out (w : Addr) (H : Hp) : Hp := fun b => if b = w then none else H b
theorem out_ne {w b : Addr} {H : Hp} (h : b ≠ w) : out w H b = H b := if_neg h
theorem out_self {w : Addr} {H : Hp} : out w H w = none := if_pos rfl
theorem out_some {w b : Addr} {H : Hp} {o : HO} (h : out w H b = some o) : b ≠ w ∧ H b = some o := by
  by_cases e : b = w
  · rw [e, out_self] at h; cases h
  · rw [out_ne e] at h; exact ⟨e, h⟩
theorem out_sub (w : Addr) (H : Hp) : Same (out w H) H := fun _ _ h => (out_some h).2
theorem out_new {w p : Addr} {H : Hp} (h : H p = none) (o : HO) : Same (out w H) (out w (upd H p o)) := fun b u q => by
  obtain ⟨n, e⟩ := out_some q
  rw [out_ne n, upd_ne (ne_of_none e h)]; exact e
theorem out_set {w : Addr} {H : Hp} (o : HO) : Same (out w H) (out w (upd H w o)) := fun b u q => by
  obtain ⟨n, e⟩ := out_some q
  rw [out_ne n, upd_ne n]; exact e
theorem out_at {w p : Addr} {H : Hp} {o : HO} (n : p ≠ w) (h : H p = some o) : out w H p = some o := by rw [out_ne n]; exact h
theorem out_same {w : Addr} {H H' : Hp} (h : Same H H') : Same (out w H) (out w H') := fun b o q => by
  obtain ⟨n, e⟩ := out_some q
  rw [out_ne n]; exact h b o e
/-! ## data that stand -/
mutual
theorem Dp.same {K : PySem.W.Frag} {H H' : Hp} (s : Same H H') : ∀ {d : PyData} {v : V}, Dp K H v d → Dp K H' v d
  | _, _, .non => .non
  | _, _, .bl b => .bl b
  | _, _, .int i => .int i
  | _, _, .str x => .str x
  | _, _, .lst h a => .lst (L2.Same.seq s h) (DpAll.same s a)
  | _, _, .tup h a => .tup (Same.tup s h) (DpAll.same s a)
theorem DpAll.same {K : PySem.W.Frag} {H H' : Hp} (s : Same H H') : ∀ {ds : List PyData} {vs : List V}, DpAll K H vs ds → DpAll K H' vs ds
  | _, _, .nil => .nil
  | _, _, .cons h a => .cons (Dp.same s h) (DpAll.same s a)
end
end KB

namespace KB
open PySem PySem.Spec PyProof.Rows L2

/-! ## own classes of errors -/
structure ExcF (K : PySem.W.Frag) (mg : Str → Option Value) (x : Str) (C : Addr) : Prop where
  g : mg x = some (.ref C)
  q : PySem.W.excIn K C [.type "ValueError", .type "Exception", .type "BaseException", .type "object"] "ValueError.__new__" = true
  k : PySem.W.keepIn K (.ref C) = true
  b : PySem.W.subIn K (.ref C) (.type "BaseException") = some true
  t : PySem.W.typeIn K (.ref C) = some (.type "type")
  i : PySem.W.isClsIn K C = true
  s : PySem.W.subIn K (.ref C) (.ref C) = some true
theorem ps_raiseO {X : Cx} {W : WX} {x m : Str} {C : Addr} {j : Nat} {p p2 pos pos2 : Pos} (hc : X.calm = true) (tk : Takes X W) (F : ExcF X.K X.mg x C) (hg : Gl X x := by rfl) (hdb : (x == ("__debug__" : Str)) = false := by decide) :
    PS X (.Raise (some (.Call (.Name x p) [.Constant (.str m) j p2] [] pos)) none pos2) (fun _ σ H => W (.ref C) none σ H) :=
  ps_raise hc tk (pmk_own PySem.F.excBase_ValueError F.q F.g F.k (raises_own F.b F.t) hg hdb)

/-- a constant of the module: a text; a dict -/
theorem pe_globS {X : Cx} {x z : Str} {pos : Pos} (hg : Gl X x) (hm : ∃ t, X.mg x = some (.str z t)) (hd : (x == ("__debug__" : Str)) = false := by decide) : PE X (.Name x pos) (tC (.str z)) := by
  obtain ⟨t, h⟩ := hm
  exact pe_glob hg h ⟨_, rfl⟩ hd
def tDS (K : PySem.W.Frag) (w : World) (kvs : List (Str × V)) : TE := fun _ H Q => ∀ d, DictS K w d kvs → Q (.ref d) H
theorem pe_globD {X : Cx} {x : Str} {kvs : List (Str × V)} {pos : Pos} (hg : Gl X x) (hm : ∃ d, X.mg x = some (.ref d) ∧ DictS X.K X.w d kvs) (hd : (x == ("__debug__" : Str)) = false := by decide) : PE X (.Name x pos) (tDS X.K X.w kvs) := by
  obtain ⟨d, h, D⟩ := hm
  exact ⟨fun pins s σ H Q I q => (pe_glob (v := .ref d) hg h (by exact rfl) hd).run pins s σ H Q I (q d D)⟩

/-! ## kinds -/
inductive Kd where
  | b (n : Nat) | u | p (x y : Kd) | f (x y : Kd)
  deriving DecidableEq, Repr
namespace Kd
def dat : Kd → PyData
  | b n => .tuple [.str "base", .int n]
  | u => .tuple [.str "unit"]
  | p x y => .tuple [.str "both", x.dat, y.dat]
  | f x y => .tuple [.str "from", x.dat, y.dat]
def ok : Kd → Prop
  | b n => n < 8
  | u => True
  | p x y => x.ok ∧ y.ok
  | f x y => x.ok ∧ y.ok
def leaves : Kd → Nat
  | b _ => 1 | u => 1
  | p x y => x.leaves + y.leaves
  | f x y => x.leaves + y.leaves
def deep : Kd → Nat
  | b _ => 1 | u => 1
  | p x y => 1 + max x.deep y.deep
  | f x y => 1 + max x.deep y.deep
theorem leaves_pos : ∀ k : Kd, 1 ≤ k.leaves
  | b _ => Nat.le_refl _
  | u => Nat.le_refl _
  | p x y => by have := leaves_pos x; simp only [leaves]; omega
  | f x y => by have := leaves_pos x; simp only [leaves]; omega
theorem deep_le : ∀ k : Kd, k.deep ≤ k.leaves
  | b _ => Nat.le_refl _
  | u => Nat.le_refl _
  | p x y => by have := deep_le x; have := deep_le y; have := leaves_pos x; have := leaves_pos y; simp only [leaves, deep]; omega
  | f x y => by have := deep_le x; have := deep_le y; have := leaves_pos x; have := leaves_pos y; simp only [leaves, deep]; omega
theorem dat_depth : ∀ k : Kd, k.dat.depth = k.deep
  | b _ => by simp [dat, deep, PyData.depth, PyData.depthAll]
  | u => by simp [dat, deep, PyData.depth, PyData.depthAll]
  | p x y => by have := dat_depth x; have := dat_depth y; simp only [dat, deep, PyData.depth, PyData.depthAll]; omega
  | f x y => by have := dat_depth x; have := dat_depth y; simp only [dat, deep, PyData.depth, PyData.depthAll]; omega
theorem dat_lay : ∀ k : Kd, k.dat.canLay0 = true
  | b _ => by simp [dat, PyData.canLay0, PyData.canLayAll0]; decide +kernel
  | u => by simp [dat, PyData.canLay0, PyData.canLayAll0]; decide +kernel
  | p x y => by simp [dat, PyData.canLay0, PyData.canLayAll0, dat_lay x, dat_lay y]; decide +kernel
  | f x y => by simp [dat, PyData.canLay0, PyData.canLayAll0, dat_lay x, dat_lay y]; decide +kernel
end Kd

/-! ## any thing: data, empty dicts among them -/
mutual
inductive Dq (K : PySem.W.Frag) (H : Hp) : V → PyData → Prop
  | non : Dq K H .non .none
  | bl (b : Bool) : Dq K H (.bl b) (.bool b)
  | int (i : Int) : Dq K H (.int i) (.int i)
  | str (x : Str) : Dq K H (.str x) (.str x)
  | lst {a : Addr} {xs : List V} {ds : List PyData} : SqL K H a xs → DqAll K H xs ds → Dq K H (.ref a) (.list ds)
  | tup {a : Addr} {xs : List V} {ds : List PyData} : SqT K H a xs → DqAll K H xs ds → Dq K H (.ref a) (.tuple ds)
  | dct {a : Addr} : H a = some (.dK []) → Dq K H (.ref a) (.dict [])
inductive DqAll (K : PySem.W.Frag) (H : Hp) : List V → List PyData → Prop
  | nil : DqAll K H [] []
  | cons {v : V} {vs : List V} {d : PyData} {ds : List PyData} : Dq K H v d → DqAll K H vs ds → DqAll K H (v :: vs) (d :: ds)
end
mutual
theorem Dq.same {K : PySem.W.Frag} {H H' : Hp} (s : Same H H') : ∀ {d : PyData} {v : V}, Dq K H v d → Dq K H' v d
  | _, _, .non => .non
  | _, _, .bl b => .bl b
  | _, _, .int i => .int i
  | _, _, .str x => .str x
  | _, _, .lst h a => .lst (L2.Same.seq s h) (DqAll.same s a)
  | _, _, .tup h a => .tup (Same.tup s h) (DqAll.same s a)
  | _, _, .dct h => .dct (s _ _ h)
theorem DqAll.same {K : PySem.W.Frag} {H H' : Hp} (s : Same H H') : ∀ {ds : List PyData} {vs : List V}, DqAll K H vs ds → DqAll K H' vs ds
  | _, _, .nil => .nil
  | _, _, .cons h a => .cons (Dq.same s h) (DqAll.same s a)
end
mutual
theorem Dq.dp {K : PySem.W.Frag} {H : Hp} : ∀ {d : PyData} {v : V}, d.canLay0 = true → Dq K H v d → Dp K H v d
  | _, _, _, .non => .non
  | _, _, _, .bl b => .bl b
  | _, _, _, .int i => .int i
  | _, _, _, .str x => .str x
  | _, _, c, .lst h a => .lst h (DqAll.dp (by simpa [PyData.canLay0] using c) a)
  | _, _, c, .tup h a => .tup h (DqAll.dp (by simpa [PyData.canLay0] using c) a)
  | _, _, c, .dct _ => by simp [PyData.canLay0] at c
theorem DqAll.dp {K : PySem.W.Frag} {H : Hp} : ∀ {ds : List PyData} {vs : List V}, PyData.canLayAll0 ds = true → DqAll K H vs ds → DpAll K H vs ds
  | _, _, _, .nil => .nil
  | d :: ds, _, c, .cons h a => by
    have c' : d.canLay0 = true ∧ PyData.canLayAll0 ds = true := by simpa [PyData.canLayAll0] using c
    exact .cons (Dq.dp c'.1 h) (DqAll.dp c'.2 a)
end
mutual
theorem Dq.of {K : PySem.W.Frag} {H : Hp} : ∀ {d : PyData} {v : V}, Dp K H v d → Dq K H v d
  | _, _, .non => .non
  | _, _, .bl b => .bl b
  | _, _, .int i => .int i
  | _, _, .str x => .str x
  | _, _, .lst h a => .lst h (DqAll.of a)
  | _, _, .tup h a => .tup h (DqAll.of a)
theorem DqAll.of {K : PySem.W.Frag} {H : Hp} : ∀ {ds : List PyData} {vs : List V}, DpAll K H vs ds → DqAll K H vs ds
  | _, _, .nil => .nil
  | _, _, .cons h a => .cons (Dq.of h) (DqAll.of a)
end
theorem DqAll.length {K : PySem.W.Frag} {H : Hp} : ∀ {ds : List PyData} {vs : List V}, DqAll K H vs ds → vs.length = ds.length
  | _, _, .nil => rfl
  | _, _, .cons _ a => congrArg (· + 1) (DqAll.length a)
theorem DqAll.append {K : PySem.W.Frag} {H : Hp} : ∀ {ds es : List PyData} {vs us : List V}, DqAll K H vs ds → DqAll K H us es → DqAll K H (vs ++ us) (ds ++ es)
  | _, _, _, _, .nil, b => b
  | _, _, _, _, .cons h a, b => .cons h (DqAll.append a b)
/-- the last one -/
theorem DqAll.last {K : PySem.W.Frag} {H : Hp} : ∀ {ds : List PyData} {d : PyData} {vs : List V}, DqAll K H vs (ds ++ [d]) → ∃ us v, vs = us ++ [v] ∧ DqAll K H us ds ∧ Dq K H v d
  | [], _, _, .cons h .nil => ⟨[], _, rfl, .nil, h⟩
  | _ :: ds, d, _, .cons h a => by
    obtain ⟨us, v, rfl, b, c⟩ := DqAll.last (ds := ds) a
    exact ⟨_ :: us, v, rfl, .cons h b, c⟩
def tyN : PyData → String
  | .none => "NoneType" | .bool _ => "bool" | .int _ => "int" | .str _ => "str" | .list _ => "list" | .tuple _ => "tuple" | .dict _ => "dict"
theorem Dq.ty {K : PySem.W.Frag} {H : Hp} {v : V} {d : PyData} (h : Dq K H v d) : TyB K H v (tyN d) := by
  cases h with
  | non => exact .non
  | bl b => exact .bl b
  | int i => exact .int i
  | str x => exact .str x
  | lst s _ => exact .lst s
  | tup s _ => exact .tup s
  | dct e => exact .dK e

/-! ## sizes -/
mutual
def sz : PyData → Nat
  | .list xs => 1 + szs xs
  | .tuple xs => 1 + szs xs
  | .none => 1 | .bool _ => 1 | .int _ => 1 | .str _ => 1 | .dict _ => 1
def szs : List PyData → Nat
  | [] => 0
  | x :: xs => sz x + szs xs
end
theorem szs_append : ∀ xs ys : List PyData, szs (xs ++ ys) = szs xs + szs ys
  | [], ys => by simp [szs]
  | x :: xs, ys => by simp only [List.cons_append, szs, szs_append xs ys]; omega
theorem sz_pos : ∀ d : PyData, 1 ≤ sz d
  | .list xs => by simp only [sz]; omega
  | .tuple xs => by simp only [sz]; omega
  | .none => by simp [sz]
  | .bool _ => by simp [sz]
  | .int _ => by simp [sz]
  | .str _ => by simp [sz]
  | .dict _ => by simp [sz]
theorem len_szs : ∀ ds : List PyData, ds.length ≤ szs ds
  | [] => Nat.zero_le _
  | d :: ds => by have := sz_pos d; have := len_szs ds; simp only [szs, List.length_cons]; omega
theorem Kd.sz_dat : ∀ k : Kd, sz k.dat ≤ 6 * k.leaves - 3
  | .b _ => by simp [Kd.dat, sz, szs, Kd.leaves]
  | .u => by simp [Kd.dat, sz, szs, Kd.leaves]
  | .p x y => by have := sz_dat x; have := sz_dat y; have := Kd.leaves_pos x; have := Kd.leaves_pos y; simp only [Kd.dat, sz, szs, Kd.leaves]; omega
  | .f x y => by have := sz_dat x; have := sz_dat y; have := Kd.leaves_pos x; have := Kd.leaves_pos y; simp only [Kd.dat, sz, szs, Kd.leaves]; omega
theorem fits {n : Nat} (h : n ≤ 10000000) : n ≤ sizeLine := Nat.le_trans h (by decide)
theorem fits_lt {n : Nat} (h : n ≤ 10000000) : n < sizeLine := Nat.lt_of_le_of_lt h (by decide)
theorem dl_append {α : Type} (xs : List α) (x : α) : (xs ++ [x]).dropLast = xs := by simp
theorem last_at {α : Type} (xs : List α) (x : α) : (xs ++ [x])[(xs ++ [x]).length - 1]? = some x := by simp
theorem cut1 (xs : List V) (x : V) : cutV (x :: xs) (some 1) none = xs := by
  have e : HT.sIx (x :: xs).length 0 (some 1) = 1 := by
    have := HT.sIx_nat (x :: xs).length 0 1
    rw [List.length_cons] at this ⊢
    exact this.trans (by omega)
  unfold cutV
  rw [e]
  show (List.drop 1 (x :: xs)).take ((x :: xs).length - 1) = xs
  simp
theorem cut1_not (xs : List V) (x : V) : ¬ (HT.sIx (x :: xs).length 0 (some 1) = 0 ∧ HT.sIx (x :: xs).length (x :: xs).length none = (x :: xs).length) := by
  have e : HT.sIx (x :: xs).length 0 (some 1) = 1 := by
    have := HT.sIx_nat (x :: xs).length 0 1
    rw [List.length_cons] at this ⊢
    exact this.trans (by omega)
  rw [e]; intro h; exact absurd h.1 (by decide)

/-! ## what a kind is -/
def isBn : PyData → Bool
  | .int n => decide (0 ≤ n) && decide (n < 8)
  | _ => false
/-- a kind, if what it is made of are such -/
def shp : PyData → Bool
  | .tuple (.str w :: r) =>
    if w = "base" then (match r with | [x] => isBn x | _ => false)
    else if w = "unit" then r.isEmpty
    else (decide (w = "both") || decide (w = "from")) && r.length == 2
  | _ => false
def isKd : PyData → Bool
  | .tuple [.str w] => decide (w = "unit")
  | .tuple [.str w, x] => decide (w = "base") && isBn x
  | .tuple [.str w, x, y] => (decide (w = "both") || decide (w = "from")) && (isKd x && isKd y)
  | _ => false
theorem isKd_dat : ∀ k : Kd, k.ok → isKd k.dat = true
  | .b n, h => by
    have h' : n < 8 := h
    simp only [Kd.dat, isKd, isBn]
    rw [decide_eq_true (by omega : (0 : Int) ≤ (n : Int)), decide_eq_true (by omega : (n : Int) < 8)]; decide
  | .u, _ => by decide
  | .p x y, h => by simp only [Kd.dat, isKd, isKd_dat x h.1, isKd_dat y h.2]; decide
  | .f x y, h => by simp only [Kd.dat, isKd, isKd_dat x h.1, isKd_dat y h.2]; decide
theorem kd_of : ∀ d : PyData, isKd d = true → ∃ k : Kd, k.ok ∧ d = k.dat
  | .tuple [.str w], h => by
    simp only [isKd, decide_eq_true_eq] at h
    exact ⟨.u, trivial, by rw [h]; rfl⟩
  | .tuple [.str w, x], h => by
    simp only [isKd, Bool.and_eq_true, decide_eq_true_eq] at h
    obtain ⟨h1, h2⟩ := h
    cases x <;> simp only [isBn, Bool.and_eq_true, decide_eq_true_eq] at h2 <;> try cases h2
    rename_i n a b
    refine ⟨.b n.toNat, by show n.toNat < 8; omega, ?_⟩
    have e : ((n.toNat : Nat) : Int) = n := by omega
    simp only [Kd.dat, e, h1]
  | .tuple [.str w, x, y], h => by
    simp only [isKd, Bool.and_eq_true, Bool.or_eq_true, decide_eq_true_eq] at h
    obtain ⟨h1, h2, h3⟩ := h
    obtain ⟨kx, ox, ex⟩ := kd_of x h2
    obtain ⟨ky, oy, ey⟩ := kd_of y h3
    rcases h1 with h1 | h1
    · exact ⟨.p kx ky, ⟨ox, oy⟩, by rw [h1, ex, ey]; rfl⟩
    · exact ⟨.f kx ky, ⟨ox, oy⟩, by rw [h1, ex, ey]; rfl⟩
  | .none, h => by simp [isKd] at h
  | .bool _, h => by simp [isKd] at h
  | .int _, h => by simp [isKd] at h
  | .str _, h => by simp [isKd] at h
  | .list _, h => by simp [isKd] at h
  | .dict _, h => by simp [isKd] at h
  | .tuple [], h => by simp [isKd] at h
  | .tuple (.none :: _), h => by simp [isKd] at h
  | .tuple (.bool _ :: _), h => by simp [isKd] at h
  | .tuple (.int _ :: _), h => by simp [isKd] at h
  | .tuple (.list _ :: _), h => by simp [isKd] at h
  | .tuple (.tuple _ :: _), h => by simp [isKd] at h
  | .tuple (.dict _ :: _), h => by simp [isKd] at h
  | .tuple (.str _ :: _ :: _ :: _ :: _), h => by simp [isKd] at h
def kids : PyData → List PyData
  | .tuple (.str w :: r) => if w = "both" ∨ w = "from" then r else []
  | _ => []
theorem kids_sz : ∀ d : PyData, szs (kids d) < sz d
  | .none => by simp [kids, sz, szs]
  | .bool _ => by simp [kids, sz, szs]
  | .int _ => by simp [kids, sz, szs]
  | .str _ => by simp [kids, sz, szs]
  | .list _ => by simp only [kids, sz, szs]; omega
  | .dict _ => by simp [kids, sz, szs]
  | .tuple [] => by simp [kids, sz, szs]
  | .tuple (.none :: _) => by simp only [kids, sz, szs]; omega
  | .tuple (.bool _ :: _) => by simp only [kids, sz, szs]; omega
  | .tuple (.int _ :: _) => by simp only [kids, sz, szs]; omega
  | .tuple (.list _ :: _) => by simp only [kids, sz, szs]; omega
  | .tuple (.tuple _ :: _) => by simp only [kids, sz, szs]; omega
  | .tuple (.dict _ :: _) => by simp only [kids, sz, szs]; omega
  | .tuple (.str w :: r) => by
    simp only [kids]
    split
    · simp only [sz, szs]; omega
    · simp only [sz, szs]; omega
/-- a thing that has a kind's shape -/
theorem shp_is : ∀ d : PyData, shp d = true → ∃ w r, d = .tuple (.str w :: r)
  | .tuple (.str w :: r), _ => ⟨w, r, rfl⟩
  | .tuple [], h => by simp [shp] at h
  | .tuple (.none :: _), h => by simp [shp] at h
  | .tuple (.bool _ :: _), h => by simp [shp] at h
  | .tuple (.int _ :: _), h => by simp [shp] at h
  | .tuple (.list _ :: _), h => by simp [shp] at h
  | .tuple (.tuple _ :: _), h => by simp [shp] at h
  | .tuple (.dict _ :: _), h => by simp [shp] at h
  | .none, h => by simp [shp] at h
  | .bool _, h => by simp [shp] at h
  | .int _, h => by simp [shp] at h
  | .str _, h => by simp [shp] at h
  | .list _, h => by simp [shp] at h
  | .dict _, h => by simp [shp] at h
theorem unit_ne_base : ¬ (("unit" : Str) = "base") := by decide
/-- one turn of a walk that takes a thing apart -/
theorem isKd_turn : ∀ d : PyData, isKd d = (shp d && (kids d).all isKd)
  | .none => rfl
  | .bool _ => rfl
  | .int _ => rfl
  | .str _ => rfl
  | .list _ => rfl
  | .dict _ => rfl
  | .tuple [] => by simp [isKd, shp]
  | .tuple (.none :: _) => by simp [isKd, shp]
  | .tuple (.bool _ :: _) => by simp [isKd, shp]
  | .tuple (.int _ :: _) => by simp [isKd, shp]
  | .tuple (.list _ :: _) => by simp [isKd, shp]
  | .tuple (.tuple _ :: _) => by simp [isKd, shp]
  | .tuple (.dict _ :: _) => by simp [isKd, shp]
  | .tuple [.str w] => by
    by_cases h : w = "base"
    · subst h; decide
    · by_cases h2 : w = "unit"
      · subst h2; decide
      · simp [isKd, shp, h, h2]
  | .tuple [.str w, x] => by
    by_cases h : w = "base"
    · subst h
      have e : kids (.tuple [.str "base", x]) = [] := by simp only [kids]; exact if_neg (by decide)
      rw [e]; simp [isKd, shp]
    · by_cases h2 : w = "unit"
      · subst h2; simp [isKd, shp, unit_ne_base]
      · simp [isKd, shp, h, h2]
  | .tuple [.str w, x, y] => by
    by_cases h : w = "base"
    · subst h; simp [isKd, shp]; intro h3; rcases h3 with h3 | h3 <;> exact absurd h3 (by decide)
    · by_cases h2 : w = "unit"
      · subst h2; simp [isKd, shp, unit_ne_base]; intro h3; rcases h3 with h3 | h3 <;> exact absurd h3 (by decide)
      · by_cases h3 : w = "both" ∨ w = "from"
        · simp [isKd, shp, h, h2, kids, h3]
        · have h4 : ¬ w = "both" := fun e => h3 (.inl e)
          have h5 : ¬ w = "from" := fun e => h3 (.inr e)
          simp [isKd, shp, h, h2, h4, h5]
  | .tuple (.str w :: x :: y :: z :: r) => by
    by_cases h : w = "base"
    · subst h; simp [isKd, shp]
    · by_cases h2 : w = "unit"
      · subst h2; simp [isKd, shp, unit_ne_base]
      · simp [isKd, shp, h, h2]
end KB
namespace KB
theorem iteT' {c : Bool} {A B : Prop} (e : c = true) (h : A) : if c = true then A else B := by rw [if_pos e]; exact h
theorem iteF' {c : Bool} {A B : Prop} (e : c = false) (h : B) : if c = true then A else B := by rw [e]; exact L2.iteF h
end KB
namespace KB
open L2
theorem at0 {α : Type} (x : α) (xs : List α) : atI (x :: xs) 0 = some x := atI_nat (j := 0) rfl
theorem at1 {α : Type} (x y : α) (xs : List α) : atI (x :: y :: xs) 1 = some y := atI_nat (j := 1) rfl
theorem at2 {α : Type} (x y z : α) (xs : List α) : atI (x :: y :: z :: xs) 2 = some z := atI_nat (j := 2) rfl
theorem qbl {Q : VK} {H : Hp} {a b : Bool} (q : Q (.bl a) H) (e : a = b) : Q (.bl b) H := e ▸ q
theorem len_cons_int {α : Type} (x : α) (xs : List α) : (((x :: xs).length : Nat) : Int) = (xs.length : Int) + 1 := by rw [List.length_cons]; omega
end KB
namespace KB
open PySem L2
theorem same_keepO' {H : Hp} {l : Addr} (hl : H l = none) {o : HO} : Same H (out l (upd H l o)) := fun b u e => by
  have n := ne_of_none e hl
  rw [out_ne n, upd_ne n]; exact e
theorem same_keep {H H' : Hp} {l : Addr} (hl : H l = none) (s : Same H (out l H')) (o : HO) : Same H (upd H' l o) := fun b u e => by
  have n := ne_of_none e hl
  rw [upd_ne n]; exact (out_some (s b u e)).2
theorem same_keepO {H H' : Hp} {l : Addr} (s : Same H (out l H')) (o : HO) : Same H (out l (upd H' l o)) := fun b u e => by
  obtain ⟨n, h⟩ := out_some (s b u e)
  rw [out_ne n, upd_ne n]; exact h
theorem out_upd {H : Hp} {l : Addr} {o : HO} : Same (out l H) (upd H l o) := fun b u e => by
  obtain ⟨n, h⟩ := out_some e
  rw [upd_ne n]; exact h
theorem of_out {H H' : Hp} {l : Addr} (s : Same H (out l H')) : Same H H' := fun b u e => (out_some (s b u e)).2
end KB

namespace KB
open PySem PySem.Spec PyProof.Rows L2

/-! ## texts of kinds, as lists of codes -/
def tx (l : List Nat) : Str := ⟨l.toArray⟩
theorem tx_tl (x : Str) : tx x.cps.toList = x := by cases x; simp [tx]
theorem tl_tx (l : List Nat) : (tx l).cps.toList = l := by simp [tx]
theorem tx_append (a b : List Nat) : tx a ++ tx b = tx (a ++ b) := Str.ext' (by rw [Str.cps_append]; simp [tx])
theorem tx_length (a : List Nat) : (tx a).length = a.length := by show a.toArray.size = _; simp
theorem tx_inj {a b : List Nat} (h : tx a = tx b) : a = b := by rw [← tl_tx a, h, tl_tx]
namespace Kd
def cod : Kd → List Nat
  | b n => [97 + n]
  | u => [49]
  | p x y => 40 :: (x.cod ++ 42 :: (y.cod ++ [41]))
  | f x y => 40 :: (x.cod ++ 62 :: (y.cod ++ [41]))
def txt (k : Kd) : Str := tx k.cod
theorem cod_length : ∀ k : Kd, k.cod.length + 3 ≤ 4 * k.leaves
  | b _ => by simp [cod, leaves]
  | u => by simp [cod, leaves]
  | p x y => by have := cod_length x; have := cod_length y; simp only [cod, leaves, List.length_cons, List.length_append, List.length_nil]; omega
  | f x y => by have := cod_length x; have := cod_length y; simp only [cod, leaves, List.length_cons, List.length_append, List.length_nil]; omega
theorem leaves_sz : ∀ k : Kd, k.leaves + 1 ≤ sz k.dat
  | b _ => by simp [dat, sz, szs, leaves]
  | u => by simp [dat, sz, szs, leaves]
  | p x y => by have := leaves_sz x; have := leaves_sz y; simp only [dat, sz, szs, leaves]; omega
  | f x y => by have := leaves_sz x; have := leaves_sz y; simp only [dat, sz, szs, leaves]; omega
/-- what a walk over the kind has to do -/
def wk : Kd → Nat
  | b _ => 1 | u => 1
  | p x y => x.wk + y.wk + 4
  | f x y => x.wk + y.wk + 4
theorem wk_le : ∀ k : Kd, k.wk + 4 ≤ 5 * k.leaves
  | b _ => by simp [wk, leaves]
  | u => by simp [wk, leaves]
  | p x y => by have := wk_le x; have := wk_le y; simp only [wk, leaves]; omega
  | f x y => by have := wk_le x; have := wk_le y; simp only [wk, leaves]; omega
theorem dat_inj : ∀ x y : Kd, x.dat = y.dat → x = y
  | b n, b m, h => by simp only [dat, PyData.tuple.injEq, List.cons.injEq, PyData.int.injEq] at h; have : n = m := by omega
                      rw [this]
  | u, u, _ => rfl
  | p x y, p x' y', h => by
    simp only [dat, PyData.tuple.injEq, List.cons.injEq, and_true, true_and] at h
    rw [dat_inj x x' h.1, dat_inj y y' h.2]
  | f x y, f x' y', h => by
    simp only [dat, PyData.tuple.injEq, List.cons.injEq, and_true, true_and] at h
    rw [dat_inj x x' h.1, dat_inj y y' h.2]
  | b _, u, h => by simp [dat] at h
  | b _, p _ _, h => by simp [dat] at h
  | b _, f _ _, h => by simp [dat] at h
  | u, b _, h => by simp [dat] at h
  | u, p _ _, h => by simp [dat] at h
  | u, f _ _, h => by simp [dat] at h
  | p _ _, b _, h => by simp [dat] at h
  | p _ _, u, h => by simp [dat] at h
  | f _ _, b _, h => by simp [dat] at h
  | f _ _, u, h => by simp [dat] at h
  | p _ _, f _ _, h => by
    simp only [dat, PyData.tuple.injEq, List.cons.injEq, PyData.str.injEq] at h
    exact absurd h.1 (by decide)
  | f _ _, p _ _, h => by
    simp only [dat, PyData.tuple.injEq, List.cons.injEq, PyData.str.injEq] at h
    exact absurd h.1 (by decide)
end Kd
theorem joinL_nil : ∀ ls : List (List Nat), TL.joinL [] ls = ls.flatten
  | [] => rfl
  | [p] => by simp [TL.joinL]
  | p :: q :: r => by simp only [TL.joinL, joinL_nil (q :: r), List.flatten_cons, List.nil_append]
theorem join_nil (ls : List (List Nat)) : Txt.join "" (ls.map tx) = tx ls.flatten := by
  rw [TL.join_eq, ← tx_tl (Str.join "" (ls.map tx))]
  have h := TL.tl_join "" (ls.map tx)
  have e : TL.tl ("" : Str) = [] := rfl
  rw [e, joinL_nil, List.map_map] at h
  have e2 : (TL.tl ∘ tx) = id := funext fun l => tl_tx l
  rw [e2, List.map_id] at h
  exact congrArg tx h
theorem join_size (ls : List (List Nat)) : ((ls.map tx).map (·.length)).sum = ls.flatten.length := by
  rw [List.map_map, List.length_flatten]
  exact congrArg List.sum (List.map_congr_left fun l _ => tx_length l)
/-- what a walk that writes a kind has on its stack -/
inductive Itm where
  | s (z : List Nat) | k (k : Kd)
namespace Itm
def dat : Itm → PyData
  | .s z => .str (tx z)
  | .k x => x.dat
def cod : Itm → List Nat
  | .s z => z
  | .k x => x.cod
def wk : Itm → Nat
  | .s _ => 1
  | .k x => x.wk
def ok : Itm → Prop
  | .s _ => True
  | .k x => x.ok
theorem wk_pos : ∀ i : Itm, 1 ≤ i.wk
  | .s _ => Nat.le_refl _
  | .k (.b _) => Nat.le_refl _
  | .k .u => Nat.le_refl _
  | .k (.p x y) => by simp only [wk, Kd.wk]; omega
  | .k (.f x y) => by simp only [wk, Kd.wk]; omega
end Itm
def wks (is : List Itm) : Nat := (is.map Itm.wk).sum
/-- the text of a stack, its last one first -/
def cods (is : List Itm) : List Nat := (is.reverse.map Itm.cod).flatten
theorem wks_append (a b : List Itm) : wks (a ++ b) = wks a + wks b := by simp [wks]
theorem cods_snoc (a : List Itm) (x : Itm) : cods (a ++ [x]) = x.cod ++ cods a := by simp [cods]
theorem cods_append (a b : List Itm) : cods (a ++ b) = cods b ++ cods a := by simp [cods]
theorem len_wks : ∀ is : List Itm, is.length ≤ wks is
  | [] => Nat.zero_le _
  | i :: r => by have := i.wk_pos; have := len_wks r; simp only [wks, List.map_cons, List.sum_cons, List.length_cons] at *; omega
end KB
namespace KB
open PySem L2
theorem Kd.ty (k : Kd) : tyN k.dat = "tuple" := by cases k <;> rfl
theorem same2 {H H' : Hp} {l p a : Addr} (h : Same H (out l (out p H'))) (o : HO) (e : a = l ∨ a = p) : Same H (out l (out p (upd H' a o))) := fun b u q => by
  obtain ⟨n1, h1⟩ := out_some (h b u q)
  obtain ⟨n2, h2⟩ := out_some h1
  rw [out_ne n1, out_ne n2, upd_ne (by rcases e with e | e <;> rw [e] <;> assumption)]
  exact h2
theorem same2_new {H H' : Hp} {l p a : Addr} (h : Same H (out l (out p H'))) (o : HO) (e : H' a = none) : Same H (out l (out p (upd H' a o))) := fun b u q => by
  obtain ⟨n1, h1⟩ := out_some (h b u q)
  obtain ⟨n2, h2⟩ := out_some h1
  rw [out_ne n1, out_ne n2, upd_ne (ne_of_none h2 e)]
  exact h2
theorem of_out2 {H H' : Hp} {l p : Addr} (s : Same H (out l (out p H'))) : Same H H' := fun b u e => (out_some (out_some (s b u e)).2).2
theorem out2_sub {H : Hp} {l p : Addr} : Same (out l (out p H)) H := of_out2 (Same.refl _)
theorem strs_map (ls : List (List Nat)) (z : List Nat) : ((ls.map tx).map V.str) ++ [V.str (tx z)] = ((ls ++ [z]).map tx).map V.str := by simp
end KB

namespace KB
open PySem PySem.Spec PyProof.Rows L2
/-! ## xs[lo:hi] = ys, the bounds of any sign -/
section
variable {prog : Program} {w : World} {A : Around} {E : Value → Shared → Prop} {s : Shared}
theorem store_cut {l b sl : Addr} {as bs : List Value} {n n2 : Nat} {vl vu : Value} {lo hi : Option Int} {Q : Unit → Shared → Prop}
    (el : s.heap.get? l = some { cls := .type "list", data := .seq as.toArray n }) (eb : s.heap.get? b = some { cls := .type "list", data := .seq bs.toArray n2 }) (nlb : l ≠ b)
    (is : s.heap.IsSliceOf sl vl vu .none) (pl : IsPart vl lo) (pu : IsPart vu hi) (ord : HT.sIx as.length 0 lo ≤ HT.sIx as.length as.length hi) (room : as.length + bs.length ≤ sizeLine)
    (k : Q () { s with heap := s.heap.update l (Obj.mapSeq fun xs => xs.extract 0 (HT.sIx as.length 0 lo) ++ bs.toArray ++ xs.extract (HT.sIx as.length as.length hi) xs.size) }) :
    wpAny (model prog w) A (setItem (.ref l) (.ref sl) (.ref b)) Q E s := by
  have Ll := (PySem.IsL.isList el).typeIs
  have Lb := (PySem.IsL.isList eb).typeIs
  have hle := HT.sIx_le as.length as.length (Nat.le_refl _) hi
  obtain ⟨o, io, ic, idt⟩ := id is
  have Ls : s.TypeIs (.ref sl) "slice" := ⟨o, io, ic⟩
  have apart : Builtin.List.listSameRef (.ref l) (.ref b) = false := beq_eq_false_iff_ne.mpr nlb
  have szA : as.toArray.size = as.length := by simp
  have szB : bs.toArray.size = bs.length := by simp
  obtain ⟨b1, b2, b3⟩ := slice_bounds lo hi as.length
  have bds : sliceBounds lo hi none as.toArray.size = (((HT.sIx as.length 0 lo : Nat) : Int), ((HT.sIx as.length as.length hi : Nat) : Int), 1) := by rw [szA]; exact Prod.ext b1 (Prod.ext b2 b3)
  generalize hp : HT.sIx as.length 0 lo = p at *
  generalize hq : HT.sIx as.length as.length hi = q at *
  have top : (max (p : Int) (q : Int)).toNat = q := by omega
  have room1 : as.toArray.size ≤ sizeLine := by omega
  have room2 : ((fun xs : Array Value => xs.extract 0 p ++ bs.toArray ++ xs.extract q xs.size) as.toArray).size ≤ sizeLine + 1 := by simp only [Array.size_append, Array.size_extract]; omega
  unfold setItem
  refine wpAny_holding (wpAny_bind (wpAny_sequenceKey Ll (by decide) (wpAny_bind (wpAny_callSpecial?_slot (name := Str.ofString "__setitem__") Ll slot_list_setitem (wpAny_call_entry slot_list_setitem Ll entry_list_setitem ?_ (args_list_setitem _ _ _))))))
  -- the key is a slice: no index of its own
  show wpAny _ _ (Builtin.List.listSubscript? (.ref sl) >>= _) _ _ s
  unfold Builtin.List.listSubscript?
  refine wpAny_bind (wpAny_bind (wpAny_specialOf Ls slice_no_index ?_))
  rw [Option.isNone_none, if_pos rfl]
  refine wpAny_pure ?_
  show wpAny _ _ (typeOf (.ref sl) >>= _) _ _ s
  refine wpAny_bind (wpAny_typeOf Ls (PySem.W.KFB.if_not (by decide) ?_))
  rw [listSliceParts_eq]
  refine wpAny_bind (wpAny_bind (wpAny_field io idt (x := .none) rfl (wpAny_bind (wpAny_listPart .none (PySem.W.KFB.if_not (by decide) ?_)))))
  refine wpAny_bind (wpAny_field io idt (x := vl) rfl (wpAny_bind (wpAny_listPart pl (wpAny_bind (wpAny_field io idt (x := vu) rfl (wpAny_bind (wpAny_listPart pu (wpAny_pure ?_))))))))
  refine PySem.W.KFB.if_not apart (wpAny_bind (m := Builtin.List.listAllItems (.ref b) "must assign iterable to extended slice") ?_)
  unfold Builtin.List.listAllItems
  refine wpAny_bind (wpAny_typeOf Lb (PySem.W.KFB.if_so (by decide) ?_))
  unfold Builtin.List.listItems
  refine wpAny_bind (wpAny_seqItems eb rfl (wpAny_pure (wpAny_bind (wpAny_bind (wpAny_seqItems el rfl (wpAny_pure ?_))))))
  refine wpAny_bind (wpAny_of_eq ((sliceIndices_raw lo hi none as.toArray.size (by simp)).trans (congrArg pure bds)) ?_)
  show wpAny _ _ (if ((1 : Int) == 1) = true then _ else _) _ _ s
  refine PySem.W.KFB.if_so (by decide) (wpAny_bind (wpAny_rule (PySem.W.KFB.if_not (notLongL (by omega)) ?_)))
  show wpAny _ _ (updateSeq l (fun xs => xs.extract 0 ((p : Int)).toNat ++ bs.toArray ++ xs.extract (max (p : Int) (q : Int)).toNat xs.size) >>= _) _ _ s
  rw [top, Int.toNat_natCast]
  refine wpAny_bind (wpAny_updateSeq (hz := room1) (_hz' := room2) el rfl (wpAny_bind (wpAny_letGo ?_)))
  exact wpAny_pure ⟨.none, rfl, wpAny_pure k⟩
end
section
variable {X : Cx}
/-- xs[lo:hi] = ys -/
def gCut (to : TE) (tl th : TO) : TG := fun v σ H Q => to σ H fun o H1 => tl σ H1 fun lo H2 => th σ H2 fun hi H3 => ∃ l b xs ys, o = .ref l ∧ v = .ref b ∧ H3 l = some (.lst xs) ∧ H3 b = some (.lst ys) ∧ l ≠ b ∧
  HT.sIx xs.length 0 lo ≤ HT.sIx xs.length xs.length hi ∧ xs.length + ys.length ≤ sizeLine ∧ Q σ (upd H3 l (.lst (xs.take (HT.sIx xs.length 0 lo) ++ ys ++ xs.drop (HT.sIx xs.length xs.length hi))))
theorem pg_cut {e : Expr} {lo hi : Option Expr} {te : TE} {tl th : TO} {pos p2 : Pos} (he : PE X e te) (hl : PO X lo tl) (hh : PO X hi th) : PG X (.Subscript e (.Slice lo hi none p2) pos) (gCut te tl th) := by
  refine ⟨fun pins s σ H v u Q I r h => ?_⟩
  rw [arm_assign_Subscript]
  refine wpAny_bind (wpAny_holding (thn (he.run pins s σ H _ I h) fun ov s1 ⟨x, H1, I1, r1, q1⟩ => wpAny_bind (wpAny_holding ?_)))
  refine wpAny_Slice (thn (hl.run pins s1 σ H1 _ I1 q1) fun vl s2 ⟨l0, H2, I2, pl, q2⟩ => thn (hh.run pins s2 σ H2 _ I2 q2) fun vu s3 ⟨h0, H3, I3, pu, q3⟩ => ?_)
  rw [evalPart_none]
  refine wpAny_pure ?_
  obtain ⟨l, b, xs, ys, rfl, rfl, hL, hB, nlb, ord, room, q⟩ := q3
  cases r1
  cases r
  have I4 : Inv X pins σ H3 { s3 with heap := s3.heap.push { cls := .type "slice", data := .fields #[vl, vu, .none] } } := I3.kept (t' := s3.toks) fun c o z => Heap.get?_push_of_some _ z
  obtain ⟨_, as, n, ra, la, ea⟩ := I4.lstM hL
  obtain ⟨_, bs, n2, rb, lb, eb⟩ := I4.lstM hB
  refine wpAny_bind (wpAny_standAt (wpAny_bind (wpAny_holding (store_cut ea eb nlb (Heap.IsSliceOf.new ..) pl pu (by rw [← la]; exact ord) (by omega) (wpAny_release ?_)))))
  refine ⟨σ, _, I4.lset (its' := as.take (HT.sIx as.length 0 l0) ++ bs ++ as.drop (HT.sIx as.length as.length h0)) (t' := s3.toks) hL ea ?_ (Vals.append (Vals.append (ra.take _) rb) (ra.drop _)) ?_, ?_⟩
  · exact splice_eq as bs _ _
  · have := HT.sIx_le as.length as.length (Nat.le_refl _) h0
    have o2 := ord
    rw [la] at o2
    have l2 := rb.length
    rw [List.length_append, List.length_append, List.length_take, List.length_drop]; omega
  · rw [← la]; exact q
end

/-! ## reading a kind, sign by sign -/
inductive Pt where
  | s (c : Nat) | k (x : Kd)
def Pt.dat : Pt → PyData
  | .s c => .str (tx [c])
  | .k x => x.dat
def Pt.ok : Pt → Prop
  | .s _ => True
  | .k x => x.ok
/-- a sign alone -/
def rs (c : Nat) : Option Pt :=
  if c = 49 then some (.k .u) else if 97 ≤ c ∧ c < 105 then some (.k (.b (c - 97))) else if c = 40 ∨ c = 42 ∨ c = 62 then some (.s c) else none
/-- a brace is closed; the top of the stack first -/
def clo : List Pt → Option (List Pt)
  | .k y :: .s c :: .k x :: .s b :: r => if b = 40 then (if c = 42 then some (.k (.p x y) :: r) else if c = 62 then some (.k (.f x y) :: r) else none) else none
  | _ => none
def rdR : List Nat → List Pt → Option (List Pt)
  | [], st => some st
  | c :: cs, st => if c = 41 then (match clo st with | none => none | some st' => rdR cs st') else (match rs c with | none => none | some p => rdR cs (p :: st))
def rdE : List Pt → Option Kd
  | [.k x] => some x
  | _ => none
def rdK (cs : List Nat) : Option Kd := (rdR cs []).bind rdE
theorem rs_ok {c : Nat} {p : Pt} (h : rs c = some p) : p.ok := by
  unfold rs at h
  split at h
  · cases h; trivial
  · split at h
    · cases h; rename_i h2; show c - 97 < 8; omega
    · split at h
      · cases h; trivial
      · cases h
theorem clo_is {st st' : List Pt} (h : clo st = some st') : ∃ x y c r, st = .k y :: .s c :: .k x :: .s 40 :: r ∧ ((c = 42 ∧ st' = .k (.p x y) :: r) ∨ (c = 62 ∧ st' = .k (.f x y) :: r)) := by
  unfold clo at h
  split at h
  · rename_i y c x b r
    split at h
    · rename_i hb
      subst hb
      split at h
      · rename_i hc; cases h; exact ⟨x, y, c, r, rfl, .inl ⟨hc, rfl⟩⟩
      · split at h
        · rename_i hc; cases h; exact ⟨x, y, c, r, rfl, .inr ⟨hc, rfl⟩⟩
        · cases h
    · cases h
  · cases h
theorem clo_ok {st st' : List Pt} (h : clo st = some st') (hs : ∀ p ∈ st, p.ok) : (∀ p ∈ st', p.ok) ∧ st'.length ≤ st.length := by
  obtain ⟨x, y, c, r, rfl, h2⟩ := clo_is h
  have hx : x.ok := hs (.k x) (by simp)
  have hy : y.ok := hs (.k y) (by simp)
  have hr : ∀ p ∈ r, p.ok := fun p hp => hs p (by simp [hp])
  rcases h2 with ⟨_, rfl⟩ | ⟨_, rfl⟩
  · exact ⟨fun p hp => (List.mem_cons.mp hp).elim (fun e => by rw [e]; exact ⟨hx, hy⟩) (hr p), by simp only [List.length_cons]; omega⟩
  · exact ⟨fun p hp => (List.mem_cons.mp hp).elim (fun e => by rw [e]; exact ⟨hx, hy⟩) (hr p), by simp only [List.length_cons]; omega⟩
/-- reading a kind's text puts the kind on the stack -/
theorem rdR_cod : ∀ (k : Kd) (cs : List Nat) (st : List Pt), k.ok → rdR (k.cod ++ cs) st = rdR cs (.k k :: st)
  | .b n, cs, st, h => by
    have h' : n < 8 := h
    show (if 97 + n = 41 then _ else _) = _
    rw [if_neg (by omega)]
    have e : rs (97 + n) = some (.k (.b n)) := by
      unfold rs
      rw [if_neg (by omega), if_pos (by omega)]
      congr 3; omega
    rw [e]; rfl
  | .u, cs, st, _ => rfl
  | .p x y, cs, st, h => by
    show rdR (x.cod ++ 42 :: (y.cod ++ [41]) ++ cs) (.s 40 :: st) = _
    rw [List.append_assoc, rdR_cod x _ _ h.1]
    show rdR (y.cod ++ [41] ++ cs) (.s 42 :: .k x :: .s 40 :: st) = _
    rw [List.append_assoc, rdR_cod y _ _ h.2]; rfl
  | .f x y, cs, st, h => by
    show rdR (x.cod ++ 62 :: (y.cod ++ [41]) ++ cs) (.s 40 :: st) = _
    rw [List.append_assoc, rdR_cod x _ _ h.1]
    show rdR (y.cod ++ [41] ++ cs) (.s 62 :: .k x :: .s 40 :: st) = _
    rw [List.append_assoc, rdR_cod y _ _ h.2]; rfl
theorem rdK_cod (k : Kd) (h : k.ok) : rdK k.cod = some k := by
  have e := rdR_cod k [] [] h
  rw [List.append_nil] at e
  show (rdR k.cod []).bind rdE = some k
  rw [e]; rfl
/-- a stack that reads back to the signs that were taken -/
def Pt.cod : Pt → List Nat
  | .s c => [c]
  | .k x => x.cod
def codR (st : List Pt) : List Nat := (st.reverse.map Pt.cod).flatten
theorem codR_cons (p : Pt) (st : List Pt) : codR (p :: st) = codR st ++ p.cod := by simp [codR]
theorem rs_cod {c : Nat} {p : Pt} (h : rs c = some p) : p.cod = [c] := by
  unfold rs at h
  split at h
  · rename_i h1; cases h; rw [h1]; rfl
  · split at h
    · cases h; rename_i h2; show [97 + (c - 97)] = [c]; congr 1; omega
    · split at h
      · cases h; rfl
      · cases h
theorem rdR_text : ∀ (cs : List Nat) (st st' : List Pt), rdR cs st = some st' → codR st ++ cs = codR st'
  | [], st, st', h => by cases h; simp
  | c :: cs, st, st', h => by
    unfold rdR at h
    split at h
    · rename_i hc
      split at h
      · cases h
      · rename_i st2 e
        rw [← rdR_text cs st2 st' h]
        obtain ⟨x, y, d, r, rfl, h2⟩ := clo_is e
        rcases h2 with ⟨rfl, rfl⟩ | ⟨rfl, rfl⟩ <;> simp [codR_cons, Pt.cod, Kd.cod, hc]
    · split at h
      · cases h
      · rename_i p e
        rw [← rdR_text cs (p :: st) st' h, codR_cons, rs_cod e]; simp
/-- what is read is written so -/
theorem rdK_text {cs : List Nat} {k : Kd} (h : rdK cs = some k) : k.cod = cs := by
  unfold rdK at h
  cases e : rdR cs [] with
  | none => rw [e] at h; cases h
  | some st =>
    rw [e] at h
    have h2 : rdE st = some k := h
    unfold rdE at h2
    split at h2
    · cases h2
      have := rdR_text cs [] _ e
      simpa [codR, Pt.cod] using this.symm
    · cases h2
theorem rdR_ok : ∀ (cs : List Nat) (st st' : List Pt), rdR cs st = some st' → (∀ p ∈ st, p.ok) → ∀ p ∈ st', p.ok
  | [], st, st', h, hs => by cases h; exact hs
  | c :: cs, st, st', h, hs => by
    unfold rdR at h
    split at h
    · split at h
      · cases h
      · rename_i st2 e
        exact rdR_ok cs st2 st' h (clo_ok e hs).1
    · split at h
      · cases h
      · rename_i p e
        exact rdR_ok cs (p :: st) st' h fun q hq => (List.mem_cons.mp hq).elim (fun z => by rw [z]; exact rs_ok e) (hs q)
theorem rdK_ok {cs : List Nat} {k : Kd} (h : rdK cs = some k) : k.ok := by
  unfold rdK at h
  cases e : rdR cs [] with
  | none => rw [e] at h; cases h
  | some st =>
    rw [e] at h
    have h2 : rdE st = some k := h
    unfold rdE at h2
    split at h2
    · cases h2
      exact rdR_ok cs [] _ e (fun _ z => nomatch z) (.k k) (by simp)
    · cases h2
end KB
namespace KB
open PySem L2
theorem DqAll.last4 {K : PySem.W.Frag} {H : Hp} {ds : List PyData} {a b c d : PyData} {vs : List V} (h : DqAll K H vs (ds ++ [a, b, c, d])) :
    ∃ us v1 v2 v3 v4, vs = us ++ [v1, v2, v3, v4] ∧ DqAll K H us ds ∧ Dq K H v1 a ∧ Dq K H v2 b ∧ Dq K H v3 c ∧ Dq K H v4 d := by
  have h' : DqAll K H vs (((ds ++ [a]) ++ [b]) ++ [c] ++ [d]) := by simpa using h
  obtain ⟨u4, v4, rfl, h3, r4⟩ := h'.last
  obtain ⟨u3, v3, rfl, h2, r3⟩ := h3.last
  obtain ⟨u2, v2, rfl, h1, r2⟩ := h2.last
  obtain ⟨u1, v1, rfl, h0, r1⟩ := h1.last
  exact ⟨u1, v1, v2, v3, v4, by simp, h0, r1, r2, r3, r4⟩
end KB
namespace KB
open PySem L2
theorem Kd.ne_str (k : Kd) (x : Str) : PyData.eqv k.dat (.str x) = false := by cases k <;> simp [Kd.dat, PyData.eqv]
theorem str_lay {x : Str} (h : PyData.strOk x = true) : (PyData.str x).canLay0 = true := by simpa [PyData.canLay0] using h
end KB
namespace KB
open PySem L2
theorem rdR_close (cs : List Nat) (st : List Pt) : rdR (41 :: cs) st = (clo st).bind (rdR cs) := by
  show (if 41 = 41 then _ else _) = _
  rw [if_pos rfl]; cases clo st <;> rfl
theorem rdR_sign {c : Nat} (h : ¬ c = 41) (cs : List Nat) (st : List Pt) : rdR (c :: cs) st = (rs c).bind fun p => rdR cs (p :: st) := by
  show (if c = 41 then _ else _) = _
  rw [if_neg h]; cases rs c <;> rfl
/-! ## data without lists and dicts don't lean on what may change -/
mutual
def pureT : PyData → Bool
  | .none => true | .bool _ => true | .int _ => true | .str _ => true
  | .tuple xs => pureTs xs
  | .list _ => false | .dict _ => false
def pureTs : List PyData → Bool
  | [] => true
  | x :: xs => pureT x && pureTs xs
end
theorem Kd.pure : ∀ k : Kd, pureT k.dat = true
  | .b _ => by simp [Kd.dat, pureT, pureTs]
  | .u => by simp [Kd.dat, pureT, pureTs]
  | .p x y => by simp [Kd.dat, pureT, pureTs, x.pure, y.pure]
  | .f x y => by simp [Kd.dat, pureT, pureTs, x.pure, y.pure]
theorem SqT.outp {K : PySem.W.Frag} {H : Hp} {l a : Addr} {us xs : List V} (e : H l = some (.lst us)) (h : SqT K H a xs) : SqT K (out l H) a xs := by
  rcases h with (h | ⟨o, h⟩) | h
  · exact .inl (.inl (out_at (fun z => by rw [z, e] at h; cases h) h))
  · exact .inl (.inr ⟨o, out_at (fun z => by rw [z, e] at h; cases h) h⟩)
  · exact .inr h
mutual
theorem Dq.outp {K : PySem.W.Frag} {H : Hp} {l : Addr} {us : List V} (e : H l = some (.lst us)) : ∀ {d : PyData} {v : V}, pureT d = true → Dq K H v d → Dq K (out l H) v d
  | _, _, _, .non => .non
  | _, _, _, .bl b => .bl b
  | _, _, _, .int i => .int i
  | _, _, _, .str x => .str x
  | _, _, h, .tup s a => .tup (SqT.outp e s) (DqAll.outp e (by simpa [pureT] using h) a)
  | _, _, h, .lst _ _ => by simp [pureT] at h
  | _, _, h, .dct _ => by simp [pureT] at h
theorem DqAll.outp {K : PySem.W.Frag} {H : Hp} {l : Addr} {us : List V} (e : H l = some (.lst us)) : ∀ {ds : List PyData} {vs : List V}, pureTs ds = true → DqAll K H vs ds → DqAll K (out l H) vs ds
  | _, _, _, .nil => .nil
  | d :: ds, _, h, .cons x a => by
    have h' : pureT d = true ∧ pureTs ds = true := by simpa [pureTs] using h
    exact .cons (Dq.outp e h'.1 x) (DqAll.outp e h'.2 a)
end
theorem Pt.pure (p : Pt) : pureT p.dat = true := by
  cases p with
  | s c => simp [Pt.dat, pureT]
  | k x => exact x.pure
end KB
namespace KB
open PySem L2
theorem cal_vac {P : Program} {w : World} {K : PySem.W.Frag} {mg : Str → Option Value} {base : Heap} {CX : CXT} {k : Nat} {x : Str} {ps : List Str} {sp : Sp} {st : Stmt} (A : At K mg x st) (hb : ∀ f fd, Fun K x x st f fd → Binds K fd ps [])
    (no : ∀ vs H Q E, ¬ sp vs H Q E) : Cal P w K mg base CX k x ps sp := by
  obtain ⟨f, fd, F, m⟩ := A
  exact ⟨f, fd, ⟨fun vs H Q E h => absurd h (no vs H Q E), fun A outer s H args us vs Q E _ _ _ _ h => absurd h (no vs H Q E)⟩, hb f fd F, F.kp, m⟩
end KB

namespace KB
open PySem PySem.Spec PyProof.Rows L2
/-! ## isinstance of data -/
theorem Dq.tyx {K : PySem.W.Frag} {H : Hp} {v : V} {d : PyData} (h : Dq K H v d) : TyX K H v (.type (tyN d)) := by
  cases h with
  | non => exact .base .non
  | bl b => exact .base (.bl b)
  | int i => exact .base (.int i)
  | str x => exact .base (.str x)
  | lst s _ =>
    rcases s with (s | ⟨o, s⟩) | ⟨o, its, n, hk, hc, _⟩
    · exact .base (.lst s)
    · exact .base (.frz s)
    · exact .kList hk hc
  | tup s _ =>
    rcases s with (s | ⟨o, s⟩) | ⟨o, its, n, hk, hc, _⟩
    · exact .base (.tup s)
    · exact .fTuple s
    · exact .kTuple hk hc
  | dct e => exact .base (.dK e)
def isiN (T S : String) : Bool := T == S || (T == "bool" && S == "int")
def okS (S : String) : Bool := ["int", "str", "bool", "tuple", "list", "dict"].contains S
theorem kit_n (d : PyData) {S : String} (h : okS S = true) : kitB (tyN d) S = some (isiN (tyN d) S) := by
  have h' : S ∈ ["int", "str", "bool", "tuple", "list", "dict"] := by simpa [okS] using h
  have all : ∀ T ∈ ["NoneType", "bool", "int", "str", "list", "tuple", "dict"], ∀ S ∈ ["int", "str", "bool", "tuple", "list", "dict"], kitB T S = some (isiN T S) := by decide +kernel
  refine all _ ?_ S h'
  cases d <;> simp [tyN]
def rIsiD (K : PySem.W.Frag) : List V → Hp → VK → Prop := fun xs H Q => ∃ (x : V) (S : String) (d : PyData), xs = [x, .ty S] ∧ Dq K H x d ∧ okS S = true ∧ Q (.bl (isiN (tyN d) S)) H
theorem call_isiD {X : Cx} : CallR X (.builtin "isinstance") (rIsiD X.K) := by
  intro pins s σ H xs us Q I r ⟨x, S, d, e, hd, hs, q⟩
  exact call_isi pins s σ H xs us Q I r ⟨x, .ty S, _, .type S, _, e, .ty S, hd.tyx, kit_ty (kit_n d hs), q⟩
/-! ## equality of kinds -/
mutual
theorem eqv_refl : ∀ d : PyData, d.canLay0 = true → PyData.eqv d d = true
  | .none, _ => by simp [PyData.eqv]
  | .bool _, _ => by simp [PyData.eqv]
  | .int _, _ => by simp [PyData.eqv]
  | .str _, _ => by simp [PyData.eqv]
  | .list xs, h => by simp only [PyData.eqv]; exact eqvs_refl xs (by simpa [PyData.canLay0] using h)
  | .tuple xs, h => by simp only [PyData.eqv]; exact eqvs_refl xs (by simpa [PyData.canLay0] using h)
  | .dict _, h => by simp [PyData.canLay0] at h
theorem eqvs_refl : ∀ ds : List PyData, PyData.canLayAll0 ds = true → PyData.eqvAll ds ds = true
  | [], _ => by simp [PyData.eqvAll]
  | d :: ds, h => by
    have h' : d.canLay0 = true ∧ PyData.canLayAll0 ds = true := by simpa [PyData.canLayAll0] using h
    simp [PyData.eqvAll, eqv_refl d h'.1, eqvs_refl ds h'.2]
end
theorem str_ne {x y : Str} (h : x ≠ y) : (x == y) = false := beq_eq_false_iff_ne.mpr h
theorem ev_tup (xs ys : List PyData) : PyData.eqv (.tuple xs) (.tuple ys) = PyData.eqvAll xs ys := by simp only [PyData.eqv]
theorem ev_lst (xs ys : List PyData) : PyData.eqv (.list xs) (.list ys) = PyData.eqvAll xs ys := by simp only [PyData.eqv]
theorem ev_str (x y : Str) : PyData.eqv (.str x) (.str y) = (x == y) := by simp only [PyData.eqv]
theorem ev_int (x y : Int) : PyData.eqv (.int x) (.int y) = (x == y) := by simp only [PyData.eqv]
theorem ev_cons (x y : PyData) (xs ys : List PyData) : PyData.eqvAll (x :: xs) (y :: ys) = (PyData.eqv x y && PyData.eqvAll xs ys) := by simp only [PyData.eqvAll]
theorem ev_nil : PyData.eqvAll [] [] = true := by simp only [PyData.eqvAll]
theorem ev_nilc (y : PyData) (ys : List PyData) : PyData.eqvAll [] (y :: ys) = false := by simp only [PyData.eqvAll]
theorem ev_cnil (y : PyData) (ys : List PyData) : PyData.eqvAll (y :: ys) [] = false := by simp only [PyData.eqvAll]
theorem Kd.eqv (x : Kd) : ∀ y : Kd, PyData.eqv x.dat y.dat = decide (x = y) := by
  have n1 := str_ne (show ("both" : Str) ≠ "from" by decide)
  have n2 := str_ne (show ("from" : Str) ≠ "both" by decide)
  induction x with
  | b n =>
    intro y
    cases y with
    | b m =>
      simp only [Kd.dat, ev_tup, ev_cons, ev_nil, ev_str, ev_int, beq_self_eq_true, Bool.true_and, Bool.and_true]
      by_cases h : n = m
      · subst h; simp
      · rw [decide_eq_false (by intro z; cases z; exact h rfl)]
        exact beq_eq_false_iff_ne.mpr (by omega)
    | u => simp [Kd.dat, ev_tup, ev_cons, ev_str, ev_nil, ev_nilc, ev_cnil]
    | p _ _ => simp [Kd.dat, ev_tup, ev_cons, ev_str, ev_nil, ev_nilc, ev_cnil]
    | f _ _ => simp [Kd.dat, ev_tup, ev_cons, ev_str, ev_nil, ev_nilc, ev_cnil]
  | u =>
    intro y
    cases y <;> simp [Kd.dat, ev_tup, ev_cons, ev_str, ev_nil, ev_nilc, ev_cnil]
  | p a1 b1 ih1 ih2 =>
    intro y
    cases y with
    | b _ => simp [Kd.dat, ev_tup, ev_cons, ev_str, ev_nil, ev_nilc, ev_cnil]
    | u => simp [Kd.dat, ev_tup, ev_cons, ev_str, ev_nil, ev_nilc, ev_cnil]
    | f _ _ => simp [Kd.dat, ev_tup, ev_cons, ev_str, n1]
    | p c1 d1 =>
      simp only [Kd.dat, ev_tup, ev_cons, ev_nil, ev_str, beq_self_eq_true, Bool.true_and, Bool.and_true, ih1, ih2]
      by_cases h : a1 = c1 <;> by_cases h2 : b1 = d1 <;> simp [h, h2]
  | f a1 b1 ih1 ih2 =>
    intro y
    cases y with
    | b _ => simp [Kd.dat, ev_tup, ev_cons, ev_str, ev_nil, ev_nilc, ev_cnil]
    | u => simp [Kd.dat, ev_tup, ev_cons, ev_str, ev_nil, ev_nilc, ev_cnil]
    | p _ _ => simp [Kd.dat, ev_tup, ev_cons, ev_str, n2]
    | f c1 d1 =>
      simp only [Kd.dat, ev_tup, ev_cons, ev_nil, ev_str, beq_self_eq_true, Bool.true_and, Bool.and_true, ih1, ih2]
      by_cases h : a1 = c1 <;> by_cases h2 : b1 = d1 <;> simp [h, h2]
theorem Kd.cod_inj {x y : Kd} (hx : x.ok) (hy : y.ok) (h : x.cod = y.cod) : x = y := by
  have := rdK_cod x hx
  rw [h, rdK_cod y hy] at this
  exact (Option.some.inj this).symm
theorem Kd.txt_inj {x y : Kd} (hx : x.ok) (hy : y.ok) (h : x.txt = y.txt) : x = y := Kd.cod_inj hx hy (tx_inj h)
end KB
namespace KB
open PySem L2
/-- a displayed dict of two texts, asked by one of them -/
theorem dget2 {H : Hp} {p : Addr} {a b : Str} {x y : V} (hab : a ≠ b) : DGet (upd H p (.dK (mergeK [] [(Sum.inr a, x), (Sum.inr b, y)]))) p (.str a) (some x) ∧ DGet (upd H p (.dK (mergeK [] [(Sum.inr a, x), (Sum.inr b, y)]))) p (.str b) (some y) := by
  have n1 : ¬ ((Sum.inr a : Key) = Sum.inr b) := fun z => hab (Sum.inr.inj z)
  have e : mergeK [] [(Sum.inr a, x), (Sum.inr b, y)] = [((Sum.inr a : Key), x), (Sum.inr b, y)] := by simp [mergeK, putK, n1]
  rw [e]
  have k1 := DGet.k (k := Sum.inr a) (upd_same (H := H) (a := p) (o := .dK [((Sum.inr a : Key), x), (Sum.inr b, y)]))
  have k2 := DGet.k (k := Sum.inr b) (upd_same (H := H) (a := p) (o := .dK [((Sum.inr a : Key), x), (Sum.inr b, y)]))
  have v1 : valV [((Sum.inr a : Key), x), (Sum.inr b, y)] (Sum.inr a) = some x := by simp [valV]
  have v2 : valV [((Sum.inr a : Key), x), (Sum.inr b, y)] (Sum.inr b) = some y := by simp [valV, n1]
  rw [v1] at k1
  rw [v2] at k2
  exact ⟨k1, k2⟩
end KB
namespace KB
open PySem L2
/-- pairs and functions, told as one -/
structure Mk2 (mk : Kd → Kd → Kd) (wd : Str) : Prop where
  dat : ∀ x y, (mk x y).dat = .tuple [.str wd, x.dat, y.dat]
  ok : ∀ x y, (mk x y).ok ↔ x.ok ∧ y.ok
  leaves : ∀ x y, (mk x y).leaves = x.leaves + y.leaves
  deep : ∀ x y, (mk x y).deep = 1 + max x.deep y.deep
  wd : wd = "both" ∨ wd = "from"
theorem mk_p : Mk2 Kd.p "both" := ⟨fun _ _ => rfl, fun _ _ => Iff.rfl, fun _ _ => rfl, fun _ _ => rfl, .inl rfl⟩
theorem mk_f : Mk2 Kd.f "from" := ⟨fun _ _ => rfl, fun _ _ => Iff.rfl, fun _ _ => rfl, fun _ _ => rfl, .inr rfl⟩
/-- a kind is a leaf, or made of two -/
theorem Kd.cases2 {K : PySem.W.Frag} {H : Hp} {v : V} (k : Kd) (hd : Dq K H v k.dat) :
    (∃ a xs, v = .ref a ∧ SqT K H a xs ∧ xs.length < 3 ∧ k.leaves = 1) ∨
    ∃ (mk mk2 : Kd → Kd → Kd) (wd od : Str) (x y : Kd) (a : Addr) (v1 v2 : V), k = mk x y ∧ Mk2 mk wd ∧ Mk2 mk2 od ∧ ((wd = "both" ∧ od = "from") ∨ (wd = "from" ∧ od = "both")) ∧ v = .ref a ∧ SqT K H a [.str wd, v1, v2] ∧ Dq K H v1 x.dat ∧ Dq K H v2 y.dat := by
  cases k with
  | b n =>
    cases hd with
    | tup hS hA => exact .inl ⟨_, _, rfl, hS, by rw [hA.length]; show 2 < 3; decide, rfl⟩
  | u =>
    cases hd with
    | tup hS hA => exact .inl ⟨_, _, rfl, hS, by rw [hA.length]; show 1 < 3; decide, rfl⟩
  | p x y =>
    cases hd with
    | tup hS hA =>
      cases hA with
      | cons h1 h2 =>
        cases h1
        cases h2 with
        | cons h3 h4 =>
          cases h4 with
          | cons h5 h6 =>
            cases h6
            exact .inr ⟨_, _, _, _, x, y, _, _, _, rfl, mk_p, mk_f, .inl ⟨rfl, rfl⟩, rfl, hS, h3, h5⟩
  | f x y =>
    cases hd with
    | tup hS hA =>
      cases hA with
      | cons h1 h2 =>
        cases h1
        cases h2 with
        | cons h3 h4 =>
          cases h4 with
          | cons h5 h6 =>
            cases h6
            exact .inr ⟨_, _, _, _, x, y, _, _, _, rfl, mk_f, mk_p, .inr ⟨rfl, rfl⟩, rfl, hS, h3, h5⟩
theorem Mk2.dq {K : PySem.W.Frag} {H : Hp} {mk : Kd → Kd → Kd} {wd : Str} (M : Mk2 mk wd) {a : Addr} {v1 v2 : V} {x y : Kd} (h : H a = some (.tup [.str wd, v1, v2])) (h1 : Dq K H v1 x.dat) (h2 : Dq K H v2 y.dat) : Dq K H (.ref a) (mk x y).dat := by
  rw [M.dat]
  exact .tup (.of h) (.cons (.str _) (.cons h1 (.cons h2 .nil)))
end KB
namespace KB
open PySem L2
theorem at_mk {K : PySem.W.Frag} {h : Heap} {mg : Str → Option Value} {x : Str} {st : Stmt} {f : Addr} {od an : Option Addr} {sl : Array (Option Value)} {oc kV dc pm cd ct : Value} (X : K.In h) (G : h.Ns mainGlobals mg)
    (a : PySem.W.nsIn K mainGlobals x = some (some (.ref f))) (l : K.lookup f = some ⟨oc, od, .func (PySem.W.fnOf x x (defArgs st) (defBody st) (defScope st) .none kV dc pm an cd ct), sl⟩) (c : PySem.W.codeIn K cd x = true) (k : PySem.W.keepIn K (.ref f) = true) : At K mg x st :=
  ⟨f, _, fun_mk (st := st) l c k, PySem.W.mg_of X G a⟩
theorem ds_mk {K : PySem.W.Frag} {h : Heap} {mg : Str → Option Value} {w : World} {x : Str} {d : Addr} {es : Array DictEntry} {n : Nat} {kvs : List (Str × V)} (X : K.In h) (G : h.Ns mainGlobals mg)
    (a : PySem.W.nsIn K mainGlobals x = some (some (.ref d))) (l : K.lookup d = some ⟨.type "dict", none, .dict es n, #[]⟩) (k : PySem.W.KeysLit w.params es.toList) (s : (d == sysModules) = false) (e : Ents kvs es.toList) : ∃ d, mg x = some (.ref d) ∧ DictS K w d kvs :=
  ⟨d, PySem.W.mg_of X G a, es, n, l, k, s, e⟩
theorem exc_mk {K : PySem.W.Frag} {h : Heap} {mg : Str → Option Value} {x : Str} {C : Addr} (X : K.In h) (G : h.Ns mainGlobals mg)
    (a : PySem.W.nsIn K mainGlobals x = some (some (.ref C))) (q : PySem.W.excIn K C [.type "ValueError", .type "Exception", .type "BaseException", .type "object"] "ValueError.__new__" = true) (k : PySem.W.keepIn K (.ref C) = true)
    (b : PySem.W.subIn K (.ref C) (.type "BaseException") = some true) (t : PySem.W.typeIn K (.ref C) = some (.type "type")) (i : PySem.W.isClsIn K C = true) (s : PySem.W.subIn K (.ref C) (.ref C) = some true) : ExcF K mg x C :=
  ⟨PySem.W.mg_of X G a, q, k, b, t, i, s⟩
end KB

namespace KB
open PySem PySem.Spec PyProof.Rows L2
/-! ## what is raised is caught by the first clause, whichever clauses follow -/
def wHit (K : PySem.W.Frag) (C : Addr) (c : Value) (i : Nat) (ts : Addr → TS) (D : Ends) : WX := fun cls d σ H =>
  cls = .ref C ∧ d = none ∧ PySem.W.exmOne K (.ref C) c = some true ∧ ∀ a, H a = none → ts a { nx := fun z H' => D.nx (z.set i none) H', rt := D.rt, bk := fun z H' => D.bk (z.set i none) H', ct := fun z H' => D.ct (z.set i none) H' } (σ.set i (some (.ref a))) H
theorem ps_try_hit {X : Cx} {x n : Str} {c : Value} {i : Nat} {body suite : List Stmt} {b₀ : Stmt} {np pos pos' : Pos} {hds : List ExceptHandler} {tb : WX → TS} {ts : Addr → TS} {C : Addr}
    (hs : X.stack = X.env :: X.outer) (hf : X.env.frame = some X.env.locals) (hN : X.N.Nodup) (hi : X.N[i]? = some n) (hln : X.env.kindOf n = some .local) (hc : Names X x c)
    (hb : ∀ (W : WX) (pn : List (Addr × Obj)) (xe : Value → Shared → Prop), Takes (X.tr pn xe) W → PassesOwn (model X.prog X.w) X.A X.env xe → PSs (X.tr pn xe) body (tb W))
    (hsu : ∀ (a : Addr) (oe : Obj) (pn : List (Addr × Obj)), Zc (.ref C) none oe → (∃ vs, oe.data = .fields vs) → PSs (X.suite a ((a, oe) :: pn)) (b₀ :: suite) (ts a)) :
    PS X (.Try body (.ExceptHandler (some (.Name x np)) (some n) (b₀ :: suite) pos' :: hds) [] [] pos) (fun D σ H => tb (wHit X.K C c i ts D) D σ H) := by
  refine ⟨fun pins s σ H D I h => ?_⟩
  have ok := I.ok
  have hfr : X.A.frames = some (X.env :: X.outer) := by rw [ok.frames, hs]
  refine wpAny_Try_except (wpAny_mono ((hb (wHit X.K C c i ts D) (X.pn ++ pins) _ (fun u s' xx => ?take) PassesOwn.looking).run [] s σ H D (Inv.toTry I _) h) (fun f s1 hsp => ?_) fun e s1 he => he)
  case take =>
    obtain ⟨a, B, sI, pins', σ', H', cls, d, rfl, J', nb, up, sky, na, os, ag, rfl, rfl, hit, yes⟩ := xx
    have J := Inv.ofTry J' ok
    have sky2 : Sky B (X.env :: X.outer) a (Zc (.ref C) none) X.env.locals s'.heap := hs ▸ sky
    refine Sky.land Zc.steady hfr hf sky2 fun h3 fl3 up3 => ?_
    have J3 := Inv.landed (s' := { heap := h3, gens := s'.gens, drawn := s'.drawn, toks := s'.toks, os := s'.os }) J nb fl3.left (up.trans up3) os ag
    obtain ⟨oe3, vs3, he3, hz3, hd3⟩ := HandSPX.FlyingZ.there fl3
    have far : a ∉ List.filterMap (fun y : Env => y.frame) (X.env :: X.outer) := fun hm => by
      obtain ⟨_, o', e', hnf⟩ := Heap.FunFrames.mem fl3.2.2.1 hm
      rw [he3] at e'
      cases e'
      exact hnf vs3 hd3
    have nL : a ≠ X.env.locals := fun z => far (List.mem_filterMap.mpr ⟨X.env, List.mem_cons_self, by rw [hf, z]⟩)
    have nF : a ∉ X.fs := fun hm => by
      obtain ⟨y, hy, q⟩ := List.mem_filterMap.mp hm
      exact far (List.mem_filterMap.mpr ⟨y, List.mem_cons_of_mem _ hy, q⟩)
    have S3 := Inv.suite J3 he3 hd3 na nL nF
    refine wpAny_handleBy_cons (codeAny_handlers_test ?_) (fun z => nomatch z)
    have LT : PySem.W.Looks (model X.prog X.w) h3 (typeOf (.ref a)) (.ref C) := fun A Q E s k q => wpAny_typeOf_ref (k a oe3 he3) (by rw [hz3.1]; exact q)
    have LM := PySem.W.exm_one J3.kIn LT hit
    have test : ∀ {Q : Value → Shared → Prop} {E : Value → Shared → Prop}, Q c { heap := h3, gens := s'.gens, drawn := s'.drawn, toks := s'.toks, os := s'.os } →
        wpAny (model X.prog X.w) (X.A.mark (some (.ref a))) (eval (.Name x np) X.env) Q E { heap := h3, gens := s'.gens, drawn := s'.drawn, toks := s'.toks, os := s'.os } := fun q => by
      obtain ⟨hg, hdbg, hm | ⟨hm, hv, hnn⟩⟩ := hc
      · exact ld_glob S3 hg hm q hdbg
      · exact ld_blt S3 hg hm hv q hnn hdbg
    refine test (PySem.W.Looks.here LM ?_)
    refine codeAny_handlers_suite_as (HandSPX.lands_againZ fl3 fun h4 fl4 up4 => ?_)
    have J4 := Inv.landed (s' := { heap := h4, gens := s'.gens, drawn := s'.drawn, toks := s'.toks, os := s'.os }) J nb fl4.left ((up.trans up3).trans up4) os ag
    obtain ⟨oe4, vs4, he4, hz4, hd4⟩ := HandSPX.FlyingZ.there fl4
    have S4 := Inv.suite J4 he4 hd4 na nL nF
    refine store_ok (X := X.suite a ((a, oe4) :: (X.pn ++ pins))) S4 hN hi (.inl hln) (v := .ref a) rfl (fun s5 S5 => ?_) (.inr hln)
    refine wpAny_mono ((hsu a oe4 (X.pn ++ pins) hz4 ⟨vs4, hd4⟩).run [] s5 _ H' _ S5 (yes a na)) (fun f s6 hsp => ?_) fun _ _ z => False.elim z
    cases f with
    | next => obtain ⟨σ6, H6, S6, q6⟩ := hsp; exact gone_ok (Inv.unsuite S6 ok) hN hi hln fun s7 J7 => ⟨_, H6, J7, q6⟩
    | brk => obtain ⟨σ6, H6, S6, q6⟩ := hsp; exact gone_ok (Inv.unsuite S6 ok) hN hi hln fun s7 J7 => ⟨_, H6, J7, q6⟩
    | cont => obtain ⟨σ6, H6, S6, q6⟩ := hsp; exact gone_ok (Inv.unsuite S6 ok) hN hi hln fun s7 J7 => ⟨_, H6, J7, q6⟩
    | ret u => obtain ⟨v6, σ6, H6, S6, r6, q6⟩ := hsp; exact gone_ok (Inv.unsuite S6 ok) hN hi hln fun s7 J7 => ⟨v6, _, H6, J7, r6, q6⟩
  · cases f with
    | next => obtain ⟨σ', H', J', q⟩ := hsp; exact wpAny_execs_nil ⟨σ', H', Inv.ofTry J' ok, q⟩
    | brk => obtain ⟨σ', H', J', q⟩ := hsp; exact ⟨σ', H', Inv.ofTry J' ok, q⟩
    | cont => obtain ⟨σ', H', J', q⟩ := hsp; exact ⟨σ', H', Inv.ofTry J' ok, q⟩
    | ret u => obtain ⟨v, σ', H', J', r, q⟩ := hsp; exact ⟨v, σ', H', Inv.ofTry J' ok, r, q⟩
/-! ## isinstance of what was caught: one class, a tuple of classes -/
def rCaught (K : PySem.W.Frag) (D a : Addr) : List V → Hp → VK → Prop := fun xs H Q => rIsE K D a xs H Q ∨
  ∃ (tp : Addr) (cs : List V) (us : List Value) (b : Bool), xs = [.ref a, .ref tp] ∧ H tp = some (.tup cs) ∧ Paired ClsV cs us ∧ PySem.W.kitAny K (.ref D) us = some b ∧ Q (.bl b) H
theorem call_caught {X : Cx} {a D : Addr} {oe : Obj} {pn : List (Addr × Obj)} (C : ExcC X.K D) (hz : Zc (.ref D) none oe) (hf : ∃ vs, oe.data = .fields vs) :
    CallR (X.suite a ((a, oe) :: pn)) (.builtin "isinstance") (rCaught X.K D a) := by
  intro pins s σ H xs us Q I r h
  rcases h with h | ⟨tp, cs, ws, b, rfl, hT, k, e, q⟩
  · exact call_isE C hz hf pins s σ H xs us Q I r h
  · obtain ⟨u1, u2, rfl, r1, r2⟩ := L2.vals2 r
    cases r1
    cases r2
    obtain ⟨hget, _⟩ := I.pin (a, oe) (List.mem_append.mpr (.inl List.mem_cons_self))
    obtain ⟨vs, hv⟩ := hf
    obtain ⟨oc, od, dt, sl⟩ := oe
    obtain ⟨h1, h2⟩ := hz
    cases h1
    cases h2
    cases hv
    have J : PySem.W.InstAt s.heap a ⟨.ref D, none, .fields vs, sl⟩ D none := ⟨hget, rfl, rfl, trivial⟩
    obtain ⟨_, its, rv, o, e1, e2, n, e3⟩ := I.hok tp (.tup cs) hT
    have e4 := ClsV.all k rv
    subst e4
    obtain ⟨oc2, od2, dt2, sl2⟩ := o
    cases e2
    cases e3
    exact PySem.W.kia_tup (PySem.W.handS_kitx_exc C.hg C.hk C.hs C.hd C.ha C.hn C.ht C.hm) I.kIn J e1 e (fun z => nomatch z) fun tk => ⟨.bl b, H, Inv.tok I tk, rfl, q⟩
/-! ## s[::-1] of a text: some text, no longer -/
def tRevT (te : TE) : TE := fun σ H Q => te σ H fun x H1 => ∃ z : Str, x = .str z ∧ z.length ≤ sizeLine ∧ ∀ y : Str, y.length ≤ z.length → Q (.str y) H1
theorem back_length (n : Nat) : (PySem.Builtin.Str.strSliceIndices none none (-1) n).length ≤ n := by
  simp only [PySem.Builtin.Str.strSliceIndices, PySem.sliceRange, List.length_map, List.length_range]
  simp only [show ¬ ((-1 : Int) > 0) by decide, if_false]
  split
  · simp
  · simp
theorem back_text (z : Str) : (⟨(List.filterMap (fun x => z.cps[x]?) (PySem.Builtin.Str.strSliceIndices none none (-1) z.length)).toArray⟩ : Str).length ≤ z.length := by
  have a : (⟨(List.filterMap (fun x => z.cps[x]?) (PySem.Builtin.Str.strSliceIndices none none (-1) z.length)).toArray⟩ : Str).length = (List.filterMap (fun x => z.cps[x]?) (PySem.Builtin.Str.strSliceIndices none none (-1) z.length)).length := rfl
  rw [a]
  exact Nat.le_trans (List.length_filterMap_le _ _) (back_length _)
theorem pe_revT {X : Cx} {e : Expr} {te : TE} {k : Nat} {p1 p2 p3 pos : Pos} (he : PE X e te) : PE X (.Subscript e (.Slice none none (some (.UnaryOp .USub (.Constant (.int 1) k p1) p2)) p3) pos) (tRevT te) := by
  refine ⟨fun pins s σ H Q I h => Subscript_ (thn (he.run pins s σ H _ I h) ?_)⟩
  rintro v s1 ⟨x, H1, I1, r1, z, rfl, hz, q⟩
  obtain ⟨t, rfl⟩ := r1
  refine wpAny_Slice (thn (po_none.run pins s1 σ H1 (fun o H2 => o = none ∧ H2 = H1) I1 ⟨rfl, rfl⟩) ?_)
  rintro vl s2 ⟨o2, H2, I2, pl, rfl, rfl⟩
  refine thn (po_none.run pins s2 σ H2 (fun o H3 => o = none ∧ H3 = H2) I2 ⟨rfl, rfl⟩) ?_
  rintro vu s3 ⟨o3, H3, I3, pu, rfl, rfl⟩
  have hst : PO X (some (.UnaryOp .USub (.Constant (.int 1) k p1) p2)) _ := po_some (pe_un un_neg pe_int)
  refine thn (hst.run pins s3 σ H3 (fun o H4 => o = some (-1) ∧ H4 = H3) I3 ⟨1, rfl, -1, rfl, rfl, rfl⟩) ?_
  rintro vs s4 ⟨o4, H4, I4, ps, rfl, rfl⟩
  obtain ⟨l1, rfl, e1⟩ := IsPart.raw pl
  obtain ⟨l2, rfl, e2⟩ := IsPart.raw pu
  obtain ⟨l3, rfl, e3⟩ := IsPart.raw ps
  have I5 := Inv.kept (h' := s4.heap.push { cls := .type "slice", data := .fields #[partValue l1, partValue l2, partValue l3] }) (t' := s4.toks) I4 fun b ob q => Heap.get?_push_of_some _ q
  refine tail_any (typeIs_str _ z t) PySem.F.slot_str_getitem.lookup (wpAny_getItem_str_slice (l := l1) (u := l2) (st := l3) ⟨_, Heap.get?_push_size s4.heap rfl, rfl, rfl⟩ (by rw [e3]; rfl) ?_) rfl
  have hp : slicePicked z l1 l2 l3 = PySem.Builtin.Str.strSliceIndices none none (-1) z.length := by
    unfold slicePicked
    rw [e1, e2, e3]; rfl
  unfold sliceMade
  rw [hp, e3, if_neg (by simp)]
  exact ⟨Nat.le_trans (back_text z) hz, .str _, H4, Inv.tok I5 _, ⟨_, rfl⟩, q _ (back_text z)⟩
/-! ## a text, told some times: some text, no longer than that -/
def rTimes : R2 := fun x y H Q => ∃ (z : Str) (n : Int), x = .str z ∧ y = .int n ∧ 0 ≤ n ∧ n ≤ 1000000 ∧ z.length * n.toNat ≤ 1000000 ∧ ∀ u : Str, u.length ≤ z.length * n.toNat → Q (.str u) H
theorem rep_length (n : Nat) (a : Array Nat) : (List.foldl (fun x1 x2 => x1 ++ x2) #[] (List.replicate n a)).size = a.size * n := by
  have h : ∀ (m : Nat) (b : Array Nat), (List.foldl (fun x1 x2 => x1 ++ x2) b (List.replicate m a)).size = b.size + a.size * m := by
    intro m
    induction m with
    | zero => intro b; simp
    | succ m ih => intro b; rw [List.replicate_succ, List.foldl_cons, ih, Array.size_append, Nat.mul_succ]; omega
  rw [h]; simp
theorem op_times {X : Cx} : OpR X (binaryOp .Mult) rTimes := by
  intro pins s σ H x y v u Q I rx ry ⟨z, n, ex, ey, h0, h1, hz, q⟩
  subst ex
  subst ey
  obtain ⟨t, rfl⟩ := rx
  obtain ⟨t', rfl⟩ := ry
  have hs : z.length * n.toNat ≤ sizeLine := Nat.le_trans hz (by decide)
  refine P.mul_str (by rw [decide_eq_false (by omega), decide_eq_false (by omega)]; rfl) (fun _ _ => ?_) (fun _ _ => ?_) ?_
  · have e : ((z.length * n.toNat : Nat) : Int) = (z.length : Int) * n := by rw [Int.natCast_mul, Int.toNat_of_nonneg h0]
    intro hb
    have h3 : (z.length : Int) * n ≤ 1000000 := by rw [← e]; exact Int.ofNat_le.mpr hz
    by_cases hn : n = 0
    · subst hn; omega
    · have : (z.length : Int) ≤ (2 ^ 63 - 1) / n := Int.le_ediv_of_mul_le (by omega) (by omega)
      omega
  · unfold PySem.Builtin.Str.tooLong
    exact decide_eq_false (Nat.not_lt.mpr hs)
  · split
    · exact ⟨Nat.zero_le _, .str _, H, Inv.tok I _, ⟨_, rfl⟩, q _ (Nat.zero_le _)⟩
    · split
      · rename_i hn hc
        refine ⟨.str z, H, I, ⟨_, rfl⟩, q _ ?_⟩
        have : n = 1 ∨ z.length = 0 := by simpa using hc
        rcases this with rfl | h
        · simp
        · omega
      · refine ⟨?_, .str _, H, Inv.tok I _, ⟨_, rfl⟩, q _ ?_⟩
        · show (List.foldl (fun x1 x2 => x1 ++ x2) #[] (List.replicate n.toNat z.cps)).size ≤ sizeLine
          rw [rep_length]; exact hs
        · show (List.foldl (fun x1 x2 => x1 ++ x2) #[] (List.replicate n.toNat z.cps)).size ≤ _
          rw [rep_length]; exact Nat.le_refl _
def rMulT : R2 := fun x y H Q => rMulA x y H Q ∨ rTimes x y H Q
theorem op_mulT {X : Cx} : OpR X (binaryOp .Mult) rMulT := op_mulA.or op_times
/-! ## within a clause: rules that speak of the whole, not of the clause -/
theorem ix_BS {X : Cx} {a : Addr} {pn : List (Addr × Obj)} : IxR (X.suite a pn) (rIxB X.K X.w) := ix_B (X := X.suite a pn)
/-- a call within a try -/
theorem pe_calS {X : Cx} {CX : CXT} {k : Nat} {x : Str} {ps : List Str} {sp : Sp} {E : L2.St → XK} {p pos : Pos} {e : Expr} {es : List Expr} {t : TA} (C : Cal X.prog X.w X.K X.mg X.base CX k x ps sp) (hr : Room k X.A) (hx : ∀ σ : L2.St, PassesAt CX X σ (E σ)) (ha : PA X (e :: es) t)
    (hg : Gl X x := by rfl) (hdb : (x == ("__debug__" : Str)) = false := by decide) (he : starEach (e :: es) X.env = (false, eval e X.env) :: starEach es X.env := by rfl) (hpl : (backTo pos (starEach es X.env)).any (·.1) = false := by rfl) :
    PE X (.Call (.Name x p) (e :: es) [] pos) (tCallS sp E t) := by
  obtain ⟨f, fd, F, b, kp, m⟩ := C
  exact pe_callS F hr hg m kp b hx ha hdb he hpl
/-! ## facts of a class of errors, from the head -/
theorem ExcF.hit {K : PySem.W.Frag} {mg : Str → Option Value} {x : Str} {C : Addr} (F : ExcF K mg x C) : PySem.W.exmOne K (.ref C) (.ref C) = some true := by
  have i : (PySem.W.clsIn K C).isSome = true := F.i
  simp only [PySem.W.exmOne, PySem.W.kitCls, F.b, F.t, F.s, i]
  rfl
theorem excC_mk {K : PySem.W.Frag} {h : Heap} {mg : Str → Option Value} {x : Str} {D : Addr} (_ : K.In h) (_ : ExcF K mg x D) (hg : PySem.W.findIn K (.ref D) "__getattribute__" = some (some (.builtin "BaseException.__getattribute__"))) (hk : PySem.W.findIn K (.ref D) "__getattr__" = some none) (hs : PySem.W.subIn K (.ref D) (.type "BaseException") = some true)
    (hd : PySem.W.hasDictIn K D = true) (ha : PySem.W.findIn K (.ref D) "__class__" = some (some (.builtin "object.__class__"))) (hn : PySem.W.specialIn K (.builtin "object.__class__") "__get__" = some (some (.builtin "getset_descriptor.__get__"))) (ht : PySem.W.takesIn K (.builtin "object.__class__") = some true) (hm : PySem.W.mroIn K D (.type "object") = some true) : ExcC K D := ⟨hg, hk, hs, hd, ha, hn, ht, hm⟩
theorem kitOne_mk {K : PySem.W.Frag} {h : Heap} {mg : Str → Option Value} {x : Str} {D : Addr} {T : String} {b : Bool} (_ : K.In h) (_ : ExcF K mg x D) (e : PySem.W.kitOne K (.ref D) (.type T) = some b) : PySem.W.kitOne K (.ref D) (.type T) = some b := e
theorem cls_mk {K : PySem.W.Frag} {h : Heap} {mg : Str → Option Value} {x : Str} {D : Addr} (X : K.In h) (G : h.Ns mainGlobals mg) (a : PySem.W.nsIn K mainGlobals x = some (some (.ref D))) : mg x = some (.ref D) := PySem.W.mg_of X G a
theorem kitAny_mk {K : PySem.W.Frag} {h : Heap} {mg : Str → Option Value} {x y z : Str} {D A B : Addr} {b : Bool} (_ : K.In h) (_ : ExcF K mg x D) (_ : mg y = some (.ref A)) (_ : mg z = some (.ref B)) (e : PySem.W.kitAny K (.ref D) [.ref A, .ref B] = some b) : PySem.W.kitAny K (.ref D) [.ref A, .ref B] = some b := e
end KB

namespace KW
open PySem PySem.Spec PyProof.Rows L2 KB
def top (i : Nat) : Stmt := PySem.Challenge.pw_kindswap_k03_texts_of_no_kind.main.body.getD i (.Pass ⟨0, 0, 0, 0⟩)
structure Txt (K : PySem.W.Frag) (mg : Str → Option Value) (w : World) (CN CT : Addr) : Prop where
  z_len : mg "len" = none
  z_int : mg "int" = none
  z_str : mg "str" = none
  z_tuple : mg "tuple" = none
  z_type : mg "type" = none
  z_range : mg "range" = none
  z_isinstance : mg "isinstance" = none
  z_min : mg "min" = none
  z_max : mg "max" = none
  z_ValueError : mg "ValueError" = none
  g_BASE_LETTERS : ∃ t, mg "BASE_LETTERS" = some (.str "abcdefgh" t)
  g_UNIT_TEXT : ∃ t, mg "UNIT_TEXT" = some (.str "1" t)
  g_SIGN_OF_WORD : ∃ d, mg "SIGN_OF_WORD" = some (.ref d) ∧ DictS K w d [("both", .str "*"), ("from", .str ">")]
  g_WORD_OF_SIGN : ∃ d, mg "WORD_OF_SIGN" = some (.ref d) ∧ DictS K w d [("*", .str "both"), (">", .str "from")]
  e_NoKind : ExcF K mg "NoKind" CN
  e_NoText : ExcF K mg "NoText" CT
  g_NoKind : mg "NoKind" = some (.ref CN)
  x_caught : ExcC K CT
  k_hit : PySem.W.exmOne K (.ref CT) (.ref CT) = some true
  k_value : PySem.W.kitOne K (.ref CT) (.type "ValueError") = some true
  o_NoForm : ∃ CF : Addr, mg "NoForm" = some (.ref CF) ∧ PySem.W.kitAny K (.ref CT) [.ref CF, .ref CN] = some false

/-! ## draws -/
def Well (H : Hp) (w : Addr) : Prop := ∃ x y z : Int, H w = some (.lst [.int x, .int y, .int z])
/-- what a draw leaves: all but the well, and the well one -/
structure Aft (w : Addr) (H H' : Hp) : Prop where
  well : Well H' w
  but : Same (out w H) (out w H')
theorem Aft.refl {w : Addr} {H : Hp} (h : Well H w) : Aft w H H := ⟨h, Same.refl _⟩
theorem Aft.trans {w : Addr} {H H1 H2 : Hp} (a : Aft w H H1) (b : Aft w H1 H2) : Aft w H H2 := ⟨b.well, a.but.trans b.but⟩
theorem Well.new {w p : Addr} {H : Hp} (h : Well H w) (n : H p = none) (o : HO) : Well (upd H p o) w := by
  obtain ⟨x, y, z, e⟩ := h
  exact ⟨x, y, z, by rw [upd_ne (ne_of_none e n)]; exact e⟩
theorem Aft.new {w p : Addr} {H H' : Hp} (a : Aft w H H') (n : H' p = none) (o : HO) : Aft w H (upd H' p o) := ⟨a.well.new n o, a.but.trans (out_new n o)⟩
theorem Aft.at_ {w p : Addr} {H H' : Hp} {o : HO} (a : Aft w H H') (n : p ≠ w) (h : H p = some o) : H' p = some o := (out_some (a.but p o (out_at n h))).2
theorem Well.ne {w p : Addr} {H : Hp} (h : Well H w) (n : H p = none) : p ≠ w := by
  obtain ⟨x, y, z, e⟩ := h
  exact (ne_of_none e n).symm
theorem Well.laid {w p : Addr} {H : Hp} (h : Well H w) (n : H p = none) (o : HO) : out w (upd H p o) p = some o := out_at (h.ne n) upd_same
def spCell (K : PySem.W.Frag) : Sp := fun vs H Q _ => ∃ (a : Addr) (ns : List Int) (k : Int), vs = [.ref a, .int k] ∧ SqL K H a (ns.map V.int) ∧ 0 ≤ k ∧ ∀ c, Q (.int c) H
def spWell : Sp := fun vs H Q _ => ∃ (c : Int), vs = [.int c] ∧ ∀ (p : Addr) (x y z : Int), H p = none → Q (.ref p) (upd H p (.lst [.int x, .int y, .int z]))
def spDraw : Sp := fun vs H Q _ => ∃ (w : Addr) (n : Int), vs = [.ref w, .int n] ∧ Well H w ∧ 0 < n ∧ n < 1073741824 ∧ ∀ (d : Int) (H' : Hp), 0 ≤ d → d < n → Aft w H H' → Q (.int d) H'
def spOne (K : PySem.W.Frag) : Sp := fun vs H Q _ => ∃ (w l : Addr) (xs : List V), vs = [.ref w, .ref l] ∧ Well H w ∧ H l = some (.lst xs) ∧ l ≠ w ∧ xs ≠ [] ∧ xs.length < 1073741824 ∧ ∀ v ∈ xs, ∀ H', Aft w H H' → Q v H'
abbrev s_law_cell_at : Stmt := top 19
theorem sc_law_cell_at : FnScope ["script", "k"] ["script", "k"] (defScope s_law_cell_at) := ⟨rfl, rfl, rfl, by decide +kernel, rfl, by decide +kernel, by decide +kernel⟩
abbrev s_law_well : Stmt := top 20
theorem sc_law_well : FnScope ["cell"] ["cell"] (defScope s_law_well) := ⟨rfl, rfl, rfl, by decide +kernel, rfl, by decide +kernel, by decide +kernel⟩
abbrev s_law_draw : Stmt := top 21
theorem sc_law_draw : FnScope ["well", "below", "found", "number"] ["well", "below"] (defScope s_law_draw) := ⟨rfl, rfl, rfl, by decide +kernel, rfl, by decide +kernel, by decide +kernel⟩
abbrev s_law_one : Stmt := top 22
theorem sc_law_one : FnScope ["well", "some"] ["well", "some"] (defScope s_law_one) := ⟨rfl, rfl, rfl, by decide +kernel, rfl, by decide +kernel, by decide +kernel⟩
section
variable {P : Program} {w : World} {K : PySem.W.Frag} {mg : Str → Option Value} {base : Heap} {CN CT : Addr}
theorem ok_cell_at (A : At K mg "_law_cell_at" s_law_cell_at) (T : Txt K mg w CN CT) : Cal P w K mg base CX0 1 "_law_cell_at" ["script", "k"] (spCell K) := by
  obtain ⟨f, fd, F, m⟩ := A
  refine ⟨f, fd, F.ok sc_law_cell_at (fun vs H Q E h => ?_) (fun cdv A outer s H vs Q E hr h => ?_), F.binds (ps := ["script", "k"]) (fun _ _ _ _ _ _ us hl => match us, hl with | [_, _], _ => rfl), F.kp, m⟩
  · obtain ⟨a, ns, k, rfl, _⟩ := h; rfl
  obtain ⟨a, ns, k, rfl, hS, h0, q⟩ := h
  refine ⟨_, (pss_cons (ps_if (pt_cmpR op_lt (pv 1) (pe_callB call_len (by rfl) T.z_len (by decide +kernel) (pa_cons (pv 0) pa_nil)) (nomark _))
   (pss_one (ps_ret (pe_ix ix_B (pv 0) (pv 1) (fun _ _ => rfl))))
   pss_nil)
  (pss_one (ps_ret pe_int))), ?_⟩
  refine ⟨_, rfl, _, rfl, _, _, rfl, .inl ⟨_, hS, rfl⟩, _, _, rfl, rfl, _, rfl, ?_⟩
  rw [List.length_map]
  refine ite2 (fun c => ?_) (fun c => ?_)
  · have c' : k < (ns.length : Int) := of_decide_eq_true c
    obtain ⟨j, rfl⟩ := Int.eq_ofNat_of_zero_le h0
    have hj : j < ns.length := by omega
    refine ⟨_, rfl, _, rfl, .inl (.inl ⟨a, _, _, .int ns[j], rfl, rfl, hS, atI_nat (by rw [List.getElem?_map, List.getElem?_eq_getElem hj]; rfl), q _⟩)⟩
  · exact q 0
theorem ok_well (A : At K mg "_law_well" s_law_well) (T : Txt K mg w CN CT) : Cal P w K mg base CX0 1 "_law_well" ["cell"] spWell := by
  obtain ⟨f, fd, F, m⟩ := A
  refine ⟨f, fd, F.ok sc_law_well (fun vs H Q E h => ?_) (fun cdv A outer s H vs Q E hr h => ?_), F.binds (ps := ["cell"]) (fun _ _ _ _ _ _ us hl => match us, hl with | [_], _ => rfl), F.kp, m⟩
  · obtain ⟨c, rfl, _⟩ := h; rfl
  obtain ⟨c, rfl, q⟩ := h
  refine ⟨_, (pss_one (ps_ret (pe_lst (pa_cons (pe_op op_mulA (pv 0) (pe_callTy call_int1 (by rfl) T.z_int (by decide +kernel) (pa_cons (pe_cmpR op_ge (pv 0) (pe_op op_pow pe_int pe_int) (nomark _)) pa_nil))) (pa_cons (pe_op op_mod (pv 0) pe_int) (pa_cons pe_int pa_nil)))))), ?_⟩
  refine ⟨_, rfl, _, rfl, _, _, rfl, rfl, ⟨by decide, by decide, by decide⟩, _, _, rfl, rfl, .inr ⟨_, rfl, .inl ⟨_, _, rfl, rfl, .inr ?_, ?_⟩⟩⟩
  · split <;> decide
  · exact ⟨_, rfl, _, _, rfl, rfl, (by show (0 : Int) < 2147483629; decide), (by show 3 ≤ sizeLine; decide), fun p hp => q p _ _ _ hp⟩
theorem Well.ix0 {K : PySem.W.Frag} {w : Addr} {H : Hp} {W : World} {Q : VK} {x y z : Int} (e : H w = some (.lst [.int x, .int y, .int z])) (q : Q (.int x) H) : rIxB K W (.ref w) (.int 0) H Q := .inl (.inl ⟨w, _, 0, _, rfl, rfl, .of e, rfl, q⟩)
theorem Well.ix1 {K : PySem.W.Frag} {w : Addr} {H : Hp} {W : World} {Q : VK} {x y z : Int} (e : H w = some (.lst [.int x, .int y, .int z])) (q : Q (.int y) H) : rIxB K W (.ref w) (.int 1) H Q := .inl (.inl ⟨w, _, 1, _, rfl, rfl, .of e, rfl, q⟩)
theorem Well.ix2 {K : PySem.W.Frag} {w : Addr} {H : Hp} {W : World} {Q : VK} {x y z : Int} (e : H w = some (.lst [.int x, .int y, .int z])) (q : Q (.int z) H) : rIxB K W (.ref w) (.int 2) H Q := .inl (.inl ⟨w, _, 2, _, rfl, rfl, .of e, rfl, q⟩)
theorem ok_draw (A : At K mg "_law_draw" s_law_draw) (T : Txt K mg w CN CT) : Cal P w K mg base CX0 1 "_law_draw" ["well", "below"] spDraw := by
  obtain ⟨f, fd, F, m⟩ := A
  refine ⟨f, fd, F.ok sc_law_draw (fun vs H Q E h => ?_) (fun cdv A outer s H vs Q E hr h => ?_), F.binds (ps := ["well", "below"]) (fun _ _ _ _ _ _ us hl => match us, hl with | [_, _], _ => rfl), F.kp, m⟩
  · obtain ⟨w, n, rfl, _⟩ := h; rfl
  obtain ⟨wl, n, rfl, ⟨x, y, z, e⟩, n0, n1, q⟩ := h
  refine ⟨_, (pss_cons (ps_if (pt_cmpR op_gt (pe_ix ix_B (pv 0) pe_int (fun _ _ => rfl)) pe_int (nomark _))
   (pss_cons (ps_set (i := 2) sc_law_draw.nd rfl (by first | exact Or.inl rfl | exact Or.inr rfl) (pe_op op_mod (pe_ix ix_B (pv 0) pe_int (fun _ _ => rfl)) (pv 1)))
  (pss_cons (ps_asg (pe_op op_fdiv (pe_ix ix_B (pv 0) pe_int (fun _ _ => rfl)) (pv 1)) (pg_sub (pv 0) pe_int set_list))
  (pss_one (ps_ret (pv 2)))))
   pss_nil)
  (pss_cons (ps_asg (pe_op op_addA (pe_ix ix_B (pv 0) pe_int (fun _ _ => rfl)) pe_int) (pg_sub (pv 0) pe_int set_list))
  (pss_cons (ps_set (i := 3) sc_law_draw.nd rfl (by first | exact Or.inl rfl | exact Or.inr rfl) (pe_op op_mod (pe_op op_mulA (pe_op op_addA (pe_op op_addA (pe_ix ix_B (pv 0) pe_int (fun _ _ => rfl)) (pe_op op_mulA pe_int (pe_ix ix_B (pv 0) pe_int (fun _ _ => rfl)))) pe_int) pe_int) pe_int))
  (pss_cons (ps_set (i := 3) sc_law_draw.nd rfl (by first | exact Or.inl rfl | exact Or.inr rfl) (pe_op op_mod (pe_op op_mulA (pv 3) (pe_op op_addA (pe_op op_addA (pe_op op_fdiv (pv 3) pe_int) pe_int) (pe_ix ix_B (pv 0) pe_int (fun _ _ => rfl)))) pe_int))
  (pss_one (ps_ret (pe_op op_mod (pe_op op_fdiv (pe_op op_mod (pe_op op_mulA (pv 3) (pe_op op_addA (pe_op op_fdiv (pv 3) pe_int) pe_int)) pe_int) pe_int) (pv 1)))))))), ?_⟩
  refine ⟨_, rfl, Well.ix0 e ⟨_, _, rfl, rfl, _, rfl, ?_⟩⟩
  refine ite2 (fun c => ?_) (fun c => ?_)
  · refine ⟨_, rfl, Well.ix0 e ⟨_, rfl, _, _, rfl, rfl, n0, ?_⟩⟩
    refine ⟨_, rfl, Well.ix0 e ⟨_, rfl, _, _, rfl, rfl, ⟨n0, n1⟩, _, rfl, wl, _, 0, 0, rfl, rfl, e, rfl, ?_⟩⟩
    refine ⟨_, rfl, q _ _ (Int.emod_nonneg _ (by omega)) (Int.emod_lt_of_pos _ n0) ⟨⟨_, _, _, upd_same⟩, out_set _⟩⟩
  · refine ⟨_, rfl, Well.ix2 e (.inl ⟨_, _, rfl, rfl, _, rfl, wl, _, 2, 2, rfl, rfl, e, rfl, ?_⟩)⟩
    have e1 : upd H wl (.lst ([V.int x, V.int y, V.int z].set 2 (.int (z + 1)))) wl = some (.lst [.int x, .int y, .int (z + 1)]) := upd_same
    refine ⟨_, rfl, Well.ix1 e1 ⟨_, rfl, Well.ix2 e1 (.inl ⟨_, _, rfl, rfl, .inl (by decide), .inl ⟨_, _, rfl, rfl, .inl ⟨_, _, rfl, rfl, .inl ⟨_, _, rfl, rfl, .inr (by decide), _, _, rfl, rfl, (by show (0 : Int) < 2147483629; decide), ?_⟩⟩⟩⟩)⟩⟩
    generalize hM : ((y + 86969 * (z + 1) + 1) * 48271) % 2147483629 = M
    have m0 : 0 ≤ M := by rw [← hM]; exact Int.emod_nonneg _ (by decide)
    have m1 : M < 2147483629 := by rw [← hM]; exact Int.emod_lt_of_pos _ (by decide)
    refine ⟨_, rfl, _, rfl, _, _, rfl, rfl, ⟨by decide, by decide⟩, .inl ⟨_, _, rfl, rfl, _, rfl, Well.ix2 e1 (.inl ⟨_, _, rfl, rfl, .inl ⟨_, _, rfl, rfl, .inl ⟨by omega, by omega⟩, _, _, rfl, rfl, (by show (0 : Int) < 2147483587; decide), ?_⟩⟩)⟩⟩
    generalize hN : M * (M / 1013 + 69623 + (z + 1)) % 2147483587 = N
    have k0 : 0 ≤ N := by rw [← hN]; exact Int.emod_nonneg _ (by decide)
    have k1 : N < 2147483587 := by rw [← hN]; exact Int.emod_lt_of_pos _ (by decide)
    refine ⟨_, rfl, _, rfl, _, _, rfl, rfl, ⟨by decide, by decide⟩, .inl ⟨_, _, rfl, rfl, .inl ⟨_, _, rfl, rfl, .inl ⟨by omega, by omega⟩, _, _, rfl, rfl, (by show (0 : Int) < 2147483563; decide), _, _, rfl, rfl, ⟨by decide, by decide⟩, _, rfl, _, _, rfl, rfl, n0, ?_⟩⟩⟩
    exact q _ _ (Int.emod_nonneg _ (by omega)) (Int.emod_lt_of_pos _ n0) ⟨⟨_, _, _, e1⟩, out_set _⟩
theorem ok_one (A : At K mg "_law_one" s_law_one) (T : Txt K mg w CN CT) (C_law_draw : Cal P w K mg base CX0 1 "_law_draw" ["well", "below"] spDraw) : Cal P w K mg base CX0 2 "_law_one" ["well", "some"] (spOne K) := by
  obtain ⟨f, fd, F, m⟩ := A
  refine ⟨f, fd, F.ok sc_law_one (fun vs H Q E h => ?_) (fun cdv A outer s H vs Q E hr h => ?_), F.binds (ps := ["well", "some"]) (fun _ _ _ _ _ _ us hl => match us, hl with | [_, _], _ => rfl), F.kp, m⟩
  · obtain ⟨w, l, xs, rfl, _⟩ := h; rfl
  obtain ⟨wl, l, xs, rfl, hw, hl, hn, hne, hz, q⟩ := h
  refine ⟨_, (pss_one (ps_ret (pe_ix ix_B (pv 1) (pe_calC C_law_draw (hr.mono (by first | decide | omega)) pass0 (pa_cons (pv 0) (pa_cons (pe_callB call_len (by rfl) T.z_len (by decide +kernel) (pa_cons (pv 1) pa_nil)) pa_nil))) (fun _ _ => rfl)))), ?_⟩
  have hpos : 0 < xs.length := List.length_pos_iff.mpr hne
  refine ⟨_, rfl, _, rfl, _, rfl, _, _, rfl, .inl ⟨_, .of hl, rfl⟩, wl, _, rfl, hw, by omega, by omega, fun d H' d0 d1 a => ?_⟩
  obtain ⟨j, rfl⟩ := Int.eq_ofNat_of_zero_le d0
  have hj : j < xs.length := by omega
  exact .inl (.inl ⟨l, xs, _, xs[j], rfl, rfl, .of (a.at_ hn hl), atI_nat (List.getElem?_eq_getElem hj), q _ (List.getElem_mem hj) H' a⟩)
end

/-! ## kinds: is_base_number, is_kind -/
theorem letters8 : ("abcdefgh" : Str).length = 8 := by decide +kernel
theorem letters_fit : ("abcdefgh" : Str).length ≤ sizeLine := by rw [letters8]; decide
def spBn (K : PySem.W.Frag) : Sp := fun vs H Q _ => ∃ v d, vs = [v] ∧ Dq K H v d ∧ Q (.bl (isBn d)) H
def spShp (K : PySem.W.Frag) : Sp := fun vs H Q _ => ∃ v d, vs = [v] ∧ Dq K H v d ∧ Q (.bl (shp d)) H
def spIsKd (K : PySem.W.Frag) : Sp := fun vs H Q _ => ∃ v d, vs = [v] ∧ Dq K H v d ∧ sz d ≤ 1000000 ∧ ∀ H', Same H H' → Q (.bl (isKd d)) H'
abbrev s_is_base_number : Stmt := top 10
theorem sc_is_base_number : FnScope ["thing"] ["thing"] (defScope s_is_base_number) := ⟨rfl, rfl, rfl, by decide +kernel, rfl, by decide +kernel, by decide +kernel⟩
abbrev s_is_kind_but_for_parts : Stmt := top 12
theorem sc_is_kind_but_for_parts : FnScope ["thing", "word"] ["thing"] (defScope s_is_kind_but_for_parts) := ⟨rfl, rfl, rfl, by decide +kernel, rfl, by decide +kernel, by decide +kernel⟩
abbrev s_is_kind : Stmt := top 11
theorem sc_is_kind : FnScope ["thing", "left", "part"] ["thing"] (defScope s_is_kind) := ⟨rfl, rfl, rfl, by decide +kernel, rfl, by decide +kernel, by decide +kernel⟩
section
variable {P : Program} {w : World} {K : PySem.W.Frag} {mg : Str → Option Value} {base : Heap} {CN CT : Addr}
theorem ok_is_base_number (A : At K mg "is_base_number" s_is_base_number) (T : Txt K mg w CN CT) : Cal P w K mg base CX0 1 "is_base_number" ["thing"] (spBn K) := by
  obtain ⟨f, fd, F, m⟩ := A
  refine ⟨f, fd, F.ok sc_is_base_number (fun vs H Q E h => ?_) (fun cdv A outer s H vs Q E hr h => ?_), F.binds (ps := ["thing"]) (fun _ _ _ _ _ _ us hl => match us, hl with | [_], _ => rfl), F.kp, m⟩
  · obtain ⟨v, d, rfl, _⟩ := h; rfl
  obtain ⟨v, d, rfl, hd, q⟩ := h
  refine ⟨_, (pss_one (ps_ret (pe_and (pe_cmpR op_isTyB (pe_callTy call_type1 (by rfl) T.z_type (by decide +kernel) (pa_cons (pv 0) pa_nil)) (pe_bltn (v := .ty "int") (by rfl) T.z_int (by decide +kernel) rfl) (nomark _)) (pe_one (pe_chain op_le op_lt pe_int (pv 0) (pe_callB call_len (by rfl) T.z_len (by decide +kernel) (pa_cons (pe_globS (by rfl) T.g_BASE_LETTERS) pa_nil))))))), ?_⟩
  refine ⟨_, rfl, _, _, rfl, hd.ty, _, _, rfl, rfl, _, rfl, ?_⟩
  refine ite2 (fun c => ?_) (fun c => ?_)
  · have c' := of_decide_eq_true c
    cases hd <;> simp [tyN] at c'
    rename_i n
    refine ⟨_, rfl, _, _, rfl, rfl, _, rfl, ?_⟩
    have q' : Q (.bl (decide (0 ≤ n) && decide (n < 8))) H := q
    refine ite2 (fun c2 => ?_) (fun c2 => ?_)
    · refine ⟨_, _, rfl, ⟨letters_fit, rfl⟩, _, _, rfl, rfl, ?_⟩
      rw [letters8]
      rw [c2, Bool.true_and] at q'
      exact q'
    · rw [Bool.eq_false_iff.mpr c2, Bool.false_and] at q'
      exact q'
  · have c' := of_decide_eq_false (Bool.eq_false_iff.mpr c)
    have e : isBn d = false := by cases d <;> first | rfl | (simp [tyN] at c')
    rw [e] at q
    exact q
/-- the words of SIGN_OF_WORD -/
theorem sow (w : Str) : ([(("both" : Str), V.str "*"), ("from", .str ">")].lookup w).isSome = (decide (w = "both") || decide (w = "from")) := by
  by_cases h : w = "both"
  · subst h; rfl
  · by_cases h2 : w = "from"
    · subst h2; rfl
    · have e1 : (w == ("both" : Str)) = false := beq_eq_false_iff_ne.mpr h
      have e2 : (w == ("from" : Str)) = false := beq_eq_false_iff_ne.mpr h2
      simp [List.lookup, e1, e2, h, h2]
theorem ok_is_kind_but_for_parts (A : At K mg "_is_kind_but_for_parts" s_is_kind_but_for_parts) (T : Txt K mg w CN CT) (C_is_base_number : Cal P w K mg base CX0 1 "is_base_number" ["thing"] (spBn K)) : Cal P w K mg base CX0 2 "_is_kind_but_for_parts" ["thing"] (spShp K) := by
  obtain ⟨f, fd, F, m⟩ := A
  refine ⟨f, fd, F.ok sc_is_kind_but_for_parts (fun vs H Q E h => ?_) (fun cdv A outer s H vs Q E hr h => ?_), F.binds (ps := ["thing"]) (fun _ _ _ _ _ _ us hl => match us, hl with | [_], _ => rfl), F.kp, m⟩
  · obtain ⟨v, d, rfl, _⟩ := h; rfl
  obtain ⟨v, d, rfl, hd, q⟩ := h
  refine ⟨_, (pss_cons (ps_if (PW.pt (pw_or (pt_cmpR op_notTyB (pe_callTy call_type1 (by rfl) T.z_type (by decide +kernel) (pa_cons (pv 0) pa_nil)) (pe_bltn (v := .ty "tuple") (by rfl) T.z_tuple (by decide +kernel) rfl) (nomark _)) (pw_or1 (pt_cmpR (op_eqA (room200 hr)) (pe_callB call_len (by rfl) T.z_len (by decide +kernel) (pa_cons (pv 0) pa_nil)) pe_int (nomark _)))))
   (pss_one (ps_ret pe_bl))
   pss_nil)
  (pss_cons (ps_set (i := 1) sc_is_kind_but_for_parts.nd rfl (by first | exact Or.inl rfl | exact Or.inr rfl) (pe_ix ix_B (pv 0) pe_int (fun _ _ => rfl)))
  (pss_cons (ps_if (pt_cmpR op_notTyB (pe_callTy call_type1 (by rfl) T.z_type (by decide +kernel) (pa_cons (pv 1) pa_nil)) (pe_bltn (v := .ty "str") (by rfl) T.z_str (by decide +kernel) rfl) (nomark _))
   (pss_one (ps_ret pe_bl))
   pss_nil)
  (pss_cons (ps_if (pt_cmpR (op_eqA (room200 hr)) (pv 1) pe_str (nomark _))
   (pss_one (ps_ret (pe_and (pe_cmpR (op_eqA (room200 hr)) (pe_callB call_len (by rfl) T.z_len (by decide +kernel) (pa_cons (pv 0) pa_nil)) pe_int (nomark _)) (pe_one (pe_calC C_is_base_number (hr.mono (by first | decide | omega)) pass0 (pa_cons (pe_ix ix_B (pv 0) pe_int (fun _ _ => rfl)) pa_nil))))))
   pss_nil)
  (pss_cons (ps_if (pt_cmpR (op_eqA (room200 hr)) (pv 1) pe_str (nomark _))
   (pss_one (ps_ret (pe_cmpR (op_eqA (room200 hr)) (pe_callB call_len (by rfl) T.z_len (by decide +kernel) (pa_cons (pv 0) pa_nil)) pe_int (nomark _))))
   pss_nil)
  (pss_one (ps_ret (pe_and (pe_cmpR op_in_DS (pv 1) (pe_globD (by rfl) T.g_SIGN_OF_WORD) rfl) (pe_one (pe_cmpR (op_eqA (room200 hr)) (pe_callB call_len (by rfl) T.z_len (by decide +kernel) (pa_cons (pv 0) pa_nil)) pe_int (nomark _))))))))))), ?_⟩
  refine ⟨_, rfl, _, _, rfl, hd.ty, _, _, rfl, rfl, _, rfl, ?_⟩
  by_cases ht : tyN d = "tuple"
  · rw [ht]
    refine iteF ?_
    cases hd <;> simp [tyN] at ht
    rename_i a xs ds hs ha
    have hlen := ha.length
    refine ⟨_, rfl, _, _, rfl, .inr ⟨_, hs, rfl⟩, .inl ⟨rfl, _, rfl, ?_⟩⟩
    cases ha with
    | nil => exact iteT q
    | cons h1 h2 =>
      rename_i v1 vs1 d1 ds1
      have hlen1 := h2.length
      refine iteF' (decide_eq_false (by intro z; have z' := V.int.inj z; rw [List.length_cons] at z'; omega)) ?_
      refine ⟨_, rfl, .inl (.inr (.inl ⟨a, _, 0, v1, rfl, rfl, hs, at0 _ _, ?_⟩))⟩
      refine ⟨_, rfl, _, _, rfl, h1.ty, _, _, rfl, rfl, _, rfl, ?_⟩
      by_cases ht1 : tyN d1 = "str"
      · rw [ht1]
        refine iteF ?_
        cases h1 <;> simp [tyN] at ht1
        rename_i z
        refine ⟨_, rfl, .inl ⟨rfl, _, rfl, ?_⟩⟩
        by_cases hb : z = "base"
        · subst hb
          refine iteT' (decide_eq_true rfl) ?_
          refine ⟨_, rfl, _, _, rfl, .inr ⟨_, hs, rfl⟩, .inl ⟨rfl, _, rfl, ?_⟩⟩
          cases h2 with
          | nil => exact iteF' (by decide) (qbl q (by simp [shp]))
          | cons h3 h4 =>
            rename_i v2 vs2 d2 ds2
            cases h4 with
            | nil =>
              refine iteT' (decide_eq_true rfl) ?_
              exact ⟨_, rfl, .inl (.inr (.inl ⟨a, _, 1, v2, rfl, rfl, hs, at1 _ _ _, v2, d2, rfl, h3, qbl q (by simp [shp])⟩))⟩
            | cons h5 h6 => exact iteF' (decide_eq_false (by intro z; have z' := V.int.inj z; simp only [List.length_cons] at z'; omega)) (qbl q (by simp [shp]))
        · refine iteF' (decide_eq_false fun z => hb (V.str.inj z)) ?_
          refine ⟨_, rfl, .inl ⟨rfl, _, rfl, ?_⟩⟩
          by_cases hu : z = "unit"
          · subst hu
            refine iteT' (decide_eq_true rfl) ?_
            refine ⟨_, rfl, _, _, rfl, .inr ⟨_, hs, rfl⟩, .inl ⟨rfl, qbl q ?_⟩⟩
            cases ds1 with
            | nil => simp [shp, unit_ne_base, hlen1]
            | cons x r => simp [shp, unit_ne_base, hlen1]; omega
          · refine iteF' (decide_eq_false fun z => hu (V.str.inj z)) ?_
            refine ⟨_, rfl, fun dd hD => ⟨z, dd, _, rfl, rfl, hD, _, rfl, ?_⟩⟩
            rw [if_neg Bool.false_ne_true, sow]
            have e0 : shp (.tuple (.str z :: ds1)) = ((decide (z = "both") || decide (z = "from")) && ds1.length == 2) := by simp [shp, hb, hu]
            rw [e0] at q
            refine ite2 (fun c => ?_) (fun c => ?_)
            · rw [c, Bool.true_and] at q
              refine ⟨_, rfl, _, _, rfl, .inr ⟨_, hs, rfl⟩, .inl ⟨rfl, qbl q ?_⟩⟩
              rw [List.length_cons, hlen1]
              by_cases h2 : ds1.length = 2
              · rw [h2]; rfl
              · rw [beq_eq_false_iff_ne.mpr h2]
                exact (decide_eq_false fun z => h2 (by have z' := V.int.inj z; omega)).symm
            · rw [Bool.eq_false_iff.mpr c, Bool.false_and] at q
              exact q
      · refine iteT' (by simp [ht1]) ?_
        exact qbl q (by cases d1 <;> first | (simp [shp]; done) | (simp [tyN] at ht1))
  · refine iteT' (by simp [ht]) ?_
    exact qbl q (by cases d <;> first | (simp [shp]; done) | (simp [tyN] at ht))
end

section
variable {P : Program} {w : World} {K : PySem.W.Frag} {mg : Str → Option Value} {base : Heap} {CN CT : Addr}
theorem ok_is_kind (A : At K mg "is_kind" s_is_kind) (T : Txt K mg w CN CT) (C_is_kind_but_for_parts : Cal P w K mg base CX0 2 "_is_kind_but_for_parts" ["thing"] (spShp K)) : Cal P w K mg base CX0 3 "is_kind" ["thing"] (spIsKd K) := by
  obtain ⟨f, fd, F, m⟩ := A
  refine ⟨f, fd, F.ok sc_is_kind (fun vs H Q E h => ?_) (fun cdv A outer s H vs Q E hr h => ?_), F.binds (ps := ["thing"]) (fun _ _ _ _ _ _ us hl => match us, hl with | [_], _ => rfl), F.kp, m⟩
  · obtain ⟨v, d, rfl, _⟩ := h; rfl
  obtain ⟨v, d, rfl, hd, hz, q⟩ := h
  refine ⟨_, (pss_cons (ps_set (i := 1) sc_is_kind.nd rfl (by first | exact Or.inl rfl | exact Or.inr rfl) (pe_lst (pa_cons (pv 0) pa_nil)))
  (pss_cons (ps_while PassesOwn.never (pt_truth (pv 1) (by intro _; rfl))
   (pss_cons (ps_set (i := 2) sc_is_kind.nd rfl (by first | exact Or.inl rfl | exact Or.inr rfl) (pe_bm0 PySem.F.plainAttrs_list PySem.F.slot_list_pop PySem.F.type_list_pop mt_pop (pv 1) ))
  (pss_cons (ps_if (pt_not (pt_val (pe_calC C_is_kind_but_for_parts (hr.mono (by first | decide | omega)) pass0 (pa_cons (pv 2) pa_nil))))
   (pss_one (ps_ret pe_bl))
   pss_nil)
  (pss_one (ps_if (pt_cmpR op_in_DS (pe_ix ix_B (pv 2) pe_int (fun _ _ => rfl)) (pe_globD (by rfl) T.g_SIGN_OF_WORD) rfl)
   (pss_one (ps_expr (pe_bm PySem.F.plainAttrs_list PySem.F.slot_list_extend PySem.F.type_list_extend mt_extendT (pv 1) (pa_cons (pe_slice sl_A (pv 2) (po_some pe_int) po_none) pa_nil))))
   pss_nil)))))
  (pss_one (ps_ret pe_bl)))), ?_⟩
  refine ⟨_, rfl, (by show 1 ≤ sizeLine; decide), fun l hl => ?_⟩
  refine ⟨fun n σ H' => ∃ vs ds o, σ = [some v, some (.ref l), o] ∧ H' l = some (.lst vs) ∧ DqAll K (out l H') vs ds ∧ n = szs ds ∧ n ≤ sz d ∧ Same H (out l H') ∧ isKd d = ds.all isKd,
    ⟨sz d, [v], [d], none, rfl, upd_same, .cons (hd.same (same_keepO' hl)) .nil, by simp [szs], Nat.le_refl _, same_keepO' hl, by simp⟩, ?_⟩
  rintro n σ H1 ⟨vs, ds, o, rfl, e1, ha, rfl, hn, sm, hk⟩
  refine ⟨_, rfl, _, .inl ⟨vs, .of e1, rfl⟩, ?_⟩
  have hlen := ha.length
  rcases List.eq_nil_or_concat ds with hds | ⟨ds', x, hds⟩
  · subst hds
    cases ha
    exact iteF' rfl (qbl (q _ (of_out sm)) (by rw [hk]; rfl))
  · rw [List.concat_eq_append] at hds
    subst hds
    obtain ⟨us, y, rfl, ha1, hx⟩ := ha.last
    refine iteT' (by simp) ⟨_, fun _ _ z => z, ?_⟩
    refine ⟨_, rfl, .inl ⟨rfl, _, .of e1⟩, l, us ++ [y], y, rfl, rfl, e1, last_at us y, ?_⟩
    rw [dl_append]
    have hx' : Dq K (upd H1 l (.lst us)) y x := hx.same out_upd
    have hsz : szs (ds' ++ [x]) = szs ds' + sz x := by rw [szs_append]; simp [szs]
    have hk' : isKd d = (ds'.all isKd && isKd x) := by rw [hk, List.all_append]; simp
    have hsm : Same H (out l (upd H1 l (.lst us))) := same_keepO sm _
    refine ⟨_, rfl, y, x, rfl, hx', _, rfl, ?_⟩
    by_cases hs : shp x = true
    · refine iteF' (by rw [hs]; rfl) ?_
      obtain ⟨wd, r, rfl⟩ := shp_is x hs
      have hturn := isKd_turn (.tuple (.str wd :: r))
      rw [hs, Bool.true_and] at hturn
      have hkz := kids_sz (.tuple (.str wd :: r))
      cases hx with
      | tup hS hA =>
        rename_i a xs
        cases hA with
        | cons h1 h2 =>
          rename_i v1 vs1
          cases h1
          have hS2 : SqT K (upd H1 l (.lst us)) a (V.str wd :: vs1) := KB.Same.tup out_upd hS
          refine ⟨_, rfl, .inl (.inr (.inl ⟨a, _, 0, _, rfl, rfl, hS2, at0 _ _, ?_⟩))⟩
          refine fun dd hD => ⟨wd, dd, _, rfl, rfl, hD, _, rfl, ?_⟩
          rw [if_neg Bool.false_ne_true, sow]
          refine ite2 (fun c => ?_) (fun c => ?_)
          · have ek : kids (.tuple (.str wd :: r)) = r := by
              simp only [kids]
              rw [if_pos (by simpa using c)]
            rw [ek] at hturn hkz
            refine ⟨_, rfl, .inl ⟨rfl, _, .of upd_same⟩, _, rfl, 1, rfl, .inr (.inl ⟨a, _, rfl, hS2, cut1_not _ _, fun p hp => ?_⟩)⟩
            rw [cut1]
            have npl : l ≠ p := ne_of_none upd_same hp
            have hl1 := ha1.length
            have hl2 := h2.length
            have hb1 := len_szs ds'
            have hb2 := len_szs r
            refine ⟨l, p, us, vs1, rfl, rfl, by rw [upd_ne npl]; exact upd_same, .of upd_same, fits (by omega), ?_⟩
            have s1 : Same (out l H1) (out l (upd (upd (upd H1 l (.lst us)) p (.tup vs1)) l (.lst (us ++ vs1)))) := (out_set _).trans ((out_new hp _).trans (out_set _))
            exact ⟨szs (ds' ++ r), by rw [hsz, szs_append]; omega, us ++ vs1, ds' ++ r, _, rfl, upd_same, (ha1.same s1).append (h2.same s1), rfl, by rw [szs_append]; omega, sm.trans s1, by rw [hk', hturn, List.all_append]⟩
          · have ek : kids (.tuple (.str wd :: r)) = [] := by
              simp only [kids]
              rw [if_neg (by simpa using c)]
            rw [ek] at hturn
            have s1 : Same (out l H1) (out l (upd H1 l (.lst us))) := out_set _
            exact ⟨szs ds', by have := sz_pos (.tuple (.str wd :: r)); omega, us, ds', _, rfl, upd_same, ha1.same s1, rfl, by omega, hsm, by rw [hk', hturn]; simp⟩
    · have hs' : shp x = false := Bool.eq_false_iff.mpr hs
      refine iteT' (by rw [hs']; rfl) ?_
      exact qbl (q _ (of_out hsm)) (by rw [hk', isKd_turn x, hs']; simp)
end

/-! ## need_kind, kind_text -/
def spNeed (K : PySem.W.Frag) (CN : Addr) : Sp := fun vs H Q E => ∃ v d, vs = [v] ∧ Dq K H v d ∧ sz d ≤ 1000000 ∧
  (isKd d = true → ∀ H', Same H H' → Q .non H') ∧ (isKd d = false → ∀ H', Same H H' → E (.ref CN) none H')
def spKText (K : PySem.W.Frag) (CN : Addr) : Sp := fun vs H Q E => ∃ v d, vs = [v] ∧ Dq K H v d ∧ sz d ≤ 1000000 ∧
  (∀ k : Kd, k.ok → d = k.dat → ∀ H', Same H H' → Q (.str k.txt) H') ∧ (isKd d = false → ∀ H', Same H H' → E (.ref CN) none H')
abbrev s_need_kind : Stmt := top 13
theorem sc_need_kind : FnScope ["thing"] ["thing"] (defScope s_need_kind) := ⟨rfl, rfl, rfl, by decide +kernel, rfl, by decide +kernel, by decide +kernel⟩
abbrev s_kind_text : Stmt := top 14
theorem sc_kind_text : FnScope ["kind", "pieces", "left", "part", "word", "one", "other"] ["kind"] (defScope s_kind_text) := ⟨rfl, rfl, rfl, by decide +kernel, rfl, by decide +kernel, by decide +kernel⟩
section
variable {P : Program} {w : World} {K : PySem.W.Frag} {mg : Str → Option Value} {base : Heap} {CN CT : Addr}
theorem ok_need_kind (A : At K mg "need_kind" s_need_kind) (T : Txt K mg w CN CT) (C_is_kind : Cal P w K mg base CX0 3 "is_kind" ["thing"] (spIsKd K)) : Cal P w K mg base (L2.CX P w) 4 "need_kind" ["thing"] (spNeed K CN) := by
  obtain ⟨f, fd, F, m⟩ := A
  refine ⟨f, fd, F.okX sc_need_kind (fun vs H Q E h => ?_) (fun cdv A outer s H vs Q E hr h => ?_), F.binds (ps := ["thing"]) (fun _ _ _ _ _ _ us hl => match us, hl with | [_], _ => rfl), F.kp, m⟩
  · obtain ⟨v, d, rfl, _⟩ := h; rfl
  obtain ⟨v, d, rfl, hd, hz, q1, q2⟩ := h
  refine ⟨_, (pss_one (ps_if (pt_not (pt_val (pe_calC C_is_kind (hr.mono (by first | decide | omega)) pass0 (pa_cons (pv 0) pa_nil))))
   (pss_one (ps_raiseO rfl (takes_of rfl rfl rfl rfl) T.e_NoKind))
   pss_nil)), ?_⟩
  refine ⟨_, rfl, v, d, rfl, hd, hz, fun H' sm => ⟨_, rfl, ?_⟩⟩
  by_cases hk : isKd d = true
  · exact iteF' (by rw [hk]; rfl) (q1 hk H' sm)
  · have hk' : isKd d = false := Bool.eq_false_iff.mpr hk
    exact iteT' (by rw [hk']; rfl) (q2 hk' H' sm)
theorem letter_at {n : Nat} (h : n < 8) : atI ("abcdefgh" : Str).cps.toList (n : Int) = some (97 + n) := by
  refine atI_nat ?_
  have : ∀ m : Nat, m < 8 → ("abcdefgh" : Str).cps.toList[m]? = some (97 + m) := by decide +kernel
  exact this n h
/-- what holds between two turns of kind_text's walk -/
def KtW (K : PySem.W.Frag) (H : Hp) (v : V) (pp l : Addr) (k : Kd) (n : Nat) (σ : L2.St) (H' : Hp) : Prop :=
  ∃ (vs : List V) (is : List Itm) (ls : List (List Nat)) (o1 o2 o3 o4 : Option V), σ = [some v, some (.ref pp), some (.ref l), o1, o2, o3, o4] ∧ H' l = some (.lst vs) ∧ H' pp = some (.lst ((ls.map tx).map V.str)) ∧
      DqAll K (out l (out pp H')) vs (is.map Itm.dat) ∧ (∀ i ∈ is, i.ok) ∧ n = wks is ∧ ls.length + n ≤ k.wk ∧ ls.flatten ++ cods is = k.cod ∧ Same H (out l (out pp H'))
theorem ok_kind_text (A : At K mg "kind_text" s_kind_text) (T : Txt K mg w CN CT) (C_need_kind : Cal P w K mg base (L2.CX P w) 4 "need_kind" ["thing"] (spNeed K CN)) : Cal P w K mg base (L2.CX P w) 5 "kind_text" ["kind"] (spKText K CN) := by
  obtain ⟨f, fd, F, m⟩ := A
  refine ⟨f, fd, F.okX sc_kind_text (fun vs H Q E h => ?_) (fun cdv A outer s H vs Q E hr h => ?_), F.binds (ps := ["kind"]) (fun _ _ _ _ _ _ us hl => match us, hl with | [_], _ => rfl), F.kp, m⟩
  · obtain ⟨v, d, rfl, _⟩ := h; rfl
  obtain ⟨v, d, rfl, hd, hz, q1, q2⟩ := h
  refine ⟨_, (pss_cons (ps_expr (pe_calC C_need_kind (hr.mono (by first | decide | omega)) (passes_call (takes_of rfl rfl rfl rfl) (fun _ _ _ _ h => h)) (pa_cons (pv 0) pa_nil)))
  (pss_cons (ps_set (i := 1) sc_kind_text.nd rfl (by first | exact Or.inl rfl | exact Or.inr rfl) (pe_lst pa_nil))
  (pss_cons (ps_set (i := 2) sc_kind_text.nd rfl (by first | exact Or.inl rfl | exact Or.inr rfl) (pe_lst (pa_cons (pv 0) pa_nil)))
  (pss_cons (ps_while (passes_of rfl) (pt_truth (pv 2) (by intro _; rfl))
   (pss_cons (ps_set (i := 3) sc_kind_text.nd rfl (by first | exact Or.inl rfl | exact Or.inr rfl) (pe_bm0 PySem.F.plainAttrs_list PySem.F.slot_list_pop PySem.F.type_list_pop mt_pop (pv 2) ))
  (pss_one (ps_if (pt_cmpR op_isTyB (pe_callTy call_type1 (by rfl) T.z_type (by decide +kernel) (pa_cons (pv 3) pa_nil)) (pe_bltn (v := .ty "str") (by rfl) T.z_str (by decide +kernel) rfl) (nomark _))
   (pss_one (ps_expr (pe_bm PySem.F.plainAttrs_list PySem.F.slot_list_append PySem.F.type_list_append mt_append (pv 1) (pa_cons (pv 3) pa_nil))))
   (pss_one (ps_if (pt_cmpR (op_eqA (room200 hr)) (pe_ix ix_B (pv 3) pe_int (fun _ _ => rfl)) pe_str (nomark _))
   (pss_one (ps_expr (pe_bm PySem.F.plainAttrs_list PySem.F.slot_list_append PySem.F.type_list_append mt_append (pv 1) (pa_cons (pe_ix ix_B (pe_globS (by rfl) T.g_BASE_LETTERS) (pe_ix ix_B (pv 3) pe_int (fun _ _ => rfl)) (fun _ _ => rfl)) pa_nil))))
   (pss_one (ps_if (pt_cmpR (op_eqA (room200 hr)) (pe_ix ix_B (pv 3) pe_int (fun _ _ => rfl)) pe_str (nomark _))
   (pss_one (ps_expr (pe_bm PySem.F.plainAttrs_list PySem.F.slot_list_append PySem.F.type_list_append mt_append (pv 1) (pa_cons (pe_globS (by rfl) T.g_UNIT_TEXT) pa_nil))))
   (pss_cons (ps_asg (pv 3) (pg_tup (by rfl) (pgs_cons (pg_name (i := 4) sc_kind_text.nd rfl (by first | exact Or.inl rfl | exact Or.inr rfl)) (pgs_cons (pg_name (i := 5) sc_kind_text.nd rfl (by first | exact Or.inl rfl | exact Or.inr rfl)) (pgs_cons (pg_name (i := 6) sc_kind_text.nd rfl (by first | exact Or.inl rfl | exact Or.inr rfl)) pgs_nil)))))
  (pss_one (ps_expr (pe_bm PySem.F.plainAttrs_list PySem.F.slot_list_extend PySem.F.type_list_extend mt_extend (pv 2) (pa_cons (pe_lst (pa_cons pe_str (pa_cons (pv 6) (pa_cons (pe_ix ix_B (pe_globD (by rfl) T.g_SIGN_OF_WORD) (pv 4) (fun _ _ => rfl)) (pa_cons (pv 5) (pa_cons pe_str pa_nil)))))) pa_nil)))))))))))))
  (pss_one (ps_ret (pe_join pe_str (pv 1)))))))), ?_⟩
  refine ⟨_, rfl, v, d, rfl, hd, hz, fun hk H0 sm0 => ?_, q2⟩
  obtain ⟨k, ok, rfl⟩ := kd_of d hk
  have hkz : k.leaves ≤ 1000000 := by have := k.leaves_sz; omega
  have q := q1 k ok rfl
  refine ⟨Nat.zero_le _, fun pp hp => ?_⟩
  refine ⟨_, rfl, (by show 1 ≤ sizeLine; decide), fun l hl => ?_⟩
  have npl : pp ≠ l := ne_of_none upd_same hl
  have hl0 : H0 l = none := by rw [upd_ne npl.symm] at hl; exact hl
  refine ⟨KtW K H v pp l k,
    ⟨k.wk, [v], [.k k], [], none, none, none, none, rfl, upd_same, by rw [upd_ne npl]; exact upd_same, ?_, by simpa [Itm.ok] using ok, by simp [wks, Itm.wk], by simp, by simp [cods, Itm.cod], ?_⟩, ?_⟩
  · refine .cons ((hd.same sm0).same ?_) .nil
    exact fun b u e => by rw [out_ne (ne_of_none e hl0), out_ne (ne_of_none e hp), upd_ne (ne_of_none e hl0), upd_ne (ne_of_none e hp)]; exact e
  · exact fun b u e => by
      have e' := sm0 b u e
      rw [out_ne (ne_of_none e' hl0), out_ne (ne_of_none e' hp), upd_ne (ne_of_none e' hl0), upd_ne (ne_of_none e' hp)]; exact e'
  have hwk := k.wk_le
  rintro n σ H1 ⟨vs, is, ls, o1, o2, o3, o4, rfl, e1, e2, ha, hok, rfl, hn, hc, sm⟩
  refine ⟨_, rfl, _, .inl ⟨vs, .of e1, rfl⟩, ?_⟩
  have hlen := ha.length
  rcases List.eq_nil_or_concat is with hds | ⟨is', x, hds⟩
  · subst hds
    cases ha
    refine iteF' rfl ?_
    have hcl := k.cod_length
    refine ⟨⟨_, rfl⟩, _, rfl, "", pp, ls.map tx, rfl, rfl, .inl (.of e2), ?_, ?_⟩
    · rw [join_size]
      have hcf : ls.flatten.length = k.cod.length := by rw [← hc]; simp [cods]
      show ls.flatten.length + (ls.map tx).length * 0 ≤ 16777216
      omega
    · rw [KB.join_nil]
      have e : ls.flatten = k.cod := by rw [← hc]; simp [cods]
      rw [e]
      exact q _ (of_out2 sm)
  · rw [List.concat_eq_append] at hds
    subst hds
    rw [List.map_append] at ha
    obtain ⟨us, y, rfl, ha1, hx⟩ := DqAll.last (d := x.dat) ha
    refine iteT' (by simp) ⟨_, fun _ _ z => z, ?_⟩
    refine ⟨_, rfl, .inl ⟨rfl, _, .of e1⟩, l, us ++ [y], y, rfl, rfl, e1, last_at us y, ?_⟩
    rw [dl_append]
    have e3 : upd H1 l (.lst us) pp = some (.lst ((ls.map tx).map V.str)) := by rw [upd_ne npl]; exact e2
    have sm1 : Same (out l (out pp H1)) (out l (out pp (upd H1 l (.lst us)))) := same2 (Same.refl _) _ (.inl rfl)
    have hx' : Dq K (upd H1 l (.lst us)) y x.dat := (hx.same sm1).same out2_sub
    have hokx : x.ok := hok x (by simp)
    have hok' : ∀ i ∈ is', i.ok := fun i hi => hok i (by simp [hi])
    have hw1 : wks (is' ++ [x]) = wks is' + x.wk := by rw [wks_append]; simp [wks]
    rw [cods_snoc] at hc
    have hlb := len_wks is'
    have hll : us.length = is'.length := by rw [ha1.length, List.length_map]
    refine ⟨_, rfl, y, _, rfl, hx'.ty, _, _, rfl, rfl, _, rfl, ?_⟩
    -- what is left behind a turn in which a text is appended
    have fin : ∀ (z : List Nat) (o1 o2 o3 o4 : Option V), x.cod = z → ∃ m', m' < wks (is' ++ [x]) ∧ KtW K H v pp l k m' [some v, some (.ref pp), some (.ref l), o1, o2, o3, o4] (upd (upd H1 l (.lst us)) pp (.lst (((ls.map tx).map V.str) ++ [V.str (tx z)]))) :=
      fun z o1 o2 o3 o4 hz => ⟨wks is', by have := x.wk_pos; omega, us, is', ls ++ [z], o1, o2, o3, o4, rfl, by rw [upd_ne npl.symm]; exact upd_same, by rw [upd_same, KB.strs_map],
        ha1.same (sm1.trans (same2 (Same.refl _) _ (.inr rfl))), hok', rfl, by have := x.wk_pos; rw [List.length_append, List.length_singleton]; omega, by rw [← hc, ← hz]; simp, sm.trans (sm1.trans (same2 (Same.refl _) _ (.inr rfl)))⟩
    cases x with
    | s z =>
      cases hx'
      refine iteT' (decide_eq_true rfl) ?_
      exact ⟨_, rfl, .inl ⟨rfl, _, .of e3⟩, _, rfl, pp, _, _, rfl, rfl, e3, fits_lt (by rw [List.length_map, List.length_map]; omega), fin z _ _ _ _ rfl⟩
    | k kk =>
      have hty := kk.ty
      refine iteF' (by show decide (tyN kk.dat = "str") = false; rw [hty]; decide) ?_
      cases kk with
      | b m =>
        have hm : m < 8 := hokx
        cases hx' with
        | tup hS hA =>
          rename_i a xs
          cases hA with
          | cons h1 h2 =>
            cases h1
            cases h2 with
            | cons h3 h4 =>
              cases h3
              cases h4
              refine ⟨_, rfl, .inl (.inr (.inl ⟨a, _, 0, _, rfl, rfl, hS, at0 _ _, .inl ⟨rfl, _, rfl, iteT' (decide_eq_true rfl) ?_⟩⟩))⟩
              refine ⟨_, rfl, .inl ⟨rfl, _, .of e3⟩, _, rfl, .inl (.inr (.inl ⟨a, _, 1, _, rfl, rfl, hS, at1 _ _ _, .inl (.inr (.inr ⟨_, _, _, rfl, rfl, letters_fit, letter_at hm, ?_⟩))⟩))⟩
              exact ⟨pp, _, _, rfl, rfl, e3, fits_lt (by rw [List.length_map, List.length_map]; omega), fin [97 + m] _ _ _ _ rfl⟩
      | u =>
        cases hx' with
        | tup hS hA =>
          rename_i a xs
          cases hA with
          | cons h1 h2 =>
            cases h1
            cases h2
            refine ⟨_, rfl, .inl (.inr (.inl ⟨a, _, 0, _, rfl, rfl, hS, at0 _ _, .inl ⟨rfl, _, rfl, iteF' (decide_eq_false fun z => absurd (V.str.inj z) (by decide)) ?_⟩⟩))⟩
            refine ⟨_, rfl, .inl (.inr (.inl ⟨a, _, 0, _, rfl, rfl, hS, at0 _ _, .inl ⟨rfl, _, rfl, iteT' (decide_eq_true rfl) ?_⟩⟩))⟩
            exact ⟨_, rfl, .inl ⟨rfl, _, .of e3⟩, pp, _, _, rfl, rfl, e3, fits_lt (by rw [List.length_map, List.length_map]; omega), fin [49] _ _ _ _ rfl⟩
      | p x1 x2 =>
        cases hx with
        | tup hS0 hA0 =>
          rename_i a xs
          cases hA0 with
          | cons h1 h2 =>
            cases h1
            cases h2 with
            | cons h3 h4 =>
              cases h4 with
              | cons h5 h6 =>
                cases h6
                rename_i v1 v2
                have hS : SqT K (upd H1 l (.lst us)) a [.str "both", v1, v2] := KB.Same.tup (sm1.trans out2_sub) hS0
                refine ⟨_, rfl, .inl (.inr (.inl ⟨a, _, 0, _, rfl, rfl, hS, at0 _ _, .inl ⟨rfl, _, rfl, iteF' (decide_eq_false fun z => absurd (V.str.inj z) (by decide)) ?_⟩⟩))⟩
                refine ⟨_, rfl, .inl (.inr (.inl ⟨a, _, 0, _, rfl, rfl, hS, at0 _ _, .inl ⟨rfl, _, rfl, iteF' (decide_eq_false fun z => absurd (V.str.inj z) (by decide)) ?_⟩⟩))⟩
                refine ⟨_, rfl, a, _, rfl, hS, rfl, _, _, rfl, _, _, rfl, _, _, rfl, rfl, ?_⟩
                refine ⟨_, rfl, .inl ⟨rfl, _, .of upd_same⟩, _, rfl, fun dd hD => ⟨_, rfl, .inr ⟨_, dd, _, .str "*", rfl, rfl, hD, rfl, ?_⟩⟩⟩
                refine ⟨_, rfl, (by show 5 ≤ sizeLine; decide), fun t ht => ?_⟩
                have nlt : l ≠ t := ne_of_none upd_same ht
                have hts : Same (out l (out pp H1)) (out l (out pp (upd (upd (upd H1 l (.lst us)) t (.lst [.str ")", v2, .str "*", v1, .str "("])) l (.lst (us ++ [.str ")", v2, .str "*", v1, .str "("]))))) :=
                  (sm1.trans (same2_new (Same.refl _) _ ht)).trans (same2 (Same.refl _) _ (.inl rfl))
                have e4 : upd (upd H1 l (.lst us)) t (.lst [.str ")", v2, .str "*", v1, .str "("]) pp = some (.lst ((ls.map tx).map V.str)) := by rw [upd_ne (ne_of_none e3 ht)]; exact e3
                refine ⟨l, t, us, _, rfl, rfl, by rw [upd_ne nlt]; exact upd_same, upd_same, fits (by show us.length + 5 ≤ 10000000; omega), ?_⟩
                have okx : x1.ok ∧ x2.ok := hokx
                have hwx : (Itm.k (Kd.p x1 x2)).wk = x1.wk + x2.wk + 4 := rfl
                refine ⟨wks (is' ++ [.s [41], .k x2, .s [42], .k x1, .s [40]]), ?_, us ++ [.str ")", v2, .str "*", v1, .str "("], is' ++ [.s [41], .k x2, .s [42], .k x1, .s [40]], ls, _, _, _, _, rfl, upd_same, by rw [upd_ne npl]; exact e4, ?_, ?_, rfl, ?_, ?_, sm.trans hts⟩
                · rw [hw1, hwx, wks_append]; simp [wks, Itm.wk]; omega
                · rw [List.map_append]
                  exact (ha1.same hts).append (.cons (.str _) (.cons (h5.same hts) (.cons (.str _) (.cons (h3.same hts) (.cons (.str _) .nil)))))
                · intro i hi
                  rcases List.mem_append.mp hi with hi | hi
                  · exact hok' i hi
                  · simp only [List.mem_cons, List.not_mem_nil, or_false] at hi
                    rcases hi with rfl | rfl | rfl | rfl | rfl
                    · trivial
                    · exact okx.2
                    · trivial
                    · exact okx.1
                    · trivial
                · rw [hw1, hwx] at hn; rw [wks_append]; simp [wks, Itm.wk] at hn ⊢; omega
                · rw [← hc, cods_append]; simp [cods, Itm.cod, Kd.cod]
      | f x1 x2 =>
        cases hx with
        | tup hS0 hA0 =>
          rename_i a xs
          cases hA0 with
          | cons h1 h2 =>
            cases h1
            cases h2 with
            | cons h3 h4 =>
              cases h4 with
              | cons h5 h6 =>
                cases h6
                rename_i v1 v2
                have hS : SqT K (upd H1 l (.lst us)) a [.str "from", v1, v2] := KB.Same.tup (sm1.trans out2_sub) hS0
                refine ⟨_, rfl, .inl (.inr (.inl ⟨a, _, 0, _, rfl, rfl, hS, at0 _ _, .inl ⟨rfl, _, rfl, iteF' (decide_eq_false fun z => absurd (V.str.inj z) (by decide)) ?_⟩⟩))⟩
                refine ⟨_, rfl, .inl (.inr (.inl ⟨a, _, 0, _, rfl, rfl, hS, at0 _ _, .inl ⟨rfl, _, rfl, iteF' (decide_eq_false fun z => absurd (V.str.inj z) (by decide)) ?_⟩⟩))⟩
                refine ⟨_, rfl, a, _, rfl, hS, rfl, _, _, rfl, _, _, rfl, _, _, rfl, rfl, ?_⟩
                refine ⟨_, rfl, .inl ⟨rfl, _, .of upd_same⟩, _, rfl, fun dd hD => ⟨_, rfl, .inr ⟨_, dd, _, .str ">", rfl, rfl, hD, rfl, ?_⟩⟩⟩
                refine ⟨_, rfl, (by show 5 ≤ sizeLine; decide), fun t ht => ?_⟩
                have nlt : l ≠ t := ne_of_none upd_same ht
                have hts : Same (out l (out pp H1)) (out l (out pp (upd (upd (upd H1 l (.lst us)) t (.lst [.str ")", v2, .str ">", v1, .str "("])) l (.lst (us ++ [.str ")", v2, .str ">", v1, .str "("]))))) :=
                  (sm1.trans (same2_new (Same.refl _) _ ht)).trans (same2 (Same.refl _) _ (.inl rfl))
                have e4 : upd (upd H1 l (.lst us)) t (.lst [.str ")", v2, .str ">", v1, .str "("]) pp = some (.lst ((ls.map tx).map V.str)) := by rw [upd_ne (ne_of_none e3 ht)]; exact e3
                refine ⟨l, t, us, _, rfl, rfl, by rw [upd_ne nlt]; exact upd_same, upd_same, fits (by show us.length + 5 ≤ 10000000; omega), ?_⟩
                have okx : x1.ok ∧ x2.ok := hokx
                have hwx : (Itm.k (Kd.f x1 x2)).wk = x1.wk + x2.wk + 4 := rfl
                refine ⟨wks (is' ++ [.s [41], .k x2, .s [62], .k x1, .s [40]]), ?_, us ++ [.str ")", v2, .str ">", v1, .str "("], is' ++ [.s [41], .k x2, .s [62], .k x1, .s [40]], ls, _, _, _, _, rfl, upd_same, by rw [upd_ne npl]; exact e4, ?_, ?_, rfl, ?_, ?_, sm.trans hts⟩
                · rw [hw1, hwx, wks_append]; simp [wks, Itm.wk]; omega
                · rw [List.map_append]
                  exact (ha1.same hts).append (.cons (.str _) (.cons (h5.same hts) (.cons (.str _) (.cons (h3.same hts) (.cons (.str _) .nil)))))
                · intro i hi
                  rcases List.mem_append.mp hi with hi | hi
                  · exact hok' i hi
                  · simp only [List.mem_cons, List.not_mem_nil, or_false] at hi
                    rcases hi with rfl | rfl | rfl | rfl | rfl
                    · trivial
                    · exact okx.2
                    · trivial
                    · exact okx.1
                    · trivial
                · rw [hw1, hwx] at hn; rw [wks_append]; simp [wks, Itm.wk] at hn ⊢; omega
                · rw [← hc, cods_append]; simp [cods, Itm.cod, Kd.cod]
end

/-! ## read_kind -/
def spSign (K : PySem.W.Frag) (CT : Addr) : Sp := fun vs H Q E => ∃ c, vs = [.str (tx [c])] ∧
  (∀ p, rs c = some p → ∀ v' H', Dq K H' v' p.dat → Same H H' → Q v' H') ∧ (rs c = none → E (.ref CT) none H)
def spClose (K : PySem.W.Frag) (CT : Addr) : Sp := fun vs H Q E => ∃ (l : Addr) (us : List V) (st : List Pt), vs = [.ref l] ∧ H l = some (.lst us) ∧ DqAll K (out l H) us (st.reverse.map Pt.dat) ∧ st.length ≤ 1000000 ∧
  (∀ st', clo st = some st' → ∀ us' H', H' l = some (.lst us') → DqAll K (out l H') us' (st'.reverse.map Pt.dat) → Same (out l H) (out l H') → Q .non H') ∧
  (clo st = none → ∀ H', Same (out l H) (out l H') → E (.ref CT) none H')
def spRead (K : PySem.W.Frag) (CT : Addr) : Sp := fun vs H Q E => ∃ v d, vs = [v] ∧ Dq K H v d ∧
  (∀ cs, d = .str (tx cs) → cs.length ≤ 10000 ∧ (∀ k, rdK cs = some k → ∀ v' H', Dq K H' v' k.dat → Same H H' → Q v' H') ∧ (rdK cs = none → ∀ H', Same H H' → E (.ref CT) none H')) ∧
  ((∀ x, d ≠ .str x) → ∀ H', Same H H' → E (.ref CT) none H')
abbrev s_read_sign : Stmt := top 16
theorem sc_read_sign : FnScope ["sign"] ["sign"] (defScope s_read_sign) := ⟨rfl, rfl, rfl, by decide +kernel, rfl, by decide +kernel, by decide +kernel⟩
abbrev s_close_braces : Stmt := top 17
theorem sc_close_braces : FnScope ["parts", "brace", "one", "sign", "other"] ["parts"] (defScope s_close_braces) := ⟨rfl, rfl, rfl, by decide +kernel, rfl, by decide +kernel, by decide +kernel⟩
abbrev s_read_kind : Stmt := top 15
theorem sc_read_kind : FnScope ["text", "parts", "sign"] ["text"] (defScope s_read_kind) := ⟨rfl, rfl, rfl, by decide +kernel, rfl, by decide +kernel, by decide +kernel⟩
theorem in_letters (c : Nat) : decide (c ∈ ("abcdefgh" : Str).cps.toList) = decide (97 ≤ c ∧ c < 105) := by
  have e : ("abcdefgh" : Str).cps.toList = [97, 98, 99, 100, 101, 102, 103, 104] := by decide +kernel
  rw [e]
  refine decide_eq_decide.mpr ?_
  simp only [List.mem_cons, List.not_mem_nil, or_false]
  omega
theorem letter_ix {c : Nat} (h : 97 ≤ c ∧ c < 105) : Txt.index0 "abcdefgh" (tx [c]) = some (c - 97) := by
  have : ∀ m : Nat, m < 8 → Txt.index0 "abcdefgh" (tx [97 + m]) = some m := by decide +kernel
  have e : 97 + (c - 97) = c := by omega
  have := this (c - 97) (by omega)
  rwa [e] at this
theorem tx1 {c m : Nat} : V.str (tx [c]) = V.str (tx [m]) ↔ c = m := ⟨fun h => by have := tx_inj (V.str.inj h); simpa using this, fun h => by rw [h]⟩
theorem wos (c : Nat) : ([(("*" : Str), V.str "both"), (">", .str "from")].lookup (tx [c])).isSome = (decide (c = 42) || decide (c = 62)) := by
  have s1 : ("*" : Str) = tx [42] := by decide +kernel
  have s2 : (">" : Str) = tx [62] := by decide +kernel
  rw [s1, s2]
  by_cases h : c = 42
  · subst h; rfl
  · by_cases h2 : c = 62
    · subst h2; rfl
    · have e1 : (tx [c] == tx [42]) = false := beq_eq_false_iff_ne.mpr fun z => h (by have := tx_inj z; simpa using this)
      have e2 : (tx [c] == tx [62]) = false := beq_eq_false_iff_ne.mpr fun z => h2 (by have := tx_inj z; simpa using this)
      simp [List.lookup, e1, e2, h, h2]
section
variable {P : Program} {w : World} {K : PySem.W.Frag} {mg : Str → Option Value} {base : Heap} {CN CT : Addr}
theorem ok_read_sign (A : At K mg "_read_sign" s_read_sign) (T : Txt K mg w CN CT) : Cal P w K mg base (L2.CX P w) 1 "_read_sign" ["sign"] (spSign K CT) := by
  obtain ⟨f, fd, F, m⟩ := A
  refine ⟨f, fd, F.okX sc_read_sign (fun vs H Q E h => ?_) (fun cdv A outer s H vs Q E hr h => ?_), F.binds (ps := ["sign"]) (fun _ _ _ _ _ _ us hl => match us, hl with | [_], _ => rfl), F.kp, m⟩
  · obtain ⟨v, rfl, _⟩ := h; rfl
  obtain ⟨c, rfl, q1, q2⟩ := h
  refine ⟨_, (pss_cons (ps_if (pt_cmpR (op_eqA (room200 hr)) (pv 0) (pe_globS (by rfl) T.g_UNIT_TEXT) (nomark _))
   (pss_one (ps_ret (pe_tup (pa_cons pe_str pa_nil))))
   pss_nil)
  (pss_cons (ps_if (pt_cmpR op_in_sign (pv 0) (pe_globS (by rfl) T.g_BASE_LETTERS) rfl)
   (pss_one (ps_ret (pe_tup (pa_cons pe_str (pa_cons (pe_bmS PySem.F.plainAttrs_str PySem.F.slot_str_index PySem.F.type_str_index (mt_indexX rfl (takes_of rfl rfl rfl rfl)) (pe_globS (by rfl) T.g_BASE_LETTERS) (pa_cons (pv 0) pa_nil)) pa_nil)))))
   pss_nil)
  (pss_cons (ps_if (PW.pt (pw_or (pt_cmpR (op_eqA (room200 hr)) (pv 0) pe_str (nomark _)) (pw_or1 (pt_cmpR op_in_DS (pv 0) (pe_globD (by rfl) T.g_WORD_OF_SIGN) rfl))))
   (pss_one (ps_ret (pv 0)))
   pss_nil)
  (pss_one (ps_raiseO rfl (takes_of rfl rfl rfl rfl) T.e_NoText))))), ?_⟩
  refine ⟨_, rfl, .inl ⟨rfl, _, rfl, ?_⟩⟩
  by_cases h1 : c = 49
  · subst h1
    refine iteT' (decide_eq_true (by decide)) ⟨(by show 1 ≤ sizeLine; decide), fun p hp => ?_⟩
    exact q1 (.k .u) rfl _ _ (.tup (.of upd_same) (.cons (.str _) .nil)) (same_new hp _)
  · refine iteF' (decide_eq_false fun z => h1 (tx1.mp z)) ?_
    refine ⟨_, rfl, c, _, rfl, rfl, _, rfl, ?_⟩
    rw [in_letters]
    by_cases h2 : 97 ≤ c ∧ c < 105
    · refine iteT' (decide_eq_true h2) ⟨rfl, _, rfl, _, _, rfl, rfl, fun k hk => ?_, fun hn => by rw [letter_ix h2] at hn; cases hn⟩
      rw [letter_ix h2] at hk
      cases hk
      refine ⟨(by show 2 ≤ sizeLine; decide), fun p hp => ?_⟩
      exact q1 (.k (.b (c - 97))) (by unfold rs; rw [if_neg h1, if_pos h2]) _ _ (.tup (.of upd_same) (.cons (.str _) (.cons (.int _) .nil))) (same_new hp _)
    · refine iteF' (decide_eq_false h2) ?_
      have er : rs c = if c = 40 ∨ c = 42 ∨ c = 62 then some (.s c) else none := by unfold rs; rw [if_neg h1, if_neg h2]
      refine ⟨_, rfl, .inl ⟨rfl, _, rfl, ?_⟩⟩
      by_cases h3 : c = 40
      · subst h3
        refine iteT' (decide_eq_true (by decide)) (iteT ?_)
        exact ⟨_, rfl, q1 (.s 40) er _ _ (.str _) (Same.refl _)⟩
      · refine iteF' (decide_eq_false fun z => h3 (tx1.mp z)) ?_
        refine ⟨_, rfl, fun dd hD => ⟨_, dd, _, rfl, rfl, hD, _, rfl, ?_⟩⟩
        rw [if_neg Bool.false_ne_true, wos]
        by_cases h4 : c = 42 ∨ c = 62
        · refine iteT' (by simpa using h4) ?_
          exact ⟨_, rfl, q1 (.s c) (by rw [er, if_pos (.inr h4)]) _ _ (.str _) (Same.refl _)⟩
        · refine iteF' (by simpa using h4) ?_
          exact q2 (by rw [er, if_neg (by rintro (h | h); exact h3 h; exact h4 h)])
end

theorem Pt.ty_k (x : Kd) : tyN (Pt.dat (.k x)) = "tuple" := x.ty
/-- the last four of a stack -/
theorem take4 {α : Type} (pre : List α) (a b c d : α) : HT.sIx (pre ++ [a, b, c, d]).length 0 (some (-4)) = pre.length := by
  have e : (((pre ++ [a, b, c, d]).length : Nat) : Int) = (pre.length : Int) + 4 := by rw [List.length_append]; rfl
  simp only [HT.sIx, e]
  rw [if_pos (by decide)]
  omega
theorem cut4 (pre : List V) (a b c d : V) : cutV (pre ++ [a, b, c, d]) (some (-4)) none = [a, b, c, d] := by
  unfold cutV
  rw [take4, List.drop_left]
  have e : HT.sIx (pre ++ [a, b, c, d]).length (pre ++ [a, b, c, d]).length none - pre.length = 4 := by
    show (pre ++ [a, b, c, d]).length - pre.length = 4
    rw [List.length_append]; simp
  rw [e]; rfl
section
variable {P : Program} {w : World} {K : PySem.W.Frag} {mg : Str → Option Value} {base : Heap} {CN CT : Addr}
theorem ok_close_braces (A : At K mg "_close_braces" s_close_braces) (T : Txt K mg w CN CT) : Cal P w K mg base (L2.CX P w) 1 "_close_braces" ["parts"] (spClose K CT) := by
  obtain ⟨f, fd, F, m⟩ := A
  refine ⟨f, fd, F.okX sc_close_braces (fun vs H Q E h => ?_) (fun cdv A outer s H vs Q E hr h => ?_), F.binds (ps := ["parts"]) (fun _ _ _ _ _ _ us hl => match us, hl with | [_], _ => rfl), F.kp, m⟩
  · obtain ⟨l, us, st, rfl, _⟩ := h; rfl
  obtain ⟨l, us, st, rfl, e1, ha, hz, q1, q2⟩ := h
  refine ⟨_, (pss_cons (ps_if (pt_cmpR op_lt (pe_callB call_len (by rfl) T.z_len (by decide +kernel) (pa_cons (pv 0) pa_nil)) pe_int (nomark _))
   (pss_one (ps_raiseO rfl (takes_of rfl rfl rfl rfl) T.e_NoText))
   pss_nil)
  (pss_cons (ps_asg (pe_slice sl_A (pv 0) (po_some (pe_un un_neg pe_int)) po_none) (pg_unl (by rfl) (pgs_cons (pg_name (i := 1) sc_close_braces.nd rfl (by first | exact Or.inl rfl | exact Or.inr rfl)) (pgs_cons (pg_name (i := 2) sc_close_braces.nd rfl (by first | exact Or.inl rfl | exact Or.inr rfl)) (pgs_cons (pg_name (i := 3) sc_close_braces.nd rfl (by first | exact Or.inl rfl | exact Or.inr rfl)) (pgs_cons (pg_name (i := 4) sc_close_braces.nd rfl (by first | exact Or.inl rfl | exact Or.inr rfl)) pgs_nil))))))
  (pss_cons (ps_if (PW.pt (pw_or (pt_cmpR op_notTyB (pe_callTy call_type1 (by rfl) T.z_type (by decide +kernel) (pa_cons (pv 2) pa_nil)) (pe_bltn (v := .ty "tuple") (by rfl) T.z_tuple (by decide +kernel) rfl) (nomark _)) (pw_or1 (pt_cmpR op_notTyB (pe_callTy call_type1 (by rfl) T.z_type (by decide +kernel) (pa_cons (pv 4) pa_nil)) (pe_bltn (v := .ty "tuple") (by rfl) T.z_tuple (by decide +kernel) rfl) (nomark _)))))
   (pss_one (ps_raiseO rfl (takes_of rfl rfl rfl rfl) T.e_NoText))
   pss_nil)
  (pss_cons (ps_if (PW.pt (pw_or (pt_cmpR (op_neA (room200 hr)) (pv 1) pe_str (nomark _)) (pw_or (pt_cmpR op_notTyB (pe_callTy call_type1 (by rfl) T.z_type (by decide +kernel) (pa_cons (pv 3) pa_nil)) (pe_bltn (v := .ty "str") (by rfl) T.z_str (by decide +kernel) rfl) (nomark _)) (pw_or1 (pt_cmpR op_notIn_DS (pv 3) (pe_globD (by rfl) T.g_WORD_OF_SIGN) rfl)))))
   (pss_one (ps_raiseO rfl (takes_of rfl rfl rfl rfl) T.e_NoText))
   pss_nil)
  (pss_one (ps_asg (pe_lst (pa_cons (pe_tup (pa_cons (pe_ix ix_B (pe_globD (by rfl) T.g_WORD_OF_SIGN) (pv 3) (fun _ _ => rfl)) (pa_cons (pv 2) (pa_cons (pv 4) pa_nil)))) pa_nil)) (pg_cut (pv 0) (po_some (pe_un un_neg pe_int)) po_none))))))), ?_⟩
  have hlen : us.length = st.length := by rw [ha.length, List.length_map, List.length_reverse]
  refine ⟨_, rfl, _, _, rfl, .inl ⟨_, .of e1, rfl⟩, _, _, rfl, rfl, _, rfl, ?_⟩
  rw [hlen]
  refine ite2 (fun c => ?_) (fun c => ?_)
  · have c' : (st.length : Int) < 4 := of_decide_eq_true c
    refine q2 ?_ H (Same.refl _)
    match st, c' with
    | [], _ => rfl
    | [a], _ => cases a <;> rfl
    | [a, b], _ => cases a <;> cases b <;> rfl
    | [a, b, c], _ => cases a <;> cases b <;> cases c <;> rfl
    | a :: b :: c :: d :: r, h => simp only [List.length_cons] at h; omega
  · have c' : ¬ (st.length : Int) < 4 := of_decide_eq_false (Bool.eq_false_iff.mpr c)
    obtain ⟨t4, t3, t2, t1, r, rfl⟩ : ∃ a b c d r, st = a :: b :: c :: d :: r := by
      match st, c' with
      | [], h => exact absurd (by decide) h
      | [_], h => exact absurd (by simp) h
      | [_, _], h => exact absurd (by simp) h
      | [_, _, _], h => exact absurd (by simp) h
      | a :: b :: c :: d :: r, _ => exact ⟨a, b, c, d, r, rfl⟩
    have er : (t4 :: t3 :: t2 :: t1 :: r).reverse.map Pt.dat = r.reverse.map Pt.dat ++ [t1.dat, t2.dat, t3.dat, t4.dat] := by simp
    rw [er] at ha
    obtain ⟨pre, v1, v2, v3, v4, rfl, hpre, h1, h2, h3, h4⟩ := DqAll.last4 ha
    refine ⟨_, rfl, _, rfl, _, rfl, .inl ⟨l, _, rfl, .of e1, fun p hp => ?_⟩⟩
    rw [cut4]
    have npl : l ≠ p := ne_of_none e1 hp
    refine ⟨p, _, rfl, .of upd_same, rfl, _, _, rfl, _, _, rfl, _, _, rfl, _, _, rfl, rfl, ?_⟩
    have s1 : Same (out l H) (upd H p (.lst [v1, v2, v3, v4])) := (out_sub l H).trans (same_new hp _)
    have so : Same (out l H) (out l (upd H p (.lst [v1, v2, v3, v4]))) := out_new hp _
    have g1 := h1.same s1
    have g2 := h2.same s1
    have g3 := h3.same s1
    have g4 := h4.same s1
    have bad : clo (t4 :: t3 :: t2 :: t1 :: r) = none → E (.ref CT) none (upd H p (.lst [v1, v2, v3, v4])) := fun hc => q2 hc _ so
    refine ⟨_, rfl, _, _, rfl, g2.ty, _, _, rfl, rfl, _, rfl, ?_⟩
    cases t2 with
    | s c2 => exact iteT' (show (!decide (("str" : String) = "tuple")) = true from by decide) (iteT (bad (by cases t4 <;> cases t3 <;> rfl)))
    | k x =>
      refine iteF' (by show (!decide (tyN x.dat = "tuple")) = false; rw [x.ty]; decide) ?_
      refine ⟨_, rfl, _, _, rfl, g4.ty, _, _, rfl, rfl, _, rfl, ?_⟩
      cases t4 with
      | s c4 => exact iteT' (show (!decide (("str" : String) = "tuple")) = true from by decide) (bad rfl)
      | k y =>
        refine iteF' (by show (!decide (tyN y.dat = "tuple")) = false; rw [y.ty]; decide) ?_
        cases t1 with
        | k z =>
          refine ⟨_, rfl, .inr ⟨z.dat, .str "(", g1.dp z.dat_lay, .str _, z.dat_lay, str_lay (by decide +kernel), by simp [PyData.depth], _, rfl, ?_⟩⟩
          exact iteT' (by rw [z.ne_str]; rfl) (iteT (bad (by cases t3 <;> rfl)))
        | s b =>
          cases g1
          refine ⟨_, rfl, .inl ⟨rfl, _, rfl, ?_⟩⟩
          by_cases hb : b = 40
          · subst hb
            refine iteF' (by decide) ?_
            refine ⟨_, rfl, _, _, rfl, g3.ty, _, _, rfl, rfl, _, rfl, ?_⟩
            cases t3 with
            | k z => exact iteT' (by show (!decide (tyN z.dat = "str")) = true; rw [z.ty]; decide) (iteT (bad rfl))
            | s c3 =>
              cases g3
              refine iteF' (show (!decide (("str" : String) = "str")) = false from by decide) ?_
              refine ⟨_, rfl, fun dd hD => ⟨_, dd, _, rfl, rfl, hD, _, rfl, ?_⟩⟩
              rw [if_pos rfl, wos]
              have fin : ∀ (wd : Str) (kk : Kd), [(("*" : Str), V.str "both"), (">", .str "from")].lookup (tx [c3]) = some (.str wd) → kk.dat = .tuple [.str wd, x.dat, y.dat] → clo (.k y :: .s c3 :: .k x :: .s 40 :: r) = some (.k kk :: r) →
                  ∀ (H1 : Hp) (t u : Addr), H1 = upd H p (.lst [.str (tx [40]), v2, .str (tx [c3]), v4]) → H1 t = none → upd H1 t (.tup [.str wd, v2, v4]) u = none →
                  Q .non (upd (upd (upd H1 t (.tup [.str wd, v2, v4])) u (.lst [.ref t])) l (.lst (pre ++ [.ref t]))) := by
                intro wd kk hl hk hc H1 t u eH ht hu
                have eL : H1 l = some (.lst (pre ++ [.str (tx [40]), v2, .str (tx [c3]), v4])) := by rw [eH, upd_ne npl]; exact e1
                have e2 : upd H1 t (.tup [.str wd, v2, v4]) l = some (.lst (pre ++ [.str (tx [40]), v2, .str (tx [c3]), v4])) := by rw [upd_ne (ne_of_none eL ht)]; exact eL
                have nlt : t ≠ l := (ne_of_none eL ht).symm
                have ntu : t ≠ u := ne_of_none upd_same hu
                have sA : Same (out l H) (out l (upd (upd (upd H1 t (.tup [.str wd, v2, v4])) u (.lst [.ref t])) l (.lst (pre ++ [.ref t])))) := by
                  rw [eH]
                  exact ((so.trans (out_new (by rw [← eH]; exact ht) _)).trans (out_new (by rw [← eH]; exact hu) _)).trans (out_set _)
                refine q1 (.k kk :: r) hc (pre ++ [.ref t]) _ upd_same ?_ sA
                have er2 : (Pt.k kk :: r).reverse.map Pt.dat = r.reverse.map Pt.dat ++ [kk.dat] := by simp [Pt.dat]
                rw [er2, hk]
                refine (hpre.same sA).append (.cons (.tup (.of (out_at nlt ?_)) (.cons (.str _) (.cons (h2.same sA) (.cons (h4.same sA) .nil)))) .nil)
                rw [upd_ne nlt, upd_ne ntu]; exact upd_same
              have room : (pre ++ [V.str (tx [40]), v2, .str (tx [c3]), v4]).length + 1 ≤ sizeLine := fits (by rw [hlen]; omega)
              have last : ∀ t : Addr, (pre ++ [V.str (tx [40]), v2, .str (tx [c3]), v4]).take (HT.sIx (pre ++ [V.str (tx [40]), v2, .str (tx [c3]), v4]).length 0 (some (-4))) ++ [V.ref t] ++
                  (pre ++ [V.str (tx [40]), v2, .str (tx [c3]), v4]).drop (HT.sIx (pre ++ [V.str (tx [40]), v2, .str (tx [c3]), v4]).length (pre ++ [V.str (tx [40]), v2, .str (tx [c3]), v4]).length none) = pre ++ [.ref t] := by
                intro t
                rw [take4, List.take_left]
                show pre ++ [V.ref t] ++ List.drop (pre ++ [V.str (tx [40]), v2, .str (tx [c3]), v4]).length _ = _
                rw [List.drop_length, List.append_nil]
              by_cases h46 : c3 = 42 ∨ c3 = 62
              · obtain ⟨wd, kk, hl, hk, hc⟩ : ∃ (wd : Str) (kk : Kd), [(("*" : Str), V.str "both"), (">", .str "from")].lookup (tx [c3]) = some (.str wd) ∧ kk.dat = .tuple [.str wd, x.dat, y.dat] ∧ clo (.k y :: .s c3 :: .k x :: .s 40 :: r) = some (.k kk :: r) := by
                  rcases h46 with rfl | rfl
                  · exact ⟨"both", .p x y, rfl, rfl, rfl⟩
                  · exact ⟨"from", .f x y, rfl, rfl, rfl⟩
                refine iteF' (by rcases h46 with rfl | rfl <;> decide) ?_
                refine fun d2 hD2 => ⟨_, rfl, .inr ⟨tx [c3], d2, _, .str wd, rfl, rfl, hD2, hl, _, rfl, _, rfl, (by show 3 ≤ sizeLine; decide), fun t ht => ⟨(by show 1 ≤ sizeLine; decide), fun u hu => ?_⟩⟩⟩
                have l1 : upd H p (.lst [.str (tx [40]), v2, .str (tx [c3]), v4]) l = some (.lst (pre ++ [.str (tx [40]), v2, .str (tx [c3]), v4])) := by rw [upd_ne npl]; exact e1
                have l2 := (upd_ne (o := .tup [.str wd, v2, v4]) (ne_of_none l1 ht)).trans l1
                have l3 := (upd_ne (o := .lst [.ref t]) (ne_of_none l2 hu)).trans l2
                refine ⟨_, rfl, _, rfl, _, rfl, l, u, _, _, rfl, rfl, l3, upd_same, ne_of_none l2 hu, ?_, room, ?_⟩
                · rw [take4]; show pre.length ≤ (pre ++ [V.str (tx [40]), v2, .str (tx [c3]), v4]).length; rw [List.length_append]; omega
                · rw [last]; exact fin wd kk hl hk hc _ t u rfl ht hu
              · refine iteT' (by simpa using h46) (bad ?_)
                have h42 : ¬ c3 = 42 := fun z => h46 (.inl z)
                have h62 : ¬ c3 = 62 := fun z => h46 (.inr z)
                simp [clo, h42, h62]
          · exact iteT' (by rw [decide_eq_false (p := V.str (tx [b]) = V.str "(") fun z => hb (tx1.mp z)]; rfl) (iteT (bad (by cases t3 <;> simp [clo, hb])))
end

/-- what holds between two signs -/
def RdW (K : PySem.W.Frag) (H : Hp) (v : V) (l : Addr) (cs : List Nat) (i n : Nat) (σ : L2.St) (H' : Hp) : Prop :=
  ∃ (us : List V) (st : List Pt) (o : Option V), σ = [some v, some (.ref l), o] ∧ H' l = some (.lst us) ∧ DqAll K (out l H') us (st.reverse.map Pt.dat) ∧ i ≤ cs.length ∧ n = cs.length - i ∧ rdR cs [] = rdR (cs.drop i) st ∧ st.length ≤ i ∧ Same H (out l H')
section
variable {P : Program} {w : World} {K : PySem.W.Frag} {mg : Str → Option Value} {base : Heap} {CN CT : Addr}
theorem ok_read_kind (A : At K mg "read_kind" s_read_kind) (T : Txt K mg w CN CT) (C_close_braces : Cal P w K mg base (L2.CX P w) 1 "_close_braces" ["parts"] (spClose K CT)) (C_read_sign : Cal P w K mg base (L2.CX P w) 1 "_read_sign" ["sign"] (spSign K CT)) :
    Cal P w K mg base (L2.CX P w) 2 "read_kind" ["text"] (spRead K CT) := by
  obtain ⟨f, fd, F, m⟩ := A
  refine ⟨f, fd, F.okX sc_read_kind (fun vs H Q E h => ?_) (fun cdv A outer s H vs Q E hr h => ?_), F.binds (ps := ["text"]) (fun _ _ _ _ _ _ us hl => match us, hl with | [_], _ => rfl), F.kp, m⟩
  · obtain ⟨v, d, rfl, _⟩ := h; rfl
  obtain ⟨v, d, rfl, hd, q1, q2⟩ := h
  refine ⟨_, (pss_cons (ps_if (pt_cmpR op_notTyB (pe_callTy call_type1 (by rfl) T.z_type (by decide +kernel) (pa_cons (pv 0) pa_nil)) (pe_bltn (v := .ty "str") (by rfl) T.z_str (by decide +kernel) rfl) (nomark _))
   (pss_one (ps_raiseO rfl (takes_of rfl rfl rfl rfl) T.e_NoText))
   pss_nil)
  (pss_cons (ps_set (i := 1) sc_read_kind.nd rfl (by first | exact Or.inl rfl | exact Or.inr rfl) (pe_lst pa_nil))
  (pss_cons (ps_for (passes_of rfl) rfl (pi_str (pv 0)) (pg_name (i := 2) sc_read_kind.nd rfl (by first | exact Or.inl rfl | exact Or.inr rfl))
   (pss_one (ps_if (pt_cmpR (op_eqA (room200 hr)) (pv 2) pe_str (nomark _))
   (pss_one (ps_expr (pe_calC C_close_braces (hr.mono (by first | decide | omega)) (passes_call (takes_of rfl rfl rfl rfl) (fun _ _ _ _ h => h)) (pa_cons (pv 1) pa_nil))))
   (pss_one (ps_expr (pe_bm PySem.F.plainAttrs_list PySem.F.slot_list_append PySem.F.type_list_append mt_append (pv 1) (pa_cons (pe_calC C_read_sign (hr.mono (by first | decide | omega)) (passes_call (takes_of rfl rfl rfl rfl) (fun _ _ _ _ h => h)) (pa_cons (pv 2) pa_nil)) pa_nil)))))))
  (pss_cons (ps_if (PW.pt (pw_or (pt_cmpR (op_neA (room200 hr)) (pe_callB call_len (by rfl) T.z_len (by decide +kernel) (pa_cons (pv 1) pa_nil)) pe_int (nomark _)) (pw_or1 (pt_cmpR op_notTyB (pe_callTy call_type1 (by rfl) T.z_type (by decide +kernel) (pa_cons (pe_ix ix_B (pv 1) pe_int (fun _ _ => rfl)) pa_nil)) (pe_bltn (v := .ty "tuple") (by rfl) T.z_tuple (by decide +kernel) rfl) (nomark _)))))
   (pss_one (ps_raiseO rfl (takes_of rfl rfl rfl rfl) T.e_NoText))
   pss_nil)
  (pss_one (ps_ret (pe_ix ix_B (pv 1) pe_int (fun _ _ => rfl)))))))), ?_⟩
  refine ⟨_, rfl, _, _, rfl, hd.ty, _, _, rfl, rfl, _, rfl, ?_⟩
  by_cases hs : tyN d = "str"
  · cases hd <;> simp [tyN] at hs
    rename_i x
    obtain ⟨hz, qy, qn⟩ := q1 x.cps.toList (by rw [tx_tl])
    generalize hcs : x.cps.toList = cs at *
    have hxs : x.cps.size = cs.length := by rw [← hcs]; simp
    refine iteF' (show (!decide (("str" : String) = "str")) = false from by decide) ⟨Nat.zero_le _, fun l hl => ?_⟩
    refine ⟨_, rfl, x, rfl, RdW K H (.str x) l cs, ⟨cs.length, [], [], none, rfl, upd_same, .nil, Nat.zero_le _, rfl, rfl, Nat.le_refl _, same_keepO' hl⟩, ?_⟩
    rintro i n σ H1 ⟨us, st, o, rfl, e1, ha, hi, rfl, hrd, hst, sm⟩
    have hlen : us.length = st.length := by rw [ha.length, List.length_map, List.length_reverse]
    by_cases hlt : i < cs.length
    · refine .inr ⟨(by show i < x.cps.size; omega), _, fun _ _ z => z, ?_⟩
      rintro y H2 ⟨rfl, c, hc, rfl⟩
      have hci : cs[i]? = some c := by rw [← hcs, Array.getElem?_toList]; exact hc
      have hdrop : cs.drop i = c :: cs.drop (i + 1) := by
        obtain ⟨h1, h2⟩ := List.getElem?_eq_some_iff.mp hci
        rw [← h2]; exact List.drop_eq_getElem_cons h1
      rw [hdrop] at hrd
      refine ⟨_, rfl, .inl ⟨rfl, _, rfl, ?_⟩⟩
      by_cases h41 : c = 41
      · subst h41
        have hrd' : rdR cs [] = (clo st).bind (rdR (cs.drop (i + 1))) := hrd.trans (rdR_close _ _)
        refine iteT' (by decide) ⟨_, rfl, l, us, st, rfl, e1, ha, by omega, fun st' hc us' H3 e3 ha3 s3 => ?_, fun hc H3 s3 => ?_⟩
        · refine ⟨cs.length - (i + 1), by omega, us', st', _, rfl, e3, ha3, hlt, rfl, ?_, ?_, sm.trans s3⟩
          · rw [hrd', hc]; rfl
          · obtain ⟨x1, y1, c1, r1, rfl, h2⟩ := clo_is hc
            rcases h2 with ⟨_, rfl⟩ | ⟨_, rfl⟩ <;> simp only [List.length_cons] at hst ⊢ <;> omega
        · exact qn (by unfold rdK; rw [hrd', hc]; rfl) H3 (of_out (sm.trans s3))
      · have hrd' : rdR cs [] = (rs c).bind fun p => rdR (cs.drop (i + 1)) (p :: st) := hrd.trans (rdR_sign h41 _ _)
        refine iteF' (decide_eq_false fun z => h41 (tx1.mp z)) ?_
        refine ⟨_, rfl, .inl ⟨rfl, _, .of e1⟩, _, rfl, c, rfl, fun p hp v' H3 hv s3 => ?_, fun hn => ?_⟩
        · have e3 := s3 _ _ e1
          refine ⟨l, us, _, rfl, rfl, e3, fits_lt (by omega), ?_⟩
          have s4 : Same (out l H2) (out l (upd H3 l (.lst (us ++ [v'])))) := (out_same s3).trans (out_set _)
          refine ⟨cs.length - (i + 1), by omega, us ++ [v'], p :: st, _, rfl, upd_same, ?_, hlt, rfl, ?_, by simp only [List.length_cons]; omega, sm.trans s4⟩
          · have er : (p :: st).reverse.map Pt.dat = st.reverse.map Pt.dat ++ [p.dat] := by simp
            rw [er]
            exact (ha.same s4).append (.cons ((hv.outp e3 p.pure).same (out_set _)) .nil)
          · rw [hrd', hp]; rfl
        · exact qn (by unfold rdK; rw [hrd', hn]; rfl) H2 (of_out sm)
    · have hil : i = cs.length := by omega
      subst hil
      refine .inl ⟨(by show x.cps.size ≤ cs.length; omega), ?_⟩
      rw [List.drop_length] at hrd
      have hrd' : rdK cs = rdE st := by unfold rdK; rw [hrd]; rfl
      refine ⟨_, rfl, _, _, rfl, .inl ⟨_, .of e1, rfl⟩, .inl ⟨rfl, _, rfl, ?_⟩⟩
      have bad : rdE st = none → E (.ref CT) none H1 := fun h => qn (hrd'.trans h) H1 (of_out sm)
      match st, us, ha, hlen, hrd', bad, e1 with
      | [], [], _, _, _, bad, _ => exact iteT' (by decide) (iteT (bad rfl))
      | [p], [v1], ha, _, hrd', bad, e1 =>
        refine iteF' (show (!decide (V.int ((1 : Nat) : Int) = V.int 1)) = false from by decide) ⟨_, rfl, .inl (.inl ⟨l, _, 0, v1, rfl, rfl, .of e1, at0 _ _, ?_⟩)⟩
        cases ha with
        | cons h1 h2 =>
          refine ⟨_, _, rfl, (h1.same (out_sub l H1)).ty, _, _, rfl, rfl, _, rfl, ?_⟩
          cases p with
          | s c => exact iteT' (show (!decide (("str" : String) = "tuple")) = true from by decide) (bad rfl)
          | k x1 =>
            refine iteF' (by show (!decide (tyN x1.dat = "tuple")) = false; rw [x1.ty]; decide) ?_
            exact ⟨_, rfl, .inl (.inl ⟨l, _, 0, v1, rfl, rfl, .of e1, at0 _ _, qy x1 hrd' v1 H1 (h1.same (out_sub l H1)) (of_out sm)⟩)⟩
      | p1 :: p2 :: r, v1 :: v2 :: r', _, hlen, _, bad, _ =>
        refine iteT' ?_ (iteT (bad ?_))
        · rw [decide_eq_false]; rfl
          intro z
          have z' := V.int.inj z
          simp only [List.length_cons] at z'
          omega
        · cases p1 <;> rfl
      | [], _ :: _, _, hlen, _, _, _ => simp at hlen
      | _ :: _, [], _, hlen, _, _, _ => simp at hlen
      | [_], _ :: _ :: _, _, hlen, _, _, _ => simp at hlen
      | _ :: _ :: _, [_], _, hlen, _, _, _ => simp at hlen
  · refine iteT' (by simp [hs]) ?_
    exact q2 (fun x e => hs (by rw [e]; rfl)) H (Same.refl _)
end

/-! ## a drawn kind -/
def spKind (K : PySem.W.Frag) (N : Nat) : Sp := fun vs H Q _ => ∃ (w : Addr) (n : Int), vs = [.ref w, .int n] ∧ Well H w ∧ 0 ≤ n ∧ n < N ∧ N ≤ 1000 ∧
  ∀ (k : Kd) (v : V) (H' : Hp), k.ok → k.leaves ≤ max 1 n.toNat → Dq K (out w H') v k.dat → Aft w H H' → Q v H'
abbrev s_law_kind : Stmt := top 23
theorem sc_law_kind : FnScope ["well", "leaves", "first", "word"] ["well", "leaves"] (defScope s_law_kind) := ⟨rfl, rfl, rfl, by decide +kernel, rfl, by decide +kernel, by decide +kernel⟩
section
variable {P : Program} {w : World} {K : PySem.W.Frag} {mg : Str → Option Value} {base : Heap} {CN CT : Addr}
theorem base_at {K : PySem.W.Frag} {H : Hp} {p : Addr} {d : Int} (h : H p = some (.tup [.str "base", .int d])) (d0 : 0 ≤ d) : Dq K H (.ref p) (Kd.b d.toNat).dat := by
  have e : ((d.toNat : Nat) : Int) = d := by omega
  refine .tup (.of h) (.cons (.str _) (.cons ?_ .nil))
  show Dq K H (.int d) (.int (d.toNat : Nat))
  rw [e]; exact .int _
theorem unit_at {K : PySem.W.Frag} {H : Hp} {p : Addr} (h : H p = some (.tup [.str "unit"])) : Dq K H (.ref p) Kd.u.dat := .tup (.of h) (.cons (.str _) .nil)
theorem ok_kind1 {N : Nat} (A : At K mg "_law_kind" s_law_kind) (T : Txt K mg w CN CT) (C_law_draw : Cal P w K mg base CX0 1 "_law_draw" ["well", "below"] spDraw) (C_law_one : Cal P w K mg base CX0 2 "_law_one" ["well", "some"] (spOne K))
    (C_law_kind : Cal P w K mg base CX0 (N + 2) "_law_kind" ["well", "leaves"] (spKind K N)) : Cal P w K mg base CX0 (N + 3) "_law_kind" ["well", "leaves"] (spKind K (N + 1)) := by
  obtain ⟨f, fd, F, m⟩ := A
  refine ⟨f, fd, F.ok sc_law_kind (fun vs H Q E h => ?_) (fun cdv A outer s H vs Q E hr h => ?_), F.binds (ps := ["well", "leaves"]) (fun _ _ _ _ _ _ us hl => match us, hl with | [_, _], _ => rfl), F.kp, m⟩
  · obtain ⟨w, n, rfl, _⟩ := h; rfl
  obtain ⟨wl, n, rfl, hw, n0, n1, hN, q⟩ := h
  refine ⟨_, (pss_cons (ps_if (pt_cmpR op_lt (pv 1) pe_int (nomark _))
   (pss_one (ps_ret (pe_calC C_law_one (hr.mono (by first | decide | omega)) pass0 (pa_cons (pv 0) (pa_cons (pe_lst (pa_cons (pe_tup (pa_cons pe_str (pa_cons (pe_calC C_law_draw (hr.mono (by first | decide | omega)) pass0 (pa_cons (pv 0) (pa_cons pe_int pa_nil))) pa_nil))) (pa_cons (pe_tup (pa_cons pe_str (pa_cons (pe_calC C_law_draw (hr.mono (by first | decide | omega)) pass0 (pa_cons (pv 0) (pa_cons pe_int pa_nil))) pa_nil))) (pa_cons (pe_tup (pa_cons pe_str (pa_cons pe_int pa_nil))) (pa_cons (pe_tup (pa_cons pe_str pa_nil)) pa_nil))))) pa_nil)))))
   pss_nil)
  (pss_cons (ps_set (i := 2) sc_law_kind.nd rfl (by first | exact Or.inl rfl | exact Or.inr rfl) (pe_op op_addA pe_int (pe_calC C_law_draw (hr.mono (by first | decide | omega)) pass0 (pa_cons (pv 0) (pa_cons (pe_op op_sub (pv 1) pe_int) pa_nil)))))
  (pss_cons (ps_set (i := 3) sc_law_kind.nd rfl (by first | exact Or.inl rfl | exact Or.inr rfl) (pe_calC C_law_one (hr.mono (by first | decide | omega)) pass0 (pa_cons (pv 0) (pa_cons (pe_lst (pa_cons pe_str (pa_cons pe_str pa_nil))) pa_nil))))
  (pss_one (ps_ret (pe_tup (pa_cons (pv 3) (pa_cons (pe_calC C_law_kind (hr.mono (by first | decide | omega)) pass0 (pa_cons (pv 0) (pa_cons (pv 2) pa_nil))) (pa_cons (pe_calC C_law_kind (hr.mono (by first | decide | omega)) pass0 (pa_cons (pv 0) (pa_cons (pe_op op_sub (pv 1) (pv 2)) pa_nil))) pa_nil))))))))), ?_⟩
  refine ⟨_, rfl, _, _, rfl, rfl, _, rfl, ?_⟩
  refine ite2 (fun c => ?_) (fun c => ?_)
  · refine ⟨_, rfl, _, rfl, wl, _, rfl, hw, by decide, by decide, fun d1 H1 d10 d1n a1 => ⟨(by show 2 ≤ sizeLine; decide), fun p1 hp1 => ?_⟩⟩
    have e1 := a1.well.laid hp1 (.tup [.str "base", .int d1])
    refine ⟨_, rfl, wl, _, rfl, a1.well.new hp1 _, by decide, by decide, fun d2 H2 d20 d2n a2 => ⟨(by show 2 ≤ sizeLine; decide), fun p2 hp2 => ?_⟩⟩
    have b2 := (a1.new hp1 (.tup [.str "base", .int d1])).trans a2
    have e2 := b2.well.laid hp2 (.tup [.str "base", .int d2])
    refine ⟨(by show 2 ≤ sizeLine; decide), fun p3 hp3 => ?_⟩
    have b3 := b2.new hp2 (.tup [.str "base", .int d2])
    have e3 := b3.well.laid hp3 (.tup [.str "base", .int 0])
    refine ⟨(by show 1 ≤ sizeLine; decide), fun p4 hp4 => ?_⟩
    have b4 := b3.new hp3 (.tup [.str "base", .int 0])
    have e4 := b4.well.laid hp4 (.tup [.str "unit"])
    refine ⟨(by show 4 ≤ sizeLine; decide), fun l hl => ?_⟩
    have b5 := b4.new hp4 (.tup [.str "unit"])
    refine ⟨wl, l, _, rfl, b5.well.new hl _, upd_same, b5.well.ne hl, by simp, by show (4 : Nat) < 1073741824; decide, fun v hv H' a => ?_⟩
    have b6 := (b5.new hl (.lst [.ref p1, .ref p2, .ref p3, .ref p4])).trans a
    have z6 := (out_new hl (.lst [.ref p1, .ref p2, .ref p3, .ref p4])).trans a.but
    have z5 := (out_new hp4 (.tup [.str "unit"])).trans z6
    have z4 := (out_new hp3 (.tup [.str "base", .int 0])).trans z5
    have z3 := (out_new hp2 (.tup [.str "base", .int d2])).trans z4
    have z2 := a2.but.trans z3
    simp only [List.mem_cons, List.not_mem_nil, or_false] at hv
    rcases hv with rfl | rfl | rfl | rfl
    · exact q (.b d1.toNat) _ H' (by show d1.toNat < 8; omega) (by simp only [Kd.leaves]; omega) (base_at (z2 _ _ e1) d10) b6
    · exact q (.b d2.toNat) _ H' (by show d2.toNat < 8; omega) (by simp only [Kd.leaves]; omega) (base_at (z4 _ _ e2) d20) b6
    · exact q (.b 0) _ H' (by show 0 < 8; omega) (by simp only [Kd.leaves]; omega) (base_at (d := 0) (z5 _ _ e3) (by decide)) b6
    · exact q .u _ H' trivial (by simp only [Kd.leaves]; omega) (unit_at (z6 _ _ e4)) b6
  · have c' : ¬ n < 2 := of_decide_eq_false (Bool.eq_false_iff.mpr c)
    refine ⟨_, rfl, _, rfl, _, _, rfl, rfl, wl, n - 1, rfl, hw, by omega, by omega, fun d H1 d0 d1 a1 => .inl ⟨_, _, rfl, rfl, ?_⟩⟩
    refine ⟨_, rfl, (by show 2 ≤ sizeLine; decide), fun l hl => ?_⟩
    have hw1 := a1.well.new hl (.lst [.str "both", .str "from"])
    refine ⟨wl, l, _, rfl, hw1, upd_same, a1.well.ne hl, by simp, by show (2 : Nat) < 1073741824; decide, fun wd hwd H2 a2 => ?_⟩
    have b2 := (a1.new hl (.lst [.str "both", .str "from"])).trans a2
    refine ⟨_, rfl, _, rfl, _, rfl, wl, _, rfl, a2.well, by omega, by omega, by omega, fun k1 v1 H3 ok1 le1 dk1 a3 => ?_⟩
    refine ⟨_, rfl, _, rfl, _, rfl, _, _, rfl, rfl, wl, n - (1 + d), rfl, a3.well, by omega, by omega, by omega, fun k2 v2 H4 ok2 le2 dk2 a4 => ⟨(by show 3 ≤ sizeLine; decide), fun p hp => ?_⟩⟩
    have b4 := ((b2.trans a3).trans a4).new hp (.tup [wd, v1, v2])
    have en := a4.well.laid hp (.tup [wd, v1, v2])
    have s4 := out_new (w := wl) hp (.tup [wd, v1, v2])
    have hle : k1.leaves + k2.leaves ≤ max 1 n.toNat := by omega
    simp only [List.mem_cons, List.not_mem_nil, or_false] at hwd
    rcases hwd with rfl | rfl
    · exact q (.p k1 k2) _ _ ⟨ok1, ok2⟩ hle (.tup (.of en) (.cons (.str _) (.cons (dk1.same (a4.but.trans s4)) (.cons (dk2.same s4) .nil)))) b4
    · exact q (.f k1 k2) _ _ ⟨ok1, ok2⟩ hle (.tup (.of en) (.cons (.str _) (.cons (dk1.same (a4.but.trans s4)) (.cons (dk2.same s4) .nil)))) b4
theorem ok_kind (A : At K mg "_law_kind" s_law_kind) (T : Txt K mg w CN CT) (C_law_draw : Cal P w K mg base CX0 1 "_law_draw" ["well", "below"] spDraw) (C_law_one : Cal P w K mg base CX0 2 "_law_one" ["well", "some"] (spOne K)) :
    ∀ N : Nat, Cal P w K mg base CX0 (N + 2) "_law_kind" ["well", "leaves"] (spKind K N)
  | 0 => cal_vac A (fun f fd F => F.binds (ps := ["well", "leaves"]) (fun _ _ _ _ _ _ us hl => match us, hl with | [_, _], _ => rfl)) fun vs H Q E ⟨w, n, _, _, h0, h1, _⟩ => by omega
  | N + 1 => ok_kind1 A T C_law_draw C_law_one (ok_kind A T C_law_draw C_law_one N)
end

/-! ## the law's own reading of kinds -/
def spKin (K : PySem.W.Frag) : Sp := fun vs H Q _ => ∃ cs, vs = [.str (tx cs)] ∧ cs.length ≤ 240 ∧
  (∀ k, rdK cs = some k → ∀ v H', Dq K H' v k.dat → Same H H' → Q v H') ∧ (rdK cs = none → ∀ H', Same H H' → Q .non H')
abbrev s_law_kind_in : Stmt := top 24
theorem sc_law_kind_in : FnScope ["text", "row", "sign", "last"] ["text"] (defScope s_law_kind_in) := ⟨rfl, rfl, rfl, by decide +kernel, rfl, by decide +kernel, by decide +kernel⟩
theorem room65 {k : Nat} {A : Around} (r : Room k A) : A.units + 65 < cLine := by have := r.un; omega
theorem leaves_cod : ∀ k : Kd, 4 * k.leaves ≤ k.cod.length + 3
  | .b _ => by simp [Kd.cod, Kd.leaves]
  | .u => by simp [Kd.cod, Kd.leaves]
  | .p x y => by have := leaves_cod x; have := leaves_cod y; simp only [Kd.cod, Kd.leaves, List.length_cons, List.length_append, List.length_nil]; omega
  | .f x y => by have := leaves_cod x; have := leaves_cod y; simp only [Kd.cod, Kd.leaves, List.length_cons, List.length_append, List.length_nil]; omega
theorem codR_app (a b : List Pt) : codR (a ++ b) = codR b ++ codR a := by simp [codR]
theorem clo_cod {st st' : List Pt} (h : clo st = some st') : codR st' = codR st ++ [41] := by
  obtain ⟨x, y, d, r, rfl, h2⟩ := clo_is h
  rcases h2 with ⟨rfl, rfl⟩ | ⟨rfl, rfl⟩ <;> simp [codR_cons, Pt.cod, Kd.cod]
theorem codR_mem {p : Pt} : ∀ {st : List Pt}, p ∈ st → p.cod.length ≤ (codR st).length
  | q :: r, h => by
    rw [codR_cons, List.length_append]
    rcases List.mem_cons.mp h with rfl | h
    · omega
    · have := codR_mem h; omega
theorem short5 (xs : List V) (h : xs.length ≤ 5) : cutV xs (some (-5)) none = xs := by
  have e : HT.sIx xs.length 0 (some (-5)) = 0 := by
    simp only [HT.sIx]
    rw [if_pos (by decide)]
    omega
  unfold cutV
  rw [e, List.drop_zero]
  exact List.take_of_length_le (by show xs.length ≤ xs.length - 0; omega)
theorem take5 {α : Type} (pre : List α) (a b c d e : α) : HT.sIx (pre ++ [a, b, c, d, e]).length 0 (some (-5)) = pre.length := by
  have z : (((pre ++ [a, b, c, d, e]).length : Nat) : Int) = (pre.length : Int) + 5 := by rw [List.length_append]; rfl
  simp only [HT.sIx, z]
  rw [if_pos (by decide)]
  omega
theorem cut5 (pre : List V) (a b c d e : V) : cutV (pre ++ [a, b, c, d, e]) (some (-5)) none = [a, b, c, d, e] := by
  unfold cutV
  rw [take5, List.drop_left]
  have z : HT.sIx (pre ++ [a, b, c, d, e]).length (pre ++ [a, b, c, d, e]).length none - pre.length = 5 := by
    show (pre ++ [a, b, c, d, e]).length - pre.length = 5
    rw [List.length_append]; simp
  rw [z]; rfl
theorem but5 (pre : List V) (a b c d e : V) : cutV (pre ++ [a, b, c, d, e]) none (some (-5)) = pre := by
  unfold cutV
  have z : HT.sIx (pre ++ [a, b, c, d, e]).length (pre ++ [a, b, c, d, e]).length (some (-5)) = pre.length := take5 pre a b c d e
  rw [z]
  show List.take (pre.length - 0) (List.drop 0 (pre ++ [a, b, c, d, e])) = pre
  simp
theorem no_other (x : Kd) : (![PyData.str "*", .str ">"].any fun z => PyData.eqv z x.dat) = true := by cases x <;> simp [Kd.dat, PyData.eqv]
theorem no_sign (c : Nat) : (!inV (.str (tx [c])) [.str "*", .str ">"]) = !(decide (c = 42) || decide (c = 62)) := by
  have s1 : ("*" : Str) = tx [42] := by decide +kernel
  have s2 : (">" : Str) = tx [62] := by decide +kernel
  have e : ∀ m, (tx [m] == tx [c]) = decide (c = m) := fun m => by
    by_cases h : c = m
    · subst h; simp
    · rw [beq_eq_false_iff_ne.mpr fun z => h (by have := tx_inj z; simpa using this.symm)]; simp [h]
  rw [s1, s2]
  simp only [inV, List.any_cons, List.any_nil, eqV, e, Bool.or_false]
theorem at3 {α : Type} (x y z u : α) (xs : List α) : atI (x :: y :: z :: u :: xs) 3 = some u := atI_nat (j := 3) rfl
theorem sign_in (c : Nat) : decide (c ∈ ("(*>" : Str).cps.toList) = (decide (c = 40) || decide (c = 42) || decide (c = 62)) := by
  have e : ("(*>" : Str).cps.toList = [40, 42, 62] := by decide +kernel
  rw [e]
  simp [Bool.or_assoc]
theorem ix_last (us : List V) (x : V) : ixN (us ++ [x]).length (-1) = some us.length := by
  simp only [ixN, List.length_append, List.length_cons, List.length_nil]
  rw [if_neg (by decide), if_pos (by omega)]
  congr 1
  omega
/-- what holds between two signs -/
def KiW (K : PySem.W.Frag) (H : Hp) (cs : List Nat) (i n : Nat) (σ : L2.St) (H' : Hp) : Prop :=
  ∃ (l : Addr) (us : List V) (st : List Pt) (o o2 : Option V), σ = [some (.str (tx cs)), some (.ref l), o, o2] ∧ H' l = some (.lst us) ∧ DqAll K (out l H') us (st.reverse.map Pt.dat) ∧ i ≤ cs.length ∧ n = cs.length - i ∧
    rdR cs [] = rdR (cs.drop i) st ∧ codR st ++ cs.drop i = cs ∧ st.length ≤ i ∧ Same H (out l H')
section
variable {P : Program} {w : World} {K : PySem.W.Frag} {mg : Str → Option Value} {base : Heap} {CN CT : Addr}
theorem ok_law_kind_in (A : At K mg "_law_kind_in" s_law_kind_in) (T : Txt K mg w CN CT) : Cal P w K mg base CX0 1 "_law_kind_in" ["text"] (spKin K) := by
  obtain ⟨f, fd, F, m⟩ := A
  refine ⟨f, fd, F.ok sc_law_kind_in (fun vs H Q E h => ?_) (fun cdv A outer s H vs Q E hr h => ?_), F.binds (ps := ["text"]) (fun _ _ _ _ _ _ us hl => match us, hl with | [_], _ => rfl), F.kp, m⟩
  · obtain ⟨cs, rfl, _⟩ := h; rfl
  obtain ⟨cs, rfl, hz, qy, qn⟩ := h
  refine ⟨_, (pss_cons (ps_set (i := 1) sc_law_kind_in.nd rfl (by first | exact Or.inl rfl | exact Or.inr rfl) (pe_lst pa_nil))
  (pss_cons (ps_for PassesOwn.never rfl (pi_str (pv 0)) (pg_name (i := 2) sc_law_kind_in.nd rfl (by first | exact Or.inl rfl | exact Or.inr rfl))
   (pss_cons (ps_expr (pe_bm PySem.F.plainAttrs_list PySem.F.slot_list_append PySem.F.type_list_append mt_append (pv 1) (pa_cons (pv 2) pa_nil)))
  (pss_one (ps_if (pt_cmpR (op_eqA (room200 hr)) (pv 2) pe_str (nomark _))
   (pss_one (ps_asg (pe_tup (pa_cons pe_str pa_nil)) (pg_sub (pv 1) (pe_un un_neg pe_int) set_list)))
   (pss_one (ps_if (pt_cmpR op_in_sign (pv 2) pe_str rfl)
   (pss_one (ps_asg (pe_tup (pa_cons pe_str (pa_cons (pe_bmS PySem.F.plainAttrs_str PySem.F.slot_str_index PySem.F.type_str_index (mt_indexX rfl takes0) pe_str (pa_cons (pv 2) pa_nil)) pa_nil))) (pg_sub (pv 1) (pe_un un_neg pe_int) set_list)))
   (pss_one (ps_if (pt_cmpR (op_eqA (room200 hr)) (pv 2) pe_str (nomark _))
   (pss_cons (ps_set (i := 3) sc_law_kind_in.nd rfl (by first | exact Or.inl rfl | exact Or.inr rfl) (pe_slice sl_A (pv 1) (po_some (pe_un un_neg pe_int)) po_none))
  (pss_cons (ps_if (PW.pt (pw_or (pt_cmpR op_lt (pe_callB call_len (by rfl) T.z_len (by decide +kernel) (pa_cons (pv 3) pa_nil)) pe_int (nomark _)) (pw_or (pt_cmpR (op_neA (room200 hr)) (pe_ix ix_B (pv 3) pe_int (fun _ _ => rfl)) pe_str (nomark _)) (pw_or1 (pt_cmpR (op_notIn_seq.or (op_notInD (room65 hr))) (pe_ix ix_B (pv 3) pe_int (fun _ _ => rfl)) (pe_lst (pa_cons pe_str (pa_cons pe_str pa_nil))) rfl)))))
   (pss_one (ps_ret pe_non))
   pss_nil)
  (pss_cons (ps_if (PW.pt (pw_or (pt_val (pe_callB call_isiD (by rfl) T.z_isinstance (by decide +kernel) (pa_cons (pe_ix ix_B (pv 3) pe_int (fun _ _ => rfl)) (pa_cons (pe_bltn (v := .ty "str") (by rfl) T.z_str (by decide +kernel) rfl) pa_nil)))) (pw_or1 (pt_val (pe_callB call_isiD (by rfl) T.z_isinstance (by decide +kernel) (pa_cons (pe_ix ix_B (pv 3) pe_int (fun _ _ => rfl)) (pa_cons (pe_bltn (v := .ty "str") (by rfl) T.z_str (by decide +kernel) rfl) pa_nil)))))))
   (pss_one (ps_ret pe_non))
   pss_nil)
  (pss_one (ps_set (i := 1) sc_law_kind_in.nd rfl (by first | exact Or.inl rfl | exact Or.inr rfl) (pe_op op_addA (pe_slice sl_A (pv 1) po_none (po_some (pe_un un_neg pe_int))) (pe_lst (pa_cons (pe_tup (pa_cons (pe_ix ix_B (pe_lst (pa_cons pe_str (pa_cons pe_str pa_nil))) (pe_callTy call_int1 (by rfl) T.z_int (by decide +kernel) (pa_cons (pe_cmpR (op_eqA (room200 hr)) (pe_ix ix_B (pv 3) pe_int (fun _ _ => rfl)) pe_str (nomark _)) pa_nil)) (fun _ _ => rfl)) (pa_cons (pe_ix ix_B (pv 3) pe_int (fun _ _ => rfl)) (pa_cons (pe_ix ix_B (pv 3) pe_int (fun _ _ => rfl)) pa_nil)))) pa_nil))))))))
   (pss_one (ps_if (pt_cmpR op_notIn_sign (pv 2) pe_str rfl)
   (pss_one (ps_ret pe_non))
   pss_nil))))))))))
  (pss_cons (ps_if (PW.pt (pw_or (pt_cmpR (op_neA (room200 hr)) (pe_callB call_len (by rfl) T.z_len (by decide +kernel) (pa_cons (pv 1) pa_nil)) pe_int (nomark _)) (pw_or1 (pt_val (pe_callB call_isiD (by rfl) T.z_isinstance (by decide +kernel) (pa_cons (pe_ix ix_B (pv 1) pe_int (fun _ _ => rfl)) (pa_cons (pe_bltn (v := .ty "str") (by rfl) T.z_str (by decide +kernel) rfl) pa_nil)))))))
   (pss_one (ps_ret pe_non))
   pss_nil)
  (pss_one (ps_ret (pe_ix ix_B (pv 1) pe_int (fun _ _ => rfl))))))), ?_⟩
  have hxs : (tx cs).cps.size = cs.length := by simp [tx]
  refine ⟨Nat.zero_le _, fun l hl => ?_⟩
  refine ⟨_, rfl, tx cs, rfl, KiW K H cs, ⟨cs.length, l, [], [], none, none, rfl, upd_same, .nil, Nat.zero_le _, rfl, rfl, rfl, Nat.le_refl _, same_keepO' hl⟩, ?_⟩
  rintro i n σ H1 ⟨l, us, st, o, o2, rfl, e1, ha, hi, rfl, hrd, hcd, hst, sm⟩
  have hlen : us.length = st.length := by rw [ha.length, List.length_map, List.length_reverse]
  by_cases hlt : i < cs.length
  · refine .inr ⟨(by show i < (tx cs).cps.size; omega), _, fun _ _ z => z, ?_⟩
    rintro y H2 ⟨rfl, c, hc, rfl⟩
    have hci : cs[i]? = some c := by rw [← tl_tx cs, Array.getElem?_toList]; exact hc
    have hdrop : cs.drop i = c :: cs.drop (i + 1) := by
      obtain ⟨h1, h2⟩ := List.getElem?_eq_some_iff.mp hci
      rw [← h2]; exact List.drop_eq_getElem_cons h1
    rw [hdrop] at hrd hcd
    -- the turn's end
    have fin : ∀ (l' : Addr) (us' : List V) (st' : List Pt) (o o2 : Option V) (H3 : Hp), H3 l' = some (.lst us') → DqAll K (out l' H3) us' (st'.reverse.map Pt.dat) → rdR cs [] = rdR (cs.drop (i + 1)) st' → codR st' = codR st ++ [c] → st'.length ≤ i + 1 → Same H (out l' H3) →
        ∃ n', n' < cs.length - i ∧ KiW K H cs (i + 1) n' [some (.str (tx cs)), some (.ref l'), o, o2] H3 := by
      intro l' us' st' o o2 H3 h1 h2 h3 h4 h5 h6
      refine ⟨cs.length - (i + 1), by omega, l', us', st', o, o2, rfl, h1, h2, hlt, rfl, h3, ?_, h5, h6⟩
      rw [h4, List.append_assoc]; exact hcd
    have stop : rdR (c :: cs.drop (i + 1)) st = none → rdK cs = none := fun h => by unfold rdK; rw [hrd, h]; rfl
    refine ⟨_, rfl, .inl ⟨rfl, _, .of e1⟩, _, rfl, l, us, _, rfl, rfl, e1, fits_lt (by omega), ?_⟩
    have e2 : upd H2 l (.lst (us ++ [.str ⟨#[c]⟩])) l = some (.lst (us ++ [.str (tx [c])])) := upd_same
    have sm2 : Same H (out l (upd H2 l (.lst (us ++ [.str ⟨#[c]⟩])))) := sm.trans (out_set _)
    have ha2 : DqAll K (out l (upd H2 l (.lst (us ++ [.str ⟨#[c]⟩])))) us (st.reverse.map Pt.dat) := ha.same (out_set _)
    generalize upd H2 l (.lst (us ++ [.str ⟨#[c]⟩])) = H3 at e2 sm2 ha2 ⊢
    -- a sign alone stands for something
    have put : ∀ (t : Addr) (o : HO) (x : Kd) (oo o2 : Option V), rs c = some (.k x) → ¬ c = 41 → H3 t = none → (∀ H4, H4 t = some o → Dq K (out l H4) (.ref t) x.dat) →
        ∃ n', n' < cs.length - i ∧ KiW K H cs (i + 1) n' [some (.str (tx cs)), some (.ref l), oo, o2] (upd (upd H3 t o) l (.lst ((us ++ [V.str ⟨#[c]⟩]).set us.length (.ref t)))) := by
      intro t ob x oo o2 hr h41 ht hd
      have es : (us ++ [V.str ⟨#[c]⟩]).set us.length (.ref t) = us ++ [.ref t] := by simp
      rw [es]
      have s3 : Same (out l H3) (out l (upd (upd H3 t ob) l (.lst (us ++ [.ref t])))) := (out_new ht _).trans (out_set _)
      refine fin l (us ++ [.ref t]) (.k x :: st) oo o2 _ upd_same ?_ ?_ ?_ (by simp only [List.length_cons]; omega) (sm2.trans s3)
      · have er : (Pt.k x :: st).reverse.map Pt.dat = st.reverse.map Pt.dat ++ [x.dat] := by simp [Pt.dat]
        rw [er]
        exact (ha2.same s3).append (.cons (hd _ (by rw [upd_ne (ne_of_none e2 ht).symm]; exact upd_same)) .nil)
      · rw [hrd, rdR_sign h41, hr]; rfl
      · rw [codR_cons, rs_cod hr]
    refine ⟨_, rfl, .inl ⟨rfl, _, rfl, ?_⟩⟩
    by_cases h1 : c = 49
    · subst h1
      refine iteT' (decide_eq_true (by decide)) ⟨(by show 1 ≤ sizeLine; decide), fun t ht => ?_⟩
      have nlt := ne_of_none e2 ht
      refine ⟨_, rfl, _, rfl, l, us ++ [.str (tx [49])], -1, us.length, rfl, rfl, ?_, ix_last _ _, ?_⟩
      · rw [upd_ne nlt]; exact e2
      · exact put t _ .u _ _ rfl (by decide) ht fun H4 h => .tup (.of (out_at nlt.symm h)) (.cons (.str _) .nil)
    · refine iteF' (decide_eq_false fun z => h1 (tx1.mp z)) ?_
      refine ⟨_, rfl, c, _, rfl, rfl, _, rfl, ?_⟩
      rw [in_letters]
      by_cases h2 : 97 ≤ c ∧ c < 105
      · have lx : Txt.index0 "abcdefgh" (⟨#[c]⟩ : Str) = some (c - 97) := letter_ix h2
        refine iteT' (decide_eq_true h2) ⟨rfl, _, rfl, _, _, rfl, rfl, fun k hk => ?_, fun hn => by have := lx.symm.trans hn; cases this⟩
        cases lx.symm.trans hk
        refine ⟨(by show 2 ≤ sizeLine; decide), fun t ht => ?_⟩
        have nlt := ne_of_none e2 ht
        refine ⟨_, rfl, _, rfl, l, us ++ [.str (tx [c])], -1, us.length, rfl, rfl, ?_, ix_last _ _, ?_⟩
        · rw [upd_ne nlt]; exact e2
        · exact put t _ (.b (c - 97)) _ _ (by unfold rs; rw [if_neg h1, if_pos h2]) (by omega) ht fun H4 h => .tup (.of (out_at nlt.symm h)) (.cons (.str _) (.cons (.int _) .nil))
      · refine iteF' (decide_eq_false h2) ?_
        refine ⟨_, rfl, .inl ⟨rfl, _, rfl, ?_⟩⟩
        by_cases h41 : c = 41
        · subst h41
          refine iteT' (decide_eq_true (by decide)) ?_
          have hrd' : rdR cs [] = (clo st).bind (rdR (cs.drop (i + 1))) := hrd.trans (rdR_close _ _)
          have bad : ∀ H', clo st = none → Same H H' → Q .non H' := fun H' h s3 => qn (by unfold rdK; rw [hrd', h]; rfl) H' s3
          refine ⟨_, rfl, _, rfl, _, rfl, .inl ⟨l, _, rfl, .of e2, fun p hp => ?_⟩⟩
          have npl : l ≠ p := ne_of_none e2 hp
          by_cases h4 : st.length < 4
          · rw [short5 _ (by rw [List.length_append, hlen, List.length_cons, List.length_nil]; omega)]
            refine ⟨_, rfl, _, _, rfl, .inl ⟨_, .of upd_same, rfl⟩, _, _, rfl, rfl, _, rfl, ?_⟩
            refine iteT' (decide_eq_true (by rw [List.length_append, hlen, List.length_cons, List.length_nil]; omega)) (iteT ?_)
            refine bad _ ?_ ((of_out sm2).trans (same_new hp _))
            match st, h4 with
            | [], _ => rfl
            | [a], _ => cases a <;> rfl
            | [a, b], _ => cases a <;> cases b <;> rfl
            | [a, b, c], _ => cases a <;> cases b <;> cases c <;> rfl
            | a :: b :: c :: d :: r, h => simp only [List.length_cons] at h; omega
          obtain ⟨t4, t3, t2, t1, r, rfl⟩ : ∃ a b c d r, st = a :: b :: c :: d :: r := by
            match st, h4 with
            | [], h => exact absurd (by decide) h
            | [_], h => exact absurd (by simp) h
            | [_, _], h => exact absurd (by simp) h
            | [_, _, _], h => exact absurd (by simp) h
            | a :: b :: c :: d :: r, _ => exact ⟨a, b, c, d, r, rfl⟩
          have er : (t4 :: t3 :: t2 :: t1 :: r).reverse.map Pt.dat = r.reverse.map Pt.dat ++ [t1.dat, t2.dat, t3.dat, t4.dat] := by simp
          rw [er] at ha2
          obtain ⟨pre, v1, v2, v3, v4, rfl, hpre, g1, g2, g3, g4⟩ := DqAll.last4 ha2
          have eu : pre ++ [v1, v2, v3, v4] ++ [V.str (tx [41])] = pre ++ [v1, v2, v3, v4, V.str (tx [41])] := by simp
          have e2 : H3 l = some (.lst (pre ++ [v1, v2, v3, v4, V.str (tx [41])])) := by rw [← eu]; exact e2
          rw [eu, cut5]
          have s1 : Same (out l H3) (upd H3 p (.lst [v1, v2, v3, v4, V.str (tx [41])])) := (out_sub l H3).trans (same_new hp _)
          have z1 := g1.same s1
          have z2 := g2.same s1
          have z3 := g3.same s1
          have z4 := g4.same s1
          have eL : upd H3 p (.lst [v1, v2, v3, v4, V.str (tx [41])]) l = some (.lst (pre ++ [v1, v2, v3, v4, V.str (tx [41])])) := by rw [upd_ne npl]; exact e2
          have eP : upd H3 p (.lst [v1, v2, v3, v4, V.str (tx [41])]) p = some (.lst [v1, v2, v3, v4, V.str (tx [41])]) := upd_same
          have smP : Same H (upd H3 p (.lst [v1, v2, v3, v4, V.str (tx [41])])) := (of_out sm2).trans (same_new hp _)
          generalize upd H3 p (.lst [v1, v2, v3, v4, V.str (tx [41])]) = H4 at s1 z1 z2 z3 z4 eL eP smP ⊢
          have bd : ∀ q : Pt, q ∈ t4 :: t3 :: t2 :: t1 :: r → q.cod.length ≤ 240 := fun q hq => by
            have := codR_mem hq
            have h2 : (codR (t4 :: t3 :: t2 :: t1 :: r)).length ≤ cs.length := by rw [← hcd, List.length_append]; omega
            omega
          refine ⟨_, rfl, _, _, rfl, .inl ⟨_, .of eP, rfl⟩, _, _, rfl, rfl, _, rfl, ?_⟩
          refine iteF' (show decide (((5 : Nat) : Int) < 5) = false by decide) ?_
          refine ⟨_, rfl, .inl (.inl ⟨p, _, 0, v1, rfl, rfl, .of eP, at0 _ _, ?_⟩)⟩
          cases t1 with
          | k z =>
            refine .inr ⟨z.dat, .str "(", z1.dp z.dat_lay, .str _, z.dat_lay, str_lay (by decide +kernel), by simp [PyData.depth], _, rfl, ?_⟩
            exact iteT' (by rw [z.ne_str]; rfl) (iteT (bad _ (by cases t4 <;> cases t3 <;> cases t2 <;> rfl) smP))
          | s b =>
            cases z1
            refine .inl ⟨rfl, _, rfl, ?_⟩
            by_cases hb : b = 40
            · subst hb
              refine iteF' (by decide) ?_
              refine ⟨_, rfl, .inl (.inl ⟨p, _, 2, v3, rfl, rfl, .of eP, at2 _ _ _ _, (by show 2 ≤ sizeLine; decide), fun q hq => ?_⟩)⟩
              have sq : Same H4 (upd H4 q (.lst [.str "*", .str ">"])) := same_new hq _
              have eQ : upd H4 q (.lst [.str "*", .str ">"]) q = some (.lst [.str "*", .str ">"]) := upd_same
              have eP' := sq _ _ eP
              have eL' := sq _ _ eL
              have smQ := smP.trans sq
              have sL5 := s1.trans sq
              have y2 := z2.same sq
              have y3 := z3.same sq
              have y4 := z4.same sq
              generalize upd H4 q (.lst [.str "*", .str ">"]) = H5 at sL5 eQ eP' eL' smQ y2 y3 y4 ⊢
              cases t3 with
              | k z =>
                have hz1 := bd (.k z) (by simp)
                have hz2 := leaves_cod z
                have hz3 := z.deep_le
                refine .inr ⟨z.dat, [.str "*", .str ">"], y3.dp z.dat_lay, .lst (.of eQ) (.cons (.str _) (.cons (.str _) .nil)), ?_, by decide +kernel, _, rfl, ?_⟩
                · simp only [SeqAt.shaped, z.dat_lay, z.dat_depth, Bool.true_and]
                  refine decide_eq_true ?_
                  have : z.cod.length ≤ 240 := hz1
                  omega
                · rw [no_other]
                  exact iteT' rfl (bad _ (by cases t4 <;> cases t2 <;> rfl) smQ)
              | s c3 =>
                cases y3
                refine .inl ⟨q, _, rfl, .inl (.of eQ), rfl, rfl, _, rfl, ?_⟩
                rw [if_pos rfl, no_sign]
                by_cases h46 : c3 = 42 ∨ c3 = 62
                · refine iteF' (by rcases h46 with rfl | rfl <;> rfl) ?_
                  refine ⟨_, rfl, .inl (.inl ⟨p, _, 1, v2, rfl, rfl, .of eP', at1 _ _ _, ?_⟩)⟩
                  refine ⟨_, "str", t2.dat, rfl, y2, rfl, _, rfl, ?_⟩
                  cases t2 with
                  | s c2 => exact iteT' (show isiN "str" "str" = true by decide) (iteT (bad _ (by cases t4 <;> rfl) smQ))
                  | k x =>
                    refine iteF' (by show isiN (tyN x.dat) "str" = false; rw [x.ty]; decide) ?_
                    refine ⟨_, rfl, .inl (.inl ⟨p, _, 3, v4, rfl, rfl, .of eP', at3 _ _ _ _ _, ?_⟩)⟩
                    refine ⟨_, "str", t4.dat, rfl, y4, rfl, _, rfl, ?_⟩
                    cases t4 with
                    | s c4 => exact iteT' (show isiN "str" "str" = true by decide) (bad _ rfl smQ)
                    | k y =>
                      refine iteF' (by show isiN (tyN y.dat) "str" = false; rw [y.ty]; decide) ?_
                      refine ⟨_, rfl, _, rfl, _, rfl, .inl ⟨l, _, rfl, .of eL', fun u1 hu1 => ?_⟩⟩
                      rw [but5]
                      refine ⟨(by show 2 ≤ sizeLine; decide), fun u2 hu2 => ?_⟩
                      have nlu1 := ne_of_none eL' hu1
                      have nlu2 := ne_of_none (by rw [upd_ne nlu1]; exact eL') hu2
                      have nu12 : u1 ≠ u2 := ne_of_none upd_same hu2
                      have npu1 := ne_of_none eP' hu1
                      have npu2 := ne_of_none (by rw [upd_ne npu1]; exact eP') hu2
                      have eP2 : upd (upd H5 u1 (.lst pre)) u2 (.lst [.str "both", .str "from"]) p = some (.lst [.str (tx [40]), v2, .str (tx [c3]), v4, V.str (tx [41])]) := by rw [upd_ne npu2, upd_ne npu1]; exact eP'
                      have eU1 : upd (upd H5 u1 (.lst pre)) u2 (.lst [.str "both", .str "from"]) u1 = some (.lst pre) := by rw [upd_ne nu12]; exact upd_same
                      have eU2 : upd (upd H5 u1 (.lst pre)) u2 (.lst [.str "both", .str "from"]) u2 = some (.lst [.str "both", .str "from"]) := upd_same
                      have s6 : Same H5 (upd (upd H5 u1 (.lst pre)) u2 (.lst [.str "both", .str "from"])) := (same_new hu1 _).trans (same_new hu2 _)
                      have s6l : Same (out l H3) (upd (upd H5 u1 (.lst pre)) u2 (.lst [.str "both", .str "from"])) := sL5.trans s6
                      generalize upd (upd H5 u1 (.lst pre)) u2 (.lst [.str "both", .str "from"]) = H6 at eP2 eU1 eU2 s6 s6l ⊢
                      refine ⟨_, rfl, .inl (.inl ⟨p, _, 2, .str (tx [c3]), rfl, rfl, .of eP2, at2 _ _ _ _, ?_⟩)⟩
                      refine .inl ⟨rfl, .inr ⟨_, rfl, ?_⟩⟩
                      have fin2 : ∀ (wd : Str) (kk : Kd), kk.dat = .tuple [.str wd, x.dat, y.dat] → clo (.k y :: .s c3 :: .k x :: .s 40 :: r) = some (.k kk :: r) → ∀ (t u : Addr), H6 t = none → upd H6 t (.tup [.str wd, v2, v4]) u = none →
                          ∀ (oa ob : Option V) (ln : Addr), upd (upd H6 t (.tup [.str wd, v2, v4])) u (.lst [.ref t]) ln = none →
                          ∃ n', n' < cs.length - i ∧ KiW K H cs (i + 1) n' [some (.str (tx cs)), some (.ref ln), oa, ob] (upd (upd (upd H6 t (.tup [.str wd, v2, v4])) u (.lst [.ref t])) ln (.lst (pre ++ [.ref t]))) := by
                        intro wd kk hk hc t u ht hu oa ob ln hln
                        have ntu : t ≠ u := ne_of_none upd_same hu
                        have eT : upd (upd H6 t (.tup [.str wd, v2, v4])) u (.lst [.ref t]) t = some (.tup [.str wd, v2, v4]) := by rw [upd_ne ntu]; exact upd_same
                        have s8 : Same (out l H3) (upd (upd H6 t (.tup [.str wd, v2, v4])) u (.lst [.ref t])) := (s6l.trans (same_new ht _)).trans (same_new hu _)
                        have s9 := s8.trans (same_keepO' (o := .lst (pre ++ [.ref t])) hln)
                        have ntl := ne_of_none eT hln
                        refine fin ln (pre ++ [.ref t]) (.k kk :: r) oa ob _ upd_same ?_ (by rw [hrd', hc]; rfl) ?_ ?_ (sm2.trans s9)
                        · have er2 : (Pt.k kk :: r).reverse.map Pt.dat = r.reverse.map Pt.dat ++ [kk.dat] := by simp [Pt.dat]
                          rw [er2, hk]
                          refine (hpre.same s9).append (.cons (.tup (.of (out_at ntl ?_)) (.cons (.str _) (.cons (g2.same s9) (.cons (g4.same s9) .nil)))) .nil)
                          rw [upd_ne ntl]; exact eT
                        · have := clo_cod hc
                          rw [this]
                        · simp only [List.length_cons] at hst ⊢; omega
                      have hpl : pre.length ≤ 240 := by
                        have := congrArg List.length eu
                        simp only [List.length_append, List.length_cons, List.length_nil] at hlen hst ⊢
                        omega
                      rcases h46 with rfl | rfl
                      · refine .inl (.inl ⟨u2, _, 0, .str "both", rfl, rfl, .of eU2, at0 _ _, ?_⟩)
                        refine ⟨_, rfl, .inl (.inl ⟨p, _, 1, v2, rfl, rfl, .of eP2, at1 _ _ _, ⟨_, rfl, .inl (.inl ⟨p, _, 3, v4, rfl, rfl, .of eP2, at3 _ _ _ _ _, (by show 3 ≤ sizeLine; decide), fun t ht => ⟨(by show 1 ≤ sizeLine; decide), fun u hu => ?_⟩⟩)⟩⟩)⟩
                        have a1 := (upd_ne (o := .tup [.str "both", v2, v4]) (ne_of_none eU1 ht)).trans eU1
                        refine .inr (.inr (.inl ⟨u1, u, _, _, rfl, rfl, (upd_ne (ne_of_none a1 hu)).trans a1, upd_same, fits (by simp only [List.length_cons, List.length_nil]; omega), fun ln hln => ?_⟩))
                        exact fin2 "both" (.p x y) rfl rfl t u ht hu _ _ ln hln
                      · refine .inl (.inl ⟨u2, _, 1, .str "from", rfl, rfl, .of eU2, at1 _ _ _, ?_⟩)
                        refine ⟨_, rfl, .inl (.inl ⟨p, _, 1, v2, rfl, rfl, .of eP2, at1 _ _ _, ⟨_, rfl, .inl (.inl ⟨p, _, 3, v4, rfl, rfl, .of eP2, at3 _ _ _ _ _, (by show 3 ≤ sizeLine; decide), fun t ht => ⟨(by show 1 ≤ sizeLine; decide), fun u hu => ?_⟩⟩)⟩⟩)⟩
                        have a1 := (upd_ne (o := .tup [.str "from", v2, v4]) (ne_of_none eU1 ht)).trans eU1
                        refine .inr (.inr (.inl ⟨u1, u, _, _, rfl, rfl, (upd_ne (ne_of_none a1 hu)).trans a1, upd_same, fits (by simp only [List.length_cons, List.length_nil]; omega), fun ln hln => ?_⟩))
                        exact fin2 "from" (.f x y) rfl rfl t u ht hu _ _ ln hln
                · refine iteT' (by simpa using h46) ?_
                  refine bad _ ?_ smQ
                  have h1 : ¬ c3 = 42 := fun z => h46 (.inl z)
                  have h2 : ¬ c3 = 62 := fun z => h46 (.inr z)
                  cases t4 <;> cases t2 <;> simp [clo, h1, h2]
            · have hne : decide (V.str (tx [b]) = V.str "(") = false := decide_eq_false fun z => hb (tx1.mp z)
              refine iteT' (by show (!decide (V.str (tx [b]) = V.str "(")) = true; rw [hne]; rfl) (iteT (bad _ ?_ smP))
              cases t4 <;> cases t3 <;> cases t2 <;> simp [clo, hb]
        · refine iteF' (decide_eq_false fun z => h41 (tx1.mp z)) ?_
          have er : rs c = if c = 40 ∨ c = 42 ∨ c = 62 then some (.s c) else none := by unfold rs; rw [if_neg h1, if_neg h2]
          refine ⟨_, rfl, c, _, rfl, rfl, _, rfl, ?_⟩
          rw [sign_in]
          by_cases h3 : c = 40 ∨ c = 42 ∨ c = 62
          · refine iteF' (by rcases h3 with rfl | rfl | rfl <;> rfl) ?_
            refine fin l (us ++ [.str (tx [c])]) (.s c :: st) _ _ _ e2 ?_ ?_ ?_ (by simp only [List.length_cons]; omega) sm2
            · have e3 : (Pt.s c :: st).reverse.map Pt.dat = st.reverse.map Pt.dat ++ [Pt.dat (.s c)] := by simp
              rw [e3]
              exact ha2.append (.cons (.str _) .nil)
            · rw [hrd, rdR_sign h41, er, if_pos h3]; rfl
            · rw [codR_cons]; rfl
          · refine iteT' (by simpa [Bool.or_assoc] using h3) ?_
            exact qn (stop (by rw [rdR_sign h41, er, if_neg h3]; rfl)) _ (of_out sm2)
  · have hil : i = cs.length := by omega
    subst hil
    refine .inl ⟨(by show (tx cs).cps.size ≤ cs.length; omega), ?_⟩
    rw [List.drop_length] at hrd
    have hrd' : rdK cs = rdE st := by unfold rdK; rw [hrd]; rfl
    have bad : rdE st = none → Q .non H1 := fun h => qn (hrd'.trans h) H1 (of_out sm)
    refine ⟨_, rfl, _, _, rfl, .inl ⟨_, .of e1, rfl⟩, .inl ⟨rfl, _, rfl, ?_⟩⟩
    match st, us, ha, hlen, hrd', bad, e1 with
    | [], [], _, _, _, bad, _ => exact iteT' (by decide) (iteT (bad rfl))
    | [p], [v1], ha, _, hrd', bad, e1 =>
      refine iteF' (show (!decide (V.int ((1 : Nat) : Int) = V.int 1)) = false from by decide) ?_
      cases ha with
      | cons h1 h2 =>
        refine ⟨_, rfl, .inl (.inl ⟨l, _, 0, v1, rfl, rfl, .of e1, at0 _ _, ?_⟩)⟩
        refine ⟨_, "str", p.dat, rfl, h1.same (out_sub l H1), rfl, _, rfl, ?_⟩
        cases p with
        | s c => exact iteT' (show isiN "str" "str" = true by decide) (bad rfl)
        | k x1 =>
          refine iteF' (by show isiN (tyN x1.dat) "str" = false; rw [x1.ty]; decide) ?_
          exact ⟨_, rfl, .inl (.inl ⟨l, _, 0, v1, rfl, rfl, .of e1, at0 _ _, qy x1 hrd' v1 H1 (h1.same (out_sub l H1)) (of_out sm)⟩)⟩
    | p1 :: p2 :: r, v1 :: v2 :: r', _, hlen, _, bad, _ =>
      refine iteT' ?_ (iteT (bad ?_))
      · rw [decide_eq_false]; rfl
        intro z
        have z' := V.int.inj z
        simp only [List.length_cons] at z'
        omega
      · cases p1 <;> rfl
    | [], _ :: _, _, hlen, _, _, _ => simp at hlen
    | _ :: _, [], _, hlen, _, _, _ => simp at hlen
    | [_], _ :: _ :: _, _, hlen, _, _, _ => simp at hlen
    | _ :: _ :: _, [_], _, hlen, _, _, _ => simp at hlen
end

/-! ## texts spoilt: some text, not much longer -/
def spSpoil : Sp := fun vs H Q _ => ∃ (w : Addr) (z : Str), vs = [.ref w, .str z] ∧ Well H w ∧ z.length ≤ 100 ∧ ∀ (u : Str) (H' : Hp), u.length ≤ 2 * z.length + 5 → Aft w H H' → Q (.str u) H'
abbrev s_law_spoilt : Stmt := top 25
theorem sc_law_spoilt : FnScope ["well", "text", "at", "to", "sign", "way"] ["well", "text"] (defScope s_law_spoilt) := ⟨rfl, rfl, rfl, by decide +kernel, rfl, by decide +kernel, by decide +kernel⟩
theorem cut_le (z : Str) (lo hi : Option Int) : (cutS z lo hi).length ≤ HT.sIx z.length z.length hi - HT.sIx z.length 0 lo := by
  show (List.take _ _).toArray.size ≤ _
  rw [List.size_toArray]
  exact List.length_take_le _ _
theorem ix_nat (n d : Nat) (a : Int) (h : 0 ≤ a) : HT.sIx n d (some a) = min a.toNat n := by
  simp only [HT.sIx]
  rw [if_neg (by omega)]
theorem cut_lo (z : Str) (a : Int) (h : 0 ≤ a) : (cutS z none (some a)).length ≤ min a.toNat z.length := by
  have := cut_le z none (some a)
  rw [ix_nat _ _ _ h] at this
  exact Nat.le_trans this (by show _ - 0 ≤ _; omega)
theorem cut_hi (z : Str) (a : Int) (h : 0 ≤ a) : (cutS z (some a) none).length ≤ z.length - a.toNat := by
  have := cut_le z (some a) none
  rw [ix_nat _ _ _ h] at this
  exact Nat.le_trans this (by show z.length - _ ≤ _; omega)
theorem cut_mid (z : Str) (a : Int) (k : Nat) (h : 0 ≤ a) : (cutS z (some a) (some (a + k))).length ≤ k := by
  have := cut_le z (some a) (some (a + k))
  rw [ix_nat _ _ _ h, ix_nat _ _ _ (by omega)] at this
  exact Nat.le_trans this (by omega)
def shortS (n : Nat) : V → Bool
  | .str s => decide (s.length ≤ n)
  | _ => false
theorem short_mem (n : Nat) (xs : List V) (h : xs.all (shortS n) = true) (v : V) (hv : v ∈ xs) : ∃ s : Str, v = .str s ∧ s.length ≤ n := by
  have := List.all_eq_true.mp h v hv
  cases v with
  | str s => exact ⟨s, rfl, of_decide_eq_true this⟩
  | _ => cases this
theorem app_len (a b : Str) : (a ++ b).length = a.length + b.length := by
  show (a.cps ++ b.cps).size = _
  rw [Array.size_append]; rfl
section
variable {P : Program} {w : World} {K : PySem.W.Frag} {mg : Str → Option Value} {base : Heap} {CN CT : Addr}
theorem ok_law_spoilt (A : At K mg "_law_spoilt" s_law_spoilt) (T : Txt K mg w CN CT) (C_law_draw : Cal P w K mg base CX0 1 "_law_draw" ["well", "below"] spDraw) (C_law_one : Cal P w K mg base CX0 2 "_law_one" ["well", "some"] (spOne K)) : Cal P w K mg base CX0 3 "_law_spoilt" ["well", "text"] spSpoil := by
  obtain ⟨f, fd, F, m⟩ := A
  refine ⟨f, fd, F.ok sc_law_spoilt (fun vs H Q E h => ?_) (fun cdv A outer s H vs Q E hr h => ?_), F.binds (ps := ["well", "text"]) (fun _ _ _ _ _ _ us hl => match us, hl with | [_, _], _ => rfl), F.kp, m⟩
  · obtain ⟨w, z, rfl, _⟩ := h; rfl
  obtain ⟨wl, z, rfl, hw, hz, q⟩ := h
  refine ⟨_, (pss_cons (ps_set (i := 2) sc_law_spoilt.nd rfl (by first | exact Or.inl rfl | exact Or.inr rfl) (pe_calC C_law_draw (hr.mono (by first | decide | omega)) pass0 (pa_cons (pv 0) (pa_cons (pe_op op_addA (pe_callB call_len (by rfl) T.z_len (by decide +kernel) (pa_cons (pv 1) pa_nil)) pe_int) pa_nil))))
  (pss_cons (ps_set (i := 3) sc_law_spoilt.nd rfl (by first | exact Or.inl rfl | exact Or.inr rfl) (pe_calC C_law_draw (hr.mono (by first | decide | omega)) pass0 (pa_cons (pv 0) (pa_cons (pe_op op_addA (pe_callB call_len (by rfl) T.z_len (by decide +kernel) (pa_cons (pv 1) pa_nil)) pe_int) pa_nil))))
  (pss_cons (ps_set (i := 4) sc_law_spoilt.nd rfl (by first | exact Or.inl rfl | exact Or.inr rfl) (pe_calC C_law_one (hr.mono (by first | decide | omega)) pass0 (pa_cons (pv 0) (pa_cons (pe_lst (pa_cons pe_str (pa_cons pe_str (pa_cons pe_str (pa_cons pe_str (pa_cons pe_str (pa_cons pe_str (pa_cons pe_str (pa_cons pe_str (pa_cons pe_str (pa_cons pe_str (pa_cons pe_str (pa_cons pe_str (pa_cons pe_str (pa_cons pe_str (pa_cons pe_str (pa_cons pe_str (pa_cons pe_str pa_nil)))))))))))))))))) pa_nil))))
  (pss_cons (ps_set (i := 5) sc_law_spoilt.nd rfl (by first | exact Or.inl rfl | exact Or.inr rfl) (pe_calC C_law_draw (hr.mono (by first | decide | omega)) pass0 (pa_cons (pv 0) (pa_cons pe_int pa_nil))))
  (pss_cons (ps_if (pt_cmpR (op_eqA (room200 hr)) (pv 5) pe_int (nomark _))
   (pss_one (ps_ret (pe_op op_addA (pe_slice sl_A (pv 1) po_none (po_some (pv 2))) (pe_slice sl_A (pv 1) (po_some (pe_op op_addA (pv 2) pe_int)) po_none))))
   pss_nil)
  (pss_cons (ps_if (pt_cmpR (op_eqA (room200 hr)) (pv 5) pe_int (nomark _))
   (pss_one (ps_ret (pe_op op_addA (pe_op op_addA (pe_slice sl_A (pv 1) po_none (po_some (pv 2))) (pe_op op_times (pe_slice sl_A (pv 1) (po_some (pv 2)) (po_some (pe_op op_addA (pv 2) pe_int))) pe_int)) (pe_slice sl_A (pv 1) (po_some (pe_op op_addA (pv 2) pe_int)) po_none))))
   pss_nil)
  (pss_cons (ps_if (pt_cmpR (op_eqA (room200 hr)) (pv 5) pe_int (nomark _))
   (pss_one (ps_ret (pe_op op_addA (pe_op op_addA (pe_slice sl_A (pv 1) po_none (po_some (pv 2))) (pv 4)) (pe_slice sl_A (pv 1) (po_some (pe_op op_addA (pv 2) pe_int)) po_none))))
   pss_nil)
  (pss_cons (ps_if (pt_cmpR (op_eqA (room200 hr)) (pv 5) pe_int (nomark _))
   (pss_one (ps_ret (pe_op op_addA (pe_op op_addA (pe_slice sl_A (pv 1) po_none (po_some (pv 2))) (pv 4)) (pe_slice sl_A (pv 1) (po_some (pv 2)) po_none))))
   pss_nil)
  (pss_cons (ps_if (pt_cmpR (op_eqA (room200 hr)) (pv 5) pe_int (nomark _))
   (pss_one (ps_ret (pe_op op_addA (pe_op op_addA (pe_slice sl_A (pv 1) po_none (po_some (pv 2))) (pe_revT (pe_slice sl_A (pv 1) (po_some (pv 2)) (po_some (pe_op op_addA (pv 2) pe_int))))) (pe_slice sl_A (pv 1) (po_some (pe_op op_addA (pv 2) pe_int)) po_none))))
   pss_nil)
  (pss_cons (ps_if (pt_cmpR (op_eqA (room200 hr)) (pv 5) pe_int (nomark _))
   (pss_one (ps_ret (pe_op op_addA (pe_slice sl_A (pv 1) po_none (po_some (pe_callB (call_min2 rfl) (by rfl) T.z_min (by decide +kernel) (pa_cons (pv 2) (pa_cons (pv 3) pa_nil))))) (pe_slice sl_A (pv 1) (po_some (pe_callB (call_max2 rfl) (by rfl) T.z_max (by decide +kernel) (pa_cons (pv 2) (pa_cons (pv 3) pa_nil)))) po_none))))
   pss_nil)
  (pss_cons (ps_if (pt_cmpR (op_eqA (room200 hr)) (pv 5) pe_int (nomark _))
   (pss_one (ps_ret (pe_op op_addA (pe_op op_addA (pe_op op_addA (pe_op op_addA pe_str (pv 1)) (pe_calC C_law_one (hr.mono (by first | decide | omega)) pass0 (pa_cons (pv 0) (pa_cons (pe_lst (pa_cons pe_str (pa_cons pe_str (pa_cons pe_str pa_nil)))) pa_nil)))) (pv 1)) pe_str)))
   pss_nil)
  (pss_one (ps_ret (pe_op op_addA (pe_slice sl_A (pv 1) (po_some (pv 2)) po_none) (pe_slice sl_A (pv 1) po_none (po_some (pv 2))))))))))))))))), ?_⟩
  have hzl : z.length ≤ sizeLine := fits (by omega)
  have hlt : (((z.length : Nat) : Int) + 1) < 1073741824 := by omega
  refine ⟨_, rfl, _, rfl, _, _, rfl, ⟨hzl, rfl⟩, .inl ⟨_, _, rfl, rfl, wl, _, rfl, hw, by omega, hlt, fun at_ H1 a0 a1 f1 => ?_⟩⟩
  refine ⟨_, rfl, _, rfl, _, _, rfl, ⟨hzl, rfl⟩, .inl ⟨_, _, rfl, rfl, wl, _, rfl, f1.well, by omega, hlt, fun to_ H2 b0 b1 f2 => ?_⟩⟩
  have c2 := f1.trans f2
  refine ⟨_, rfl, (by show 17 ≤ sizeLine; decide), fun l hl => ?_⟩
  refine ⟨wl, l, _, rfl, c2.well.new hl _, upd_same, c2.well.ne hl, by simp, by show (17 : Nat) < 1073741824; decide, fun sv hsv H3 f3 => ?_⟩
  have c3 := (c2.new hl _).trans f3
  obtain ⟨sg, rfl, hsg⟩ := short_mem 5 _ (by decide +kernel) sv hsv
  refine ⟨_, rfl, wl, 8, rfl, c3.well, by decide, by decide, fun way H4 w0 w1 f4 => ?_⟩
  have c4 := c3.trans f4
  clear hsv f1 f2 f3 f4 c2 c3 w0 w1 hl
  have k1 := cut_lo z at_ a0
  have k2 := cut_hi z (at_ + 1) (by omega)
  have k3 := cut_hi z at_ a0
  have k4 := cut_mid z at_ 1 a0
  have k5 := cut_mid z at_ 2 a0
  have k6 := cut_hi z (at_ + 2) (by omega)
  have e1 : (at_ + 1).toNat = at_.toNat + 1 := by omega
  have e2 : (at_ + 2).toNat = at_.toNat + 2 := by omega
  have e0 : at_.toNat ≤ z.length := by omega
  rw [e1] at k2
  rw [e2] at k6
  have fit : ∀ n : Nat, n ≤ 1000 → n ≤ sizeLine := fun n h => fits (by omega)
  refine ⟨_, rfl, .inl ⟨rfl, _, rfl, ite2 (fun _ => ?_) fun _ => ?_⟩⟩
  · refine ⟨_, rfl, _, rfl, _, rfl, .inr (.inr ⟨z, rfl, hzl, ?_⟩)⟩
    refine ⟨_, rfl, _, rfl, .inl ⟨_, _, rfl, rfl, _, rfl, .inr (.inr ⟨z, rfl, hzl, ?_⟩)⟩⟩
    exact .inr (.inl ⟨_, _, rfl, rfl, fit _ (by omega), q _ _ (by rw [app_len]; omega) c4⟩)
  refine ⟨_, rfl, .inl ⟨rfl, _, rfl, ite2 (fun _ => ?_) fun _ => ?_⟩⟩
  · refine ⟨_, rfl, _, rfl, _, rfl, .inr (.inr ⟨z, rfl, hzl, ?_⟩)⟩
    refine ⟨_, rfl, _, rfl, _, rfl, _, rfl, .inl ⟨_, _, rfl, rfl, _, rfl, .inr (.inr ⟨z, rfl, hzl, ?_⟩)⟩⟩
    have k4' : (cutS z (some at_) (some (at_ + 1))).length ≤ 1 := k4
    refine ⟨_, 2, rfl, rfl, by decide, by decide, by show _ * 2 ≤ _; omega, fun u hu => ?_⟩
    have hu' : u.length ≤ 2 := Nat.le_trans hu (by show _ * 2 ≤ _; omega)
    refine .inr (.inl ⟨_, _, rfl, rfl, fit _ (by omega), ?_⟩)
    refine ⟨_, rfl, _, rfl, .inl ⟨_, _, rfl, rfl, _, rfl, .inr (.inr ⟨z, rfl, hzl, ?_⟩)⟩⟩
    exact .inr (.inl ⟨_, _, rfl, rfl, fit _ (by rw [app_len]; omega), q _ _ (by rw [app_len, app_len]; omega) c4⟩)
  refine ⟨_, rfl, .inl ⟨rfl, _, rfl, ite2 (fun _ => ?_) fun _ => ?_⟩⟩
  · refine ⟨_, rfl, _, rfl, _, rfl, .inr (.inr ⟨z, rfl, hzl, _, rfl, ?_⟩)⟩
    refine .inr (.inl ⟨_, _, rfl, rfl, fit _ (by omega), ?_⟩)
    refine ⟨_, rfl, _, rfl, .inl ⟨_, _, rfl, rfl, _, rfl, .inr (.inr ⟨z, rfl, hzl, ?_⟩)⟩⟩
    exact .inr (.inl ⟨_, _, rfl, rfl, fit _ (by rw [app_len]; omega), q _ _ (by rw [app_len, app_len]; omega) c4⟩)
  refine ⟨_, rfl, .inl ⟨rfl, _, rfl, ite2 (fun _ => ?_) fun _ => ?_⟩⟩
  · refine ⟨_, rfl, _, rfl, _, rfl, .inr (.inr ⟨z, rfl, hzl, _, rfl, ?_⟩)⟩
    refine .inr (.inl ⟨_, _, rfl, rfl, fit _ (by omega), ?_⟩)
    refine ⟨_, rfl, _, rfl, _, rfl, .inr (.inr ⟨z, rfl, hzl, ?_⟩)⟩
    exact .inr (.inl ⟨_, _, rfl, rfl, fit _ (by rw [app_len]; omega), q _ _ (by rw [app_len, app_len]; omega) c4⟩)
  refine ⟨_, rfl, .inl ⟨rfl, _, rfl, ite2 (fun _ => ?_) fun _ => ?_⟩⟩
  · refine ⟨_, rfl, _, rfl, _, rfl, .inr (.inr ⟨z, rfl, hzl, ?_⟩)⟩
    refine ⟨_, rfl, _, rfl, _, rfl, _, rfl, .inl ⟨_, _, rfl, rfl, _, rfl, .inr (.inr ⟨z, rfl, hzl, ?_⟩)⟩⟩
    have k5' : (cutS z (some at_) (some (at_ + 2))).length ≤ 2 := k5
    refine ⟨_, rfl, fit _ (by omega), fun u hu => ?_⟩
    have hu' : u.length ≤ 2 := Nat.le_trans hu k5'
    refine .inr (.inl ⟨_, _, rfl, rfl, fit _ (by omega), ?_⟩)
    refine ⟨_, rfl, _, rfl, .inl ⟨_, _, rfl, rfl, _, rfl, .inr (.inr ⟨z, rfl, hzl, ?_⟩)⟩⟩
    exact .inr (.inl ⟨_, _, rfl, rfl, fit _ (by rw [app_len]; omega), q _ _ (by rw [app_len, app_len]; omega) c4⟩)
  refine ⟨_, rfl, .inl ⟨rfl, _, rfl, ite2 (fun _ => ?_) fun _ => ?_⟩⟩
  · refine ⟨_, rfl, _, rfl, _, rfl, _, _, rfl, _, rfl, .inr (.inr ⟨z, rfl, hzl, ?_⟩)⟩
    refine ⟨_, rfl, _, rfl, _, rfl, _, _, rfl, _, rfl, .inr (.inr ⟨z, rfl, hzl, ?_⟩)⟩
    have m1 : 0 ≤ (if to_ < at_ then to_ else at_) := by split <;> omega
    have m2 : 0 ≤ (if to_ > at_ then to_ else at_) := by split <;> omega
    have m3 : (if to_ < at_ then to_ else at_) ≤ (if to_ > at_ then to_ else at_) := by split <;> split <;> omega
    have m4 : (if to_ > at_ then to_ else at_) ≤ z.length := by split <;> omega
    have j1 := cut_lo z _ m1
    have j2 := cut_hi z _ m2
    generalize (if to_ < at_ then to_ else at_) = x1 at m1 m3 j1 ⊢
    generalize (if to_ > at_ then to_ else at_) = x2 at m2 m3 m4 j2 ⊢
    exact .inr (.inl ⟨_, _, rfl, rfl, fit _ (by omega), q _ _ (by rw [app_len]; omega) c4⟩)
  refine ⟨_, rfl, .inl ⟨rfl, _, rfl, ite2 (fun _ => ?_) fun _ => ?_⟩⟩
  · have l1 : ("(" : Str).length = 1 := by decide +kernel
    have l2 : (")" : Str).length = 1 := by decide +kernel
    refine ⟨_, rfl, .inr (.inl ⟨_, _, rfl, rfl, fit _ (by omega), ?_⟩)⟩
    refine ⟨_, rfl, (by show 3 ≤ sizeLine; decide), fun l2' hl2 => ?_⟩
    refine ⟨wl, l2', _, rfl, c4.well.new hl2 _, upd_same, c4.well.ne hl2, by simp, by show (3 : Nat) < 1073741824; decide, fun sv hsv H5 f5 => ?_⟩
    obtain ⟨sh, rfl, hsh⟩ := short_mem 1 _ (by decide +kernel) sv hsv
    have c5 := (c4.new hl2 _).trans f5
    refine .inr (.inl ⟨_, _, rfl, rfl, fit _ (by rw [app_len]; omega), ?_⟩)
    refine ⟨_, rfl, .inr (.inl ⟨_, _, rfl, rfl, fit _ (by rw [app_len, app_len]; omega), ?_⟩)⟩
    exact .inr (.inl ⟨_, _, rfl, rfl, fit _ (by rw [app_len, app_len, app_len]; omega), q _ _ (by rw [app_len, app_len, app_len, app_len]; omega) c5⟩)
  refine ⟨_, rfl, _, rfl, _, rfl, .inr (.inr ⟨z, rfl, hzl, ?_⟩)⟩
  refine ⟨_, rfl, _, rfl, _, rfl, .inr (.inr ⟨z, rfl, hzl, ?_⟩)⟩
  exact .inr (.inl ⟨_, _, rfl, rfl, fit _ (by omega), q _ _ (by rw [app_len]; omega) c4⟩)
end

/-! ## what read_kind tells, or that it refuses -/
def spLRead (K : PySem.W.Frag) : Sp := fun vs H Q _ => ∃ v d, vs = [v] ∧ Dq K H v d ∧
  (∀ cs, d = .str (tx cs) → cs.length ≤ 10000 ∧ (∀ k, rdK cs = some k → ∀ v' H', Dq K H' v' k.dat → Same H H' → Q v' H') ∧ (rdK cs = none → ∀ H', Same H H' → Q (.str "no text") H')) ∧
  ((∀ x, d ≠ .str x) → ∀ H', Same H H' → Q (.str "no text") H')
abbrev s_law_read : Stmt := top 26
theorem sc_law_read : FnScope ["text", "e"] ["text"] (defScope s_law_read) := ⟨rfl, rfl, rfl, by decide +kernel, rfl, by decide +kernel, by decide +kernel⟩
section
variable {P : Program} {w : World} {K : PySem.W.Frag} {mg : Str → Option Value} {base : Heap} {CN CT : Addr}
theorem ok_law_read (A : At K mg "_law_read" s_law_read) (T : Txt K mg w CN CT) (C_read_kind : Cal P w K mg base (L2.CX P w) 2 "read_kind" ["text"] (spRead K CT)) : Cal P w K mg base CX0 3 "_law_read" ["text"] (spLRead K) := by
  obtain ⟨f, fd, F, m⟩ := A
  obtain ⟨CF, gF, kF⟩ := T.o_NoForm
  refine ⟨f, fd, F.ok sc_law_read (fun vs H Q E h => ?_) (fun cdv A outer s H vs Q E hr h => ?_), F.binds (ps := ["text"]) (fun _ _ _ _ _ _ us hl => match us, hl with | [_], _ => rfl), F.kp, m⟩
  · obtain ⟨v, d, rfl, _⟩ := h; rfl
  obtain ⟨v, d, rfl, hd, q1, q2⟩ := h
  refine ⟨_, (pss_one (ps_try_hit (i := 1) rfl rfl sc_law_read.nd rfl rfl ⟨by rfl, by decide, .inl T.e_NoText.g⟩ (fun W pn xe tk _ => (pss_one (ps_ret (pe_calS C_read_kind (hr.mono (by first | decide | omega)) (fun z => passAt tk z) (pa_cons (pv 0) pa_nil)))))
  (fun a oe pn hz hf => (pss_one (ps_ret (pe_ix ix_BS (pe_lst (pa_cons pe_str (pa_cons pe_str pa_nil))) (pe_callTy call_int1 (by rfl) T.z_int (by decide +kernel) (pa_cons (pe_and (pe_callB (call_caught T.x_caught hz hf) (by rfl) T.z_isinstance (by decide +kernel) (pa_cons (pv 1) (pa_cons (pe_bltn (v := .ty "ValueError") (by rfl) T.z_ValueError (by decide +kernel) rfl) pa_nil))) (pe_one (pe_not (pe_callB (call_caught T.x_caught hz hf) (by rfl) T.z_isinstance (by decide +kernel) (pa_cons (pv 1) (pa_cons (pe_tup (pa_cons (pe_glob (v := V.ref CF) (by rfl) gF (by exact rfl)) (pa_cons (pe_glob (v := V.ref CN) (by rfl) T.g_NoKind (by exact rfl)) pa_nil))) pa_nil)))))) pa_nil)) (fun _ _ => rfl))))))), ?_⟩
  refine ⟨_, rfl, v, d, rfl, hd, fun cs ec => ⟨(q1 cs ec).1, fun k hk v' H' dk s => (q1 cs ec).2.1 k hk v' H' dk s, fun hn H' s => ?_⟩, fun hx H' s => ?_⟩
  · refine ⟨rfl, rfl, T.k_hit, fun a ha => ⟨(by show 2 ≤ sizeLine; decide), fun l hl => ?_⟩⟩
    refine ⟨_, rfl, .inl ⟨.ty "ValueError", .type "ValueError", true, rfl, fun u h => h, T.k_value, _, rfl, iteT' rfl ?_⟩⟩
    refine ⟨_, rfl, (by show 2 ≤ sizeLine; decide), fun t ht => .inr ⟨t, _, _, false, rfl, upd_same, .cons (.own CF) (.cons (.own CN) .nil), kF, _, rfl, .inr ⟨_, rfl, ?_⟩⟩⟩
    have el : upd (upd H' l (.lst [.str "other", .str "no text"])) t (.tup [.ref CF, .ref CN]) l = some (.lst [.str "other", .str "no text"]) := by rw [upd_ne (ne_of_none upd_same ht)]; exact upd_same
    exact .inl (.inl ⟨l, _, 1, .str "no text", rfl, rfl, .of el, at1 _ _ _, (q1 cs ec).2.2 hn _ ((s.trans (same_new hl _)).trans (same_new ht _))⟩)
  · refine ⟨rfl, rfl, T.k_hit, fun a ha => ⟨(by show 2 ≤ sizeLine; decide), fun l hl => ?_⟩⟩
    refine ⟨_, rfl, .inl ⟨.ty "ValueError", .type "ValueError", true, rfl, fun u h => h, T.k_value, _, rfl, iteT' rfl ?_⟩⟩
    refine ⟨_, rfl, (by show 2 ≤ sizeLine; decide), fun t ht => .inr ⟨t, _, _, false, rfl, upd_same, .cons (.own CF) (.cons (.own CN) .nil), kF, _, rfl, .inr ⟨_, rfl, ?_⟩⟩⟩
    have el : upd (upd H' l (.lst [.str "other", .str "no text"])) t (.tup [.ref CF, .ref CN]) l = some (.lst [.str "other", .str "no text"]) := by rw [upd_ne (ne_of_none upd_same ht)]; exact upd_same
    exact .inl (.inl ⟨l, _, 1, .str "no text", rfl, rfl, .of el, at1 _ _ _, q2 hx _ ((s.trans (same_new hl _)).trans (same_new ht _))⟩)
end

/-! ## what is right; the law -/
def spDeep : Sp := fun vs H Q _ => ∃ w, vs = [.ref w] ∧ Well H w ∧ ∀ H', Aft w H H' → Q (.bl true) H'
theorem Aft.same {w : Addr} {H H1 H2 : Hp} (a : Aft w H H1) (s : Same H1 H2) : Aft w H H2 := by
  obtain ⟨x, y, z, e⟩ := a.well
  exact ⟨⟨x, y, z, s _ _ e⟩, a.but.trans (out_same s)⟩
abbrev s_law_right : Stmt := top 27
theorem sc_law_right : FnScope ["well", "text", "turn", "some", "k", "one", "due", "found", "odd"] ["well"] (defScope s_law_right) := ⟨rfl, rfl, rfl, by decide +kernel, rfl, by decide +kernel, by decide +kernel⟩
abbrev s_law : Stmt := top 28
theorem sc_law : FnScope ["script", "cell"] ["script"] (defScope s_law) := ⟨rfl, rfl, rfl, by decide +kernel, rfl, by decide +kernel, by decide +kernel⟩
theorem sz_small {k : Kd} (h : k.leaves ≤ 10000) : sz k.dat ≤ 1000000 := by have := k.sz_dat; omega
theorem not_kd {k : Kd} {A : Prop} (ok : k.ok) (h : isKd k.dat = false) : A := by rw [isKd_dat k ok] at h; cases h
theorem ne_kinds {K : PySem.W.Frag} {H : Hp} {v u : V} {k j : Kd} {Q : VK} (hk : Dq K H v k.dat) (hj : Dq K H u j.dat) (hl : k.leaves ≤ 190) (q : Q (.bl (!decide (k = j))) H) : rNeA K v u H Q := by
  have d1 := k.deep_le
  refine .inr ⟨k.dat, j.dat, hk.dp k.dat_lay, hj.dp j.dat_lay, k.dat_lay, j.dat_lay, by rw [k.dat_depth]; omega, ?_⟩
  rw [Kd.eqv]; exact q
theorem kd_ref {K : PySem.W.Frag} {H : Hp} {v : V} {k : Kd} (h : Dq K H v k.dat) : ∃ a, v = .ref a := by
  cases k <;> cases h <;> exact ⟨_, rfl⟩
theorem txt_len3 (k : Kd) : k.txt.length = k.cod.length := by simp [Kd.txt, tx, Str.length]
theorem Aft.keep {w D : Addr} {H H' : Hp} (a : Aft w H H') (hD : H D = none) (n : D ≠ w) (o : HO) : Aft w H (upd H' D o) := by
  obtain ⟨x, y, z, e⟩ := a.well
  refine ⟨⟨x, y, z, by rw [upd_ne n.symm]; exact e⟩, fun b u h => ?_⟩
  obtain ⟨nb, h2⟩ := out_some h
  rw [out_ne nb, upd_ne (ne_of_none h2 hD)]
  exact (out_some (a.but b u h)).2
theorem flat_short : ∀ ls : List (List Nat), (∀ l ∈ ls, l.length ≤ 1) → ls.flatten.length ≤ ls.length
  | [], _ => Nat.le_refl _
  | x :: r, h => by
    have a := flat_short r fun l hl => h l (List.mem_cons_of_mem _ hl)
    have b := h x List.mem_cons_self
    rw [List.flatten_cons, List.length_append, List.length_cons]; omega
/-- the signs drawn so far -/
def JnW (wl : Addr) (H : Hp) (D : Addr) (i : Nat) (H' : Hp) : Prop :=
  ∃ ls : List (List Nat), ls.length = i ∧ (∀ l ∈ ls, l.length ≤ 1) ∧ H' D = some (.lst ((ls.map tx).map V.str)) ∧ Aft wl H H'
theorem sum_short (ls : List (List Nat)) (h : ∀ l ∈ ls, l.length ≤ 1) : ((ls.map tx).map (·.length)).sum ≤ ls.length := by
  induction ls with
  | nil => simp
  | cons x r ih =>
    have a := ih fun l hl => h l (List.mem_cons_of_mem _ hl)
    have b : (tx x).length ≤ 1 := by have := h x List.mem_cons_self; simpa [tx, Str.length] using this
    simp only [List.map_cons, List.sum_cons, List.length_cons] at a ⊢
    omega
/-- between two texts that are read -/
def RgW (wl : Addr) (H : Hp) (l : Addr) (z jn mn : Str) (σ : L2.St) (H' : Hp) : Prop :=
  ∃ o2 o4 o5 o6 o7 o8 : Option V, σ = [some (.ref wl), some (.str z), o2, some (.ref l), o4, o5, o6, o7, o8] ∧ Aft wl H H' ∧ H' l = some (.lst [.str z, .str jn, .str mn])
/-- between two readings of one text -/
def RoW (wl l : Addr) (z u : Str) (dv : V) (H : Hp) (σ : L2.St) (H' : Hp) : Prop :=
  ∃ o2 o4 o7 o8 : Option V, σ = [some (.ref wl), some (.str z), o2, some (.ref l), o4, some (.str u), some dv, o7, o8] ∧ Same H H'
/-- between two turns of the spoiling -/
def SpW (wl : Addr) (H : Hp) (i : Nat) (σ : L2.St) (H' : Hp) : Prop :=
  ∃ (z : Str) (o2 o3 o4 o5 o6 o7 o8 : Option V), σ = [some (.ref wl), some (.str z), o2, o3, o4, o5, o6, o7, o8] ∧ Aft wl H H' ∧ z.length ≤ 30 * 2 ^ i - 5
section
variable {P : Program} {w : World} {K : PySem.W.Frag} {mg : Str → Option Value} {base : Heap} {CN CT : Addr}
theorem ok_right (A : At K mg "_law_right" s_law_right) (T : Txt K mg w CN CT) (C_law_draw : Cal P w K mg base CX0 1 "_law_draw" ["well", "below"] spDraw) (C_law_one : Cal P w K mg base CX0 2 "_law_one" ["well", "some"] (spOne K))
    (C_kind_text : Cal P w K mg base (L2.CX P w) 5 "kind_text" ["kind"] (spKText K CN)) (C_law_read : Cal P w K mg base CX0 3 "_law_read" ["text"] (spLRead K))
    (C_law_kind : Cal P w K mg base CX0 12 "_law_kind" ["well", "leaves"] (spKind K 10)) (C_law_spoilt : Cal P w K mg base CX0 3 "_law_spoilt" ["well", "text"] spSpoil) (C_law_kind_in : Cal P w K mg base CX0 1 "_law_kind_in" ["text"] (spKin K)) :
    Cal P w K mg base CX0 21 "_law_right" ["well"] spDeep := by
  obtain ⟨f, fd, F, m⟩ := A
  refine ⟨f, fd, F.ok sc_law_right (fun vs H Q E h => ?_) (fun cdv A outer s H vs Q E hr h => ?_), F.binds (ps := ["well"]) (fun _ _ _ _ _ _ us hl => match us, hl with | [_], _ => rfl), F.kp, m⟩
  · obtain ⟨w, rfl, _⟩ := h; rfl
  obtain ⟨wl, rfl, hw, q⟩ := h
  refine ⟨_, (pss_cons (ps_set (i := 1) sc_law_right.nd rfl (by first | exact Or.inl rfl | exact Or.inr rfl) (pe_calC C_kind_text (hr.mono (by first | decide | omega)) passL (pa_cons (pe_calC C_law_kind (hr.mono (by first | decide | omega)) pass0 (pa_cons (pv 0) (pa_cons (pe_op op_addA pe_int (pe_calC C_law_draw (hr.mono (by first | decide | omega)) pass0 (pa_cons (pv 0) (pa_cons pe_int pa_nil)))) pa_nil))) pa_nil)))
  (pss_cons (ps_for PassesOwn.never rfl (pi_range1 (by rfl) T.z_range (pa_cons (pe_calC C_law_draw (hr.mono (by first | decide | omega)) pass0 (pa_cons (pv 0) (pa_cons pe_int pa_nil))) pa_nil)) (pg_name (i := 2) sc_law_right.nd rfl (by first | exact Or.inl rfl | exact Or.inr rfl))
   (pss_one (ps_set (i := 1) sc_law_right.nd rfl (by first | exact Or.inl rfl | exact Or.inr rfl) (pe_calC C_law_spoilt (hr.mono (by first | decide | omega)) pass0 (pa_cons (pv 0) (pa_cons (pv 1) pa_nil))))))
  (pss_cons (ps_set (i := 3) sc_law_right.nd rfl (by first | exact Or.inl rfl | exact Or.inr rfl) (pe_lst (pa_cons (pv 1) (pa_cons (pe_join pe_str (pe_lc (own := [("k", 4)]) (g := gName 4) (tt := tYes) (by rfl) sc_law_right.nd (pi_range1 (by rfl) T.z_range (pa_cons (pe_calC C_law_draw (hr.mono (by first | decide | omega)) pass0 (pa_cons (pv 0) (pa_cons pe_int pa_nil))) pa_nil)) (blkOk_by (own := [("k", 4)]) (N := ["well", "text", "turn", "some", "k", "one", "due", "found", "odd"]) (sc := defScope s_law_right) (by decide +kernel)) (fun _ _ _ _ _ => (pg_name (i := 4) sc_law_right.nd rfl (by first | exact Or.inl rfl | exact Or.inr rfl))) (fun _ _ _ _ _ => pts_nil) (fun _ _ _ _ _ => (pe_calC C_law_one (hr.mono (by first | decide | omega)) pass0 (pa_cons (pv 0) (pa_cons (pe_lst (pa_cons pe_str (pa_cons pe_str (pa_cons pe_str (pa_cons pe_str (pa_cons pe_str (pa_cons pe_str (pa_cons pe_str pa_nil)))))))) pa_nil)))))) pa_nil))))
  (pss_cons (ps_expr (pe_bm PySem.F.plainAttrs_list PySem.F.slot_list_append PySem.F.type_list_append mt_append (pv 3) (pa_cons (pe_op op_times (pe_calC C_law_one (hr.mono (by first | decide | omega)) pass0 (pa_cons (pv 0) (pa_cons (pe_lst (pa_cons pe_str (pa_cons pe_str (pa_cons pe_str (pa_cons pe_str pa_nil))))) pa_nil))) (pe_op op_addA pe_int (pe_calC C_law_draw (hr.mono (by first | decide | omega)) pass0 (pa_cons (pv 0) (pa_cons pe_int pa_nil))))) pa_nil)))
  (pss_cons (ps_for PassesOwn.never rfl (pi_list (pv 3)) (pg_name (i := 5) sc_law_right.nd rfl (by first | exact Or.inl rfl | exact Or.inr rfl))
   (pss_cons (ps_set (i := 6) sc_law_right.nd rfl (by first | exact Or.inl rfl | exact Or.inr rfl) (pe_calC C_law_kind_in (hr.mono (by first | decide | omega)) pass0 (pa_cons (pv 5) pa_nil)))
  (pss_one (ps_for PassesOwn.never rfl (pi_range1 (by rfl) T.z_range (pa_cons pe_int pa_nil)) (pg_name (i := 2) sc_law_right.nd rfl (by first | exact Or.inl rfl | exact Or.inr rfl))
   (pss_cons (ps_set (i := 7) sc_law_right.nd rfl (by first | exact Or.inl rfl | exact Or.inr rfl) (pe_calC C_law_read (hr.mono (by first | decide | omega)) pass0 (pa_cons (pv 5) pa_nil)))
  (pss_one (ps_if (PW.pt (pw_or (PW.pt (pw_and (pt_cmpR op_isN (pv 6) pe_non (nomark _)) (pw_and1 (pt_cmpR (op_neA (room200 hr)) (pv 7) pe_str (nomark _))))) (pw_or1 (PW.pt (pw_and (pt_cmpR op_notN (pv 6) pe_non (nomark _)) (pw_and1 (PW.pt (pw_or (pt_cmpR (op_neA (room200 hr)) (pv 7) (pv 6) (nomark _)) (pw_or1 (pt_cmpR (op_neA (room200 hr)) (pe_calC C_kind_text (hr.mono (by first | decide | omega)) passL (pa_cons (pv 7) pa_nil)) (pv 5) (nomark _)))))))))))
   (pss_one (ps_ret pe_bl))
   pss_nil)))))))
  (pss_cons (ps_set (i := 8) sc_law_right.nd rfl (by first | exact Or.inl rfl | exact Or.inr rfl) (pe_calC C_law_one (hr.mono (by first | decide | omega)) pass0 (pa_cons (pv 0) (pa_cons (pe_lst (pa_cons pe_non (pa_cons pe_int (pa_cons (pe_lst (pa_cons (pv 1) pa_nil)) (pa_cons (pe_tup (pa_cons (pv 1) pa_nil)) (pa_cons pe_bl (pa_cons (pe_tup (pa_cons pe_str (pa_cons pe_int pa_nil))) (pa_cons pe_dnewK pa_nil)))))))) pa_nil))))
  (pss_one (ps_ret (pe_and (pe_cmpR (op_eqA (room200 hr)) (pe_calC C_law_read (hr.mono (by first | decide | omega)) pass0 (pa_cons (pv 8) pa_nil)) pe_str (nomark _)) (pe_one (pe_cmpR (op_eqA (room200 hr)) (pe_calC C_law_read (hr.mono (by first | decide | omega)) pass0 (pa_cons pe_str pa_nil)) pe_str (nomark _)))))))))))), ?_⟩
  refine ⟨_, rfl, _, rfl, wl, 7, rfl, hw, by decide, by decide, fun d H1 d0 d1 a1 => .inl ⟨_, _, rfl, rfl, ?_⟩⟩
  refine ⟨wl, 1 + d, rfl, a1.well, by omega, by omega, by decide, fun k v H2 okk le dk a2 => ?_⟩
  have c2 := a1.trans a2
  have lek : k.leaves ≤ 7 := by omega
  refine ⟨v, k.dat, rfl, dk.same (out_sub wl H2), sz_small (by omega), fun k' _ ek H3 s3 => ?_, fun h => not_kd okk h⟩
  obtain rfl := Kd.dat_inj _ _ ek
  have c3 := c2.same s3
  refine ⟨_, rfl, wl, 3, rfl, c3.well, by decide, by decide, fun d H4 d0 d1 a4 => ⟨_, rfl, by omega, by omega, ?_⟩⟩
  have c4 := c3.trans a4
  have hn : d.toNat ≤ 2 := by omega
  refine for_range (n := d.toNat) (SpW wl H) ⟨_, _, _, _, _, _, _, _, rfl, c4, by have := txt_len3 k; have := k.cod_length; omega⟩ ?_ ?_
  · rintro i σ H5 hi ⟨z, o2, o3, o4, o5, o6, o7, o8, rfl, c5, hz⟩
    have hp : 30 * 2 ^ i - 5 ≤ 55 := by
      have : i ≤ 1 := by omega
      match i, this with
      | 0, _ => decide
      | 1, _ => decide
    refine ⟨_, rfl, _, rfl, wl, z, rfl, c5.well, by omega, fun u H6 hu a6 => ?_⟩
    refine ⟨u, _, _, _, _, _, _, _, rfl, c5.trans a6, ?_⟩
    rw [Nat.pow_succ]
    have : 1 ≤ 2 ^ i := Nat.one_le_two_pow
    omega
  · rintro σ H5 ⟨z, o2, o3, o4, o5, o6, o7, o8, rfl, c5, hz⟩
    have hz : z.length ≤ 115 := by
      refine Nat.le_trans hz ?_
      match d.toNat, hn with
      | 0, _ => decide
      | 1, _ => decide
      | 2, _ => decide
    clear c4 c3 c2 a1 a2 a4
    refine ⟨_, rfl, ⟨_, rfl⟩, _, rfl, wl, 9, rfl, c5.well, by decide, by decide, fun d H6 d0 d1 a6 => ⟨_, rfl, by omega, by omega, fun D hD => ?_⟩⟩
    have c6 := c5.trans a6
    have hDw : D ≠ wl := c6.well.ne hD
    have hn9 : d.toNat ≤ 8 := by omega
    refine lc_range (lo := 0) (n := d.toNat) (JnW wl H6 D) ⟨[], rfl, (fun l h => by cases h), upd_same, (Aft.refl c6.well).new hD _⟩ ?_ ?_
    · rintro i H7 hi ⟨ls, hls, hsh, eD, c7⟩
      refine ⟨rfl, ?_⟩
      refine ⟨_, rfl, (by show 7 ≤ sizeLine; decide), fun l hl => ?_⟩
      refine ⟨wl, l, _, rfl, c7.well.new hl _, upd_same, c7.well.ne hl, by simp, by show (7 : Nat) < 1073741824; decide, fun sv hsv H8 a8 => ?_⟩
      have eD8 := a8.at_ hDw ((upd_ne (ne_of_none eD hl)).trans eD)
      have c8 := (c7.new hl _).trans a8
      obtain ⟨sg, rfl, hsg⟩ := short_mem 1 _ (by decide +kernel) sv hsv
      refine ⟨_, eD8, by rw [List.length_map, List.length_map]; exact fits_lt (by omega), ls ++ [sg.cps.toList], by rw [List.length_append, hls]; rfl, ?_, ?_, ?_⟩
      · intro l hl
        rcases List.mem_append.mp hl with h | h
        · exact hsh l h
        · rw [List.mem_singleton.mp h]; exact hsg
      · rw [← KB.strs_map, tx_tl]; exact upd_same
      · exact c8.keep hD hDw _
    · rintro H7 ⟨ls, hls, hsh, eD, c7⟩
      have hsm := sum_short ls hsh
      refine ⟨"", D, ls.map tx, rfl, rfl, .inl (.of eD), by simp only [List.length_map] at hsm ⊢; have : ("" : Str).length = 0 := rfl; rw [this]; omega, ?_⟩
      rw [KB.join_nil]
      have hj : (tx ls.flatten).length ≤ 8 := by have := flat_short ls hsh; simp only [tx, Str.length, List.size_toArray]; omega
      generalize tx ls.flatten = jn at hj ⊢
      refine ⟨(by show 2 ≤ sizeLine; decide), fun l hl => ?_⟩
      have c7 := c6.trans c7
      clear c6 c5 eD hsm hsh hls hD
      have n_lw : l ≠ wl := c7.well.ne hl
      have c8 := (Aft.refl c7.well).new hl (.lst [.str z, .str jn])
      have el : upd H7 l (.lst [.str z, .str jn]) l = some (.lst [.str z, .str jn]) := upd_same
      generalize upd H7 l (.lst [.str z, .str jn]) = H8 at c8 el ⊢
      refine ⟨_, rfl, .inl ⟨rfl, _, .of el⟩, ?_⟩
      refine ⟨_, rfl, (by show 4 ≤ sizeLine; decide), fun l2 hl2 => ?_⟩
      refine ⟨wl, l2, _, rfl, c8.well.new hl2 _, upd_same, c8.well.ne hl2, by simp, by show (4 : Nat) < 1073741824; decide, fun sv hsv H9 a9 => ?_⟩
      have el9 := a9.at_ n_lw ((upd_ne (ne_of_none el hl2)).trans el)
      have c9 := (c8.new hl2 _).trans a9
      obtain ⟨sg, rfl, hsg⟩ := short_mem 2 _ (by decide +kernel) sv hsv
      refine ⟨_, rfl, wl, 90, rfl, c9.well, by decide, by decide, fun e H10 e0 e1 a10 => .inl ⟨_, _, rfl, rfl, ?_⟩⟩
      have el10 := a10.at_ n_lw el9
      have c10 := c9.trans a10
      have hb : sg.length * (1 + e).toNat ≤ 2 * 90 := Nat.mul_le_mul hsg (by omega)
      refine ⟨_, _, rfl, rfl, by omega, by omega, by omega, fun mn hmn => ?_⟩
      have hmn' : mn.length ≤ 180 := Nat.le_trans hmn (by omega)
      refine ⟨l, _, _, rfl, rfl, el10, by show 2 < sizeLine; decide, ?_⟩
      have c11 := c7.trans (c10.keep hl n_lw (.lst ([.str z, .str jn] ++ [.str mn])))
      have e11 : upd H10 l (.lst ([.str z, .str jn] ++ [.str mn])) l = some (.lst [.str z, .str jn, .str mn]) := upd_same
      generalize upd H10 l (.lst ([.str z, .str jn] ++ [.str mn])) = H11 at c11 e11 ⊢
      refine ⟨_, rfl, l, rfl, ⟨_, .of e11⟩, ?_⟩
      refine for_list (K := K) (a := l) (xs := [.str z, .str jn, .str mn]) (fun _ σ H' => RgW wl H l z jn mn σ H') ⟨_, _, _, _, _, _, rfl, c11, e11⟩ ?_ ?_ ?_
      · rintro i σ H5 _ ⟨o2, o4, o5, o6, o7, o8, rfl, _, e⟩
        exact .of e
      · rintro i x σ H5 hx ⟨o2, o4, o5, o6, o7, o8, rfl, c12, e12⟩
        obtain ⟨u, rfl, hu⟩ : ∃ u : Str, x = .str u ∧ u.length ≤ 240 := by
          match i, hx with
          | 0, hx => cases hx; exact ⟨_, rfl, by omega⟩
          | 1, hx => cases hx; exact ⟨_, rfl, by omega⟩
          | 2, hx => cases hx; exact ⟨_, rfl, by omega⟩
        have hcs : tx u.cps.toList = u := tx_tl u
        have hlc : u.cps.toList.length ≤ 240 := by rw [Array.length_toList]; exact hu
        generalize u.cps.toList = cs at hcs hlc
        subst hcs
        refine ⟨_, rfl, cs, rfl, hlc, fun k hk dv H6 dk s6 => ?_, fun hn H6 s6 => ?_⟩
        · have lk : k.leaves ≤ 190 := by
            have h1 := rdK_text hk
            have h2 := leaves_cod k
            rw [h1] at h2; omega
          have okk := rdK_ok hk
          obtain ⟨da, rfl⟩ := kd_ref dk
          refine ⟨2, rfl, by decide, by decide, ?_⟩
          refine for_range (lo := 0) (n := 2) (fun _ σ H' => RoW wl l z (tx cs) (.ref da) H6 σ H') ⟨_, _, _, _, rfl, Same.refl _⟩ ?_ ?_
          · rintro j σ H7 _ ⟨o2, o4, o7, o8, rfl, s7⟩
            refine ⟨_, rfl, .str (tx cs), .str (tx cs), rfl, .str _, fun cs' ec => ?_, fun h => absurd rfl (h _)⟩
            obtain rfl : cs = cs' := tx_inj (PyData.str.inj ec)
            refine ⟨by omega, fun k' hk' fv H8 dk' s8 => ?_, fun hn => by rw [hk] at hn; cases hn⟩
            obtain rfl : k = k' := by rw [hk] at hk'; cases hk'; rfl
            refine ⟨_, rfl, rfl, _, rfl, ?_⟩
            refine iteF' (decide_eq_false fun z => V.noConfusion z) (iteF' rfl ?_)
            refine ⟨_, rfl, rfl, _, rfl, iteT' (by rw [decide_eq_false fun z => V.noConfusion z]; rfl) ?_⟩
            refine ⟨_, rfl, _, rfl, ne_kinds dk' ((dk.same s7).same s8) lk ⟨_, rfl, iteF' (by simp) ?_⟩⟩
            refine ⟨_, rfl, fv, k.dat, rfl, dk', sz_small (by omega), fun k' _ ek H9 s9 => ?_, fun h => not_kd okk h⟩
            obtain rfl := Kd.dat_inj _ _ ek
            have et : k.txt = tx cs := by rw [Kd.txt, rdK_text hk]
            refine ⟨_, rfl, .inl ⟨rfl, _, rfl, iteF' (by rw [et]; simp) ?_⟩⟩
            exact ⟨_, _, _, _, rfl, s7.trans (s8.trans s9)⟩
          · rintro σ H7 ⟨o2, o4, o7, o8, rfl, s7⟩
            exact ⟨_, _, _, _, _, _, rfl, c12.same (s6.trans s7), s7 _ _ (s6 _ _ e12)⟩
        · refine ⟨2, rfl, by decide, by decide, ?_⟩
          refine for_range (lo := 0) (n := 2) (fun _ σ H' => RoW wl l z (tx cs) .non H6 σ H') ⟨_, _, _, _, rfl, Same.refl _⟩ ?_ ?_
          · rintro j σ H7 _ ⟨o2, o4, o7, o8, rfl, s7⟩
            refine ⟨_, rfl, .str (tx cs), .str (tx cs), rfl, .str _, fun cs' ec => ?_, fun h => absurd rfl (h _)⟩
            obtain rfl : cs = cs' := tx_inj (PyData.str.inj ec)
            refine ⟨by omega, fun k' hk' => (by rw [hn] at hk'; cases hk'), fun _ H8 s8 => ?_⟩
            refine ⟨_, rfl, rfl, _, rfl, iteT' rfl ?_⟩
            refine ⟨_, rfl, .inl ⟨rfl, _, rfl, iteF' (by decide) ?_⟩⟩
            refine ⟨_, rfl, rfl, _, rfl, iteF' rfl ?_⟩
            exact ⟨_, _, _, _, rfl, s7.trans s8⟩
          · rintro σ H7 ⟨o2, o4, o7, o8, rfl, s7⟩
            exact ⟨_, _, _, _, _, _, rfl, c12.same (s6.trans s7), s7 _ _ (s6 _ _ e12)⟩
      · rintro σ H5 ⟨o2, o4, o5, o6, o7, o8, rfl, c12, e12⟩
        refine ⟨_, rfl, _, rfl, (by show 1 ≤ sizeLine; decide), fun l1 h1 => ?_⟩
        refine ⟨_, rfl, (by show 1 ≤ sizeLine; decide), fun t1 h2 => ?_⟩
        refine ⟨(by show 2 ≤ sizeLine; decide), fun t2 h3 => fun dd h4 => ⟨(by show 7 ≤ sizeLine; decide), fun l2 h5 => ?_⟩⟩
        have w1 := c12.well.new h1 (.lst [.str z])
        have w2 := w1.new h2 (.tup [.str z])
        have w3 := w2.new h3 (.tup [.str "base", .int 0])
        have w4 := w3.new h4 (.dK [])
        have n1 := c12.well.ne h1
        have n2 := w1.ne h2
        have n3 := w2.ne h3
        have n4 := w3.ne h4
        have n5 := w4.ne h5
        have x1 : upd H5 l1 (.lst [.str z]) l1 = some (.lst [.str z]) := upd_same
        have x2 := (upd_ne (o := .tup [.str z]) (ne_of_none x1 h2)).trans x1
        have x3 := (upd_ne (o := .tup [.str "base", .int 0]) (ne_of_none x2 h3)).trans x2
        have x4 := (upd_ne (o := .dK []) (ne_of_none x3 h4)).trans x3
        have y2 : upd (upd H5 l1 (.lst [.str z])) t1 (.tup [.str z]) t1 = some (.tup [.str z]) := upd_same
        have y3 := (upd_ne (o := .tup [.str "base", .int 0]) (ne_of_none y2 h3)).trans y2
        have y4 := (upd_ne (o := .dK []) (ne_of_none y3 h4)).trans y3
        have z3 : upd (upd (upd H5 l1 (.lst [.str z])) t1 (.tup [.str z])) t2 (.tup [.str "base", .int 0]) t2 = some (.tup [.str "base", .int 0]) := upd_same
        have z4 := (upd_ne (o := .dK []) (ne_of_none z3 h4)).trans z3
        have u4 : upd (upd (upd (upd H5 l1 (.lst [.str z])) t1 (.tup [.str z])) t2 (.tup [.str "base", .int 0])) dd (.dK []) dd = some (.dK []) := upd_same
        have c13 := (((c12.new h1 (.lst [.str z])).new h2 (.tup [.str z])).new h3 (.tup [.str "base", .int 0])).new h4 (.dK [])
        generalize upd (upd (upd (upd H5 l1 (.lst [.str z])) t1 (.tup [.str z])) t2 (.tup [.str "base", .int 0])) dd (.dK []) = H6 at x4 y4 z4 u4 c13 w4 h5 ⊢
        have at5 : ∀ {p : Addr} {o o2 : HO}, H6 p = some o → upd H6 l2 o2 p = some o := fun e => (upd_ne (ne_of_none e h5)).trans e
        refine ⟨wl, l2, _, rfl, w4.new h5 _, upd_same, n5, by simp, by show (7 : Nat) < 1073741824; decide, fun ov hov H7 a7 => ?_⟩
        have c14 := (c13.new h5 _).trans a7
        obtain ⟨od, hd, hx⟩ : ∃ od, Dq K H7 ov od ∧ ∀ x, od ≠ .str x := by
          simp only [List.mem_cons, List.not_mem_nil, or_false] at hov
          rcases hov with rfl | rfl | rfl | rfl | rfl | rfl | rfl
          · exact ⟨_, .non, fun _ => nofun⟩
          · exact ⟨_, .int _, fun _ => nofun⟩
          · exact ⟨_, .lst (.of (a7.at_ n1 (at5 x4))) (.cons (.str _) .nil), fun _ => nofun⟩
          · exact ⟨_, .tup (.of (a7.at_ n2 (at5 y4))) (.cons (.str _) .nil), fun _ => nofun⟩
          · exact ⟨_, .bl _, fun _ => nofun⟩
          · exact ⟨_, .tup (.of (a7.at_ n3 (at5 z4))) (.cons (.str _) (.cons (.int _) .nil)), fun _ => nofun⟩
          · exact ⟨_, .dct (a7.at_ n4 (at5 u4)), fun _ => nofun⟩
        refine ⟨_, rfl, ov, od, rfl, hd, fun cs ec => absurd ec (hx _), fun _ H8 s8 => ?_⟩
        refine .inl ⟨rfl, _, rfl, iteT' (by decide) ?_⟩
        refine ⟨.str "", .str "", rfl, .str _, fun cs ec => ?_, fun h => absurd rfl (h _)⟩
        obtain rfl : cs = [] := (tx_inj (a := []) (PyData.str.inj ec)).symm
        refine ⟨Nat.zero_le _, (fun k hk => nomatch (show none = some k from hk)), fun _ H9 s9 => ?_⟩
        exact .inl ⟨rfl, q _ ((c14.same s8).same s9)⟩
end

/-! ## the law: a few cells of the script, one after the other -/
def spLaw (K : PySem.W.Frag) : Sp := fun vs H Q _ => ∃ (a : Addr) (ns : List Int), vs = [.ref a] ∧ SqL K H a (ns.map V.int) ∧ ns.length ≤ 63 ∧ ∀ H', Q (.bl true) H'
theorem cut_ints (ns : List Int) (lo hi : Option Int) : ∀ x ∈ cutV (ns.map V.int) lo hi, ∃ i : Int, x = .int i := fun x h => by
  have h2 := List.mem_of_mem_drop (List.mem_of_mem_take h)
  obtain ⟨i, _, rfl⟩ := List.mem_map.mp h2
  exact ⟨i, rfl⟩
section
variable {P : Program} {w : World} {K : PySem.W.Frag} {mg : Str → Option Value} {base : Heap} {CN CT : Addr}
theorem ok_law {f : Addr} {fd : FuncData} (F : Fun K "law" "law" s_law f fd) (T : Txt K mg w CN CT) (C_law_cell_at : Cal P w K mg base CX0 1 "_law_cell_at" ["script", "k"] (spCell K)) (C_law_well : Cal P w K mg base CX0 1 "_law_well" ["cell"] spWell)
    (C_law_right : Cal P w K mg base CX0 21 "_law_right" ["well"] spDeep) : FnOk P w K mg base CX0 22 f fd ["script"] (spLaw K) := by
  refine F.ok sc_law (fun vs H Q E h => ?_) (fun cdv A outer s H vs Q E hr h => ?_)
  · obtain ⟨a, ns, rfl, _⟩ := h; rfl
  obtain ⟨a, ns, rfl, hS, hl, q⟩ := h
  refine ⟨_, (pss_cons (ps_for PassesOwn.never rfl (pi_list (pe_op op_addA (pe_lst (pa_cons (pe_calC C_law_cell_at (hr.mono (by first | decide | omega)) pass0 (pa_cons (pv 0) (pa_cons pe_int pa_nil))) pa_nil)) (pe_slice sl_A (pv 0) (po_some pe_int) (po_some pe_int)))) (pg_name (i := 1) sc_law.nd rfl (by first | exact Or.inl rfl | exact Or.inr rfl))
   (pss_one (ps_if (pt_not (pt_val (pe_calC C_law_right (hr.mono (by first | decide | omega)) pass0 (pa_cons (pe_calC C_law_well (hr.mono (by first | decide | omega)) pass0 (pa_cons (pv 1) pa_nil)) pa_nil))))
   (pss_one (ps_ret pe_bl))
   pss_nil)))
  (pss_one (ps_ret pe_bl))), ?_⟩
  refine ⟨_, rfl, a, ns, 0, rfl, hS, by decide, fun c => ⟨(by show 1 ≤ sizeLine; decide), fun p hp => ?_⟩⟩
  have hS2 : SqL K (upd H p (.lst [.int c])) a (ns.map V.int) := (same_new hp _).seq hS
  refine ⟨_, rfl, _, rfl, _, rfl, .inl ⟨a, _, rfl, hS2, fun p2 hp2 => ?_⟩⟩
  have e1 : upd (upd H p (.lst [.int c])) p2 (.lst (cutV (ns.map V.int) (some 1) (some 12))) p = some (.lst [.int c]) := by rw [upd_ne (ne_of_none upd_same hp2)]; exact upd_same
  have hcl := cutV_length (ns.map V.int) (some 1) (some 12)
  rw [List.length_map] at hcl
  refine .inr (.inr (.inl ⟨p, p2, _, _, rfl, rfl, e1, upd_same, fits (by simp only [List.length_cons, List.length_nil]; omega), fun l hl' => ⟨l, rfl, ⟨_, .of upd_same⟩, ?_⟩⟩))
  generalize hxs : [V.int c] ++ cutV (ns.map V.int) (some 1) (some 12) = xs
  have hint : ∀ x ∈ xs, ∃ i : Int, x = .int i := fun x h => by
    rw [← hxs] at h
    rcases List.mem_append.mp h with h | h
    · exact ⟨c, by simpa using h⟩
    · exact cut_ints ns _ _ x h
  refine for_list (K := K) (a := l) (xs := xs) (fun _ σ H' => ∃ o, σ = [some (.ref a), o] ∧ H' l = some (.lst xs)) ⟨_, rfl, upd_same⟩ ?_ ?_ ?_
  · rintro i σ H5 _ ⟨o, rfl, e⟩
    exact .of e
  · rintro i x σ H5 hx ⟨o, rfl, e⟩
    obtain ⟨z, rfl⟩ := hint x (List.mem_of_getElem? hx)
    refine ⟨_, rfl, z, rfl, fun pw x y z' hpw => ⟨pw, rfl, ⟨x, y, z', upd_same⟩, fun H6 a6 => ⟨_, rfl, iteF' rfl ⟨_, rfl, ?_⟩⟩⟩⟩
    have n := ne_of_none e hpw
    exact a6.at_ n (by rw [upd_ne n]; exact e)
  · rintro σ H5 ⟨o, rfl, e⟩
    exact q H5
theorem law_fn {l : PySem.W.OpenLaw} {fa : Addr} (hfa : mg "law" = some (.ref fa)) (A : At K mg "law" s_law) (h : ∀ (f : Addr) (fd : FuncData), Fun K "law" "law" s_law f fd → ∀ base : Heap, FnOk l.prog w K mg base CX0 22 f fd ["script"] (spLaw K)) :
    ∃ fd : FuncData, (∀ (s : Shared) (v : Value), BindsTo s fd ⟨[v], []⟩ [("script", v)]) ∧ ∀ base : Heap, K.In base → base.Ns mainGlobals mg → FnOk l.prog w K mg base CX0 22 fa fd ["script"] (spLaw K) := by
  obtain ⟨f, fd, F, m⟩ := A
  have e := hfa.symm.trans m
  cases e
  obtain ⟨oc, od, kV, doc, pm, an, cdv, ct, osl, rfl, lk, hcd⟩ := id F.ex
  exact ⟨_, fun s v => .of_eq rfl, fun base _ _ => h _ _ F base⟩
end
theorem walk {l : PySem.W.OpenLaw} {q : Program} {loose : List Str} {XP : (Str → Option Value) → Heap → Prop} {YP : World → Heap → Prop} {d : DefRec} {K : Params → PySem.W.Frag} (hn : l.most = some 63) (hdf : d.params.defaults = [])
    (hY : ∀ (w : World) (h : Heap), YP w h → (K w.params).In h)
    (F : ∀ (w : World) (mg : Str → Option Value) (fa : Addr) (h : Heap), (K w.params).In h → h.Ns mainGlobals mg → mg d.name = some (.ref fa) →
      ∃ fd : FuncData, (∀ (s : Shared) (u : Value), BindsTo s fd ⟨[u], []⟩ [("script", u)]) ∧ ∀ base : Heap, (K w.params).In base → base.Ns mainGlobals mg → FnOk l.prog w (K w.params) mg base CX0 22 fa fd ["script"] (spLaw (K w.params))) :
    PySem.W.WalkO q loose XP YP l.row.toRowW d [] (fun f vs => PySem.call f vs) :=
  L2.walk_of (n := 63) (k := 22) (x := "script") (CX := fun _ => CX0) (sp := fun w => spLaw (K w.params)) hn (by decide) hdf ⟨rfl, by decide, by decide⟩ hY F (fun _ _ a ns hl _ hS => ⟨a, ns, rfl, hS, hl, fun _ => rfl⟩) fun _ _ _ _ _ z => z

section
variable {P : Program} {w : World} {K : PySem.W.Frag} {mg : Str → Option Value} {base : Heap} {CN CT : Addr}
theorem law_end {l : PySem.W.OpenLaw} {fa : Addr} (hfa : mg "law" = some (.ref fa)) (T : Txt K mg w CN CT) (A_is_base_number : At K mg "is_base_number" s_is_base_number) (A_is_kind : At K mg "is_kind" s_is_kind) (A__is_kind_but_for_parts : At K mg "_is_kind_but_for_parts" s_is_kind_but_for_parts) (A_need_kind : At K mg "need_kind" s_need_kind) (A_kind_text : At K mg "kind_text" s_kind_text) (A_read_kind : At K mg "read_kind" s_read_kind) (A__read_sign : At K mg "_read_sign" s_read_sign) (A__close_braces : At K mg "_close_braces" s_close_braces) (A__law_cell_at : At K mg "_law_cell_at" s_law_cell_at) (A__law_well : At K mg "_law_well" s_law_well) (A__law_draw : At K mg "_law_draw" s_law_draw) (A__law_one : At K mg "_law_one" s_law_one) (A__law_kind : At K mg "_law_kind" s_law_kind) (A__law_kind_in : At K mg "_law_kind_in" s_law_kind_in) (A__law_spoilt : At K mg "_law_spoilt" s_law_spoilt) (A__law_read : At K mg "_law_read" s_law_read) (A__law_right : At K mg "_law_right" s_law_right) (A_law : At K mg "law" s_law) :
    ∃ fd : FuncData, (∀ (s : Shared) (v : Value), BindsTo s fd ⟨[v], []⟩ [("script", v)]) ∧ ∀ base : Heap, K.In base → base.Ns mainGlobals mg → FnOk l.prog w K mg base CX0 22 fa fd ["script"] (spLaw K) :=
  law_fn hfa A_law fun f fd F base => by
    have Cc := ok_cell_at (P := l.prog) (base := base) A__law_cell_at T
    have Cw := ok_well (P := l.prog) (base := base) A__law_well T
    have Cd := ok_draw (P := l.prog) (base := base) A__law_draw T
    have Co := ok_one A__law_one T Cd
    have Ck := ok_kind A__law_kind T Cd Co 10
    have Cb := ok_is_base_number (P := l.prog) (base := base) A_is_base_number T
    have Cs := ok_is_kind_but_for_parts A__is_kind_but_for_parts T Cb
    have Ci := ok_is_kind A_is_kind T Cs
    have Cn := ok_need_kind A_need_kind T Ci
    have Ckt := ok_kind_text A_kind_text T Cn
    have Csg := ok_read_sign (P := l.prog) (base := base) A__read_sign T
    have Ccl := ok_close_braces (P := l.prog) (base := base) A__close_braces T
    have Cr := ok_read_kind A_read_kind T Ccl Csg
    have Clr := ok_law_read A__law_read T Cr
    have Csp := ok_law_spoilt A__law_spoilt T Cd Co
    have Cki := ok_law_kind_in (P := l.prog) (base := base) A__law_kind_in T
    have Crr := ok_right A__law_right T Cd Co Ckt Clr Ck Csp Cki
    exact ok_law F T Cc Cw Crr
end
end KW
open PySem PySem.W PyProof.Rows in
set_option maxRecDepth 100000 in
set_option maxHeartbeats 0 in
theorem PySem.Challenge.cw_kindswap_k03_texts_of_no_kind_holds : PySem.Challenge.rw_kindswap_k03_texts_of_no_kind.Holds := by
  w_on; o_law; k_head; (case hw => w_witness2)
  k_fill
  refine KW.walk (l := PySem.Challenge.rw_kindswap_k03_texts_of_no_kind) rfl rfl (fun w h Y => PySem.W.kIn_of Y) ?F
  case F =>
    intro w mg fa h KX G hmg
    have A_is_base_number := KB.at_mk (x := "is_base_number") (st := KW.s_is_base_number) KX G (by k_is) (by k_is) (by k_is) (by k_is)
    have A_is_kind := KB.at_mk (x := "is_kind") (st := KW.s_is_kind) KX G (by k_is) (by k_is) (by k_is) (by k_is)
    have A__is_kind_but_for_parts := KB.at_mk (x := "_is_kind_but_for_parts") (st := KW.s_is_kind_but_for_parts) KX G (by k_is) (by k_is) (by k_is) (by k_is)
    have A_need_kind := KB.at_mk (x := "need_kind") (st := KW.s_need_kind) KX G (by k_is) (by k_is) (by k_is) (by k_is)
    have A_kind_text := KB.at_mk (x := "kind_text") (st := KW.s_kind_text) KX G (by k_is) (by k_is) (by k_is) (by k_is)
    have A_read_kind := KB.at_mk (x := "read_kind") (st := KW.s_read_kind) KX G (by k_is) (by k_is) (by k_is) (by k_is)
    have A__read_sign := KB.at_mk (x := "_read_sign") (st := KW.s_read_sign) KX G (by k_is) (by k_is) (by k_is) (by k_is)
    have A__close_braces := KB.at_mk (x := "_close_braces") (st := KW.s_close_braces) KX G (by k_is) (by k_is) (by k_is) (by k_is)
    have A__law_cell_at := KB.at_mk (x := "_law_cell_at") (st := KW.s_law_cell_at) KX G (by k_is) (by k_is) (by k_is) (by k_is)
    have A__law_well := KB.at_mk (x := "_law_well") (st := KW.s_law_well) KX G (by k_is) (by k_is) (by k_is) (by k_is)
    have A__law_draw := KB.at_mk (x := "_law_draw") (st := KW.s_law_draw) KX G (by k_is) (by k_is) (by k_is) (by k_is)
    have A__law_one := KB.at_mk (x := "_law_one") (st := KW.s_law_one) KX G (by k_is) (by k_is) (by k_is) (by k_is)
    have A__law_kind := KB.at_mk (x := "_law_kind") (st := KW.s_law_kind) KX G (by k_is) (by k_is) (by k_is) (by k_is)
    have A__law_kind_in := KB.at_mk (x := "_law_kind_in") (st := KW.s_law_kind_in) KX G (by k_is) (by k_is) (by k_is) (by k_is)
    have A__law_spoilt := KB.at_mk (x := "_law_spoilt") (st := KW.s_law_spoilt) KX G (by k_is) (by k_is) (by k_is) (by k_is)
    have A__law_read := KB.at_mk (x := "_law_read") (st := KW.s_law_read) KX G (by k_is) (by k_is) (by k_is) (by k_is)
    have A__law_right := KB.at_mk (x := "_law_right") (st := KW.s_law_right) KX G (by k_is) (by k_is) (by k_is) (by k_is)
    have A_law := KB.at_mk (x := "law") (st := KW.s_law) KX G (by k_is) (by k_is) (by k_is) (by k_is)
    have D1 := KB.ds_mk (x := "SIGN_OF_WORD") (w := w) (kvs := [("both", .str "*"), ("from", .str ">")]) KX G (by k_is) (by k_is) (by exact ⟨⟨_, _, rfl, rfl⟩, ⟨_, _, rfl, rfl⟩, trivial⟩) (by first | rfl | decide) (by exact .cons ⟨_, rfl⟩ (.cons ⟨_, rfl⟩ .nil))
    have D2 := KB.ds_mk (x := "WORD_OF_SIGN") (w := w) (kvs := [("*", .str "both"), (">", .str "from")]) KX G (by k_is) (by k_is) (by exact ⟨⟨_, _, rfl, rfl⟩, ⟨_, _, rfl, rfl⟩, trivial⟩) (by first | rfl | decide) (by exact .cons ⟨_, rfl⟩ (.cons ⟨_, rfl⟩ .nil))
    have E1 := KB.exc_mk (x := "NoKind") KX G (by k_is) (by k_exc) (by k_is) (by k_is) (by k_is) (by k_is) (by first | rfl | k_is)
    have E2 := KB.exc_mk (x := "NoText") KX G (by k_is) (by k_exc) (by k_is) (by k_is) (by k_is) (by k_is) (by first | rfl | k_is)
    have X2 := KB.excC_mk (x := "NoText") KX E2 (by k_is) (by k_is) (by k_is) (by k_is) (by k_is) (by k_is) (by k_is) (by k_is)
    have V2 := KB.kitOne_mk KX E2 (T := "ValueError") (b := true) (by first | k_is | rfl | decide +kernel)
    have F1 := KB.cls_mk (x := "NoForm") KX G (by k_is)
    have V3 := KB.kitAny_mk KX E2 F1 E1.g (b := false) (by first | k_is | rfl | decide +kernel)
    have g1 : ∃ t, mg "BASE_LETTERS" = some (.str "abcdefgh" t) := ⟨_, PySem.W.mg_of KX G (by k_is)⟩
    have g2 : ∃ t, mg "UNIT_TEXT" = some (.str "1" t) := ⟨_, PySem.W.mg_of KX G (by k_is)⟩
    have T : KW.Txt _ mg w _ _ := ⟨PySem.W.mg_none_of KX G (by k_is), PySem.W.mg_none_of KX G (by k_is), PySem.W.mg_none_of KX G (by k_is), PySem.W.mg_none_of KX G (by k_is), PySem.W.mg_none_of KX G (by k_is), PySem.W.mg_none_of KX G (by k_is), PySem.W.mg_none_of KX G (by k_is), PySem.W.mg_none_of KX G (by k_is), PySem.W.mg_none_of KX G (by k_is), PySem.W.mg_none_of KX G (by k_is),
      g1, g2, D1, D2, E1, E2, E1.g, X2, E2.hit, V2, ⟨_, F1, V3⟩⟩
    exact KW.law_end hmg T A_is_base_number A_is_kind A__is_kind_but_for_parts A_need_kind A_kind_text A_read_kind A__read_sign A__close_braces A__law_cell_at A__law_well A__law_draw A__law_one A__law_kind A__law_kind_in A__law_spoilt A__law_read A__law_right A_law
namespace KW

end KW
