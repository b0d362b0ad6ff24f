import PyProof.Rows.All
import Wide.All
import OpenK.AllK
import Wide.FinOn
import HandS.Words
import HandS.Head2
import HandS.HeadHook4
import HandS.HeadWalk
import KE.HD3
import PySem.Challenge.RW_kindswap_k05_kinds_spoilt_at_any_depth
import HandS.ForMost
import HandS.More
import HandS.NoneIn
import HandS.Deep
import HandS.ForExc
import HandS.ExcIs
import HandS.StrMore
import HandS.IsInst
import HandS.TryMany
import HandS.Style
import HandS.SortOrd
import HandS.SortRule
import KE.LtSeq
import HandS.Lambda
import HandS.EndOwn
import KE.KExcIs
import HandS.ExcInit
import HandS.ExcField
import HandS.ExcValue
import HandS.Small
import HandS.SetFor
import HandS.Walk
import HandS.Wide
import HandS.AnyAll
import HandS.JoinGen
import HandS.TupMul
import HandS.Conv
import HandS.EndTab
import HandS.TupAny
import HandS.WideBits
import HandS.Gcd
import HandS.Flow
import HandS.Iter
import Flt.RightSqrt
import HandS.SetBool
import HandS.Strs
import HandS.TupSets
import KE.KeyNested
import KE.SortData
import KE.DataCmp
import HandS.Nested
set_option Elab.async false
set_option linter.all false
set_option maxRecDepth 100000
set_option maxHeartbeats 4000000
/-! H1: the head of a large program: the facts asked of its top, as Bools; the run's equation in parts. It stands ahead of all else in a PROOF (the run wants nearly all the memory there is). -/
namespace KB
open PySem PySem.Spec PyProof.Rows L2 He
/-- a def of the module, of no default -/
def dd (x : Str) (st : Stmt) : DefD := ⟨(x, none), x, x, defArgs st, defBody st, defScope st, [], []⟩
/-- an own class of errors -/
def excB (K : PySem.W.Frag) (x : Str) : Bool := eqO (PySem.W.nsIn K mainGlobals x) (some (some (.ref (ga K x)))) && (PySem.W.excIn K (ga K x) [.type "ValueError", .type "Exception", .type "BaseException", .type "object"] "ValueError.__new__" && (PySem.W.keepIn K (.ref (ga K x)) &&
  (decide (PySem.W.subIn K (.ref (ga K x)) (.type "BaseException") = some true) && (decide (PySem.W.typeIn K (.ref (ga K x)) = some (.type "type")) && (PySem.W.isClsIn K (ga K x) && decide (PySem.W.subIn K (.ref (ga K x)) (.ref (ga K x)) = some true))))))
/-- .. as isinstance asks it -/
def excCB (K : PySem.W.Frag) (x : Str) : Bool := eqO (PySem.W.findIn K (.ref (ga K x)) "__getattribute__") (some (some (.builtin "BaseException.__getattribute__"))) && (eqO (PySem.W.findIn K (.ref (ga K x)) "__getattr__") (some none) && (decide (PySem.W.subIn K (.ref (ga K x)) (.type "BaseException") = some true) &&
  (PySem.W.hasDictIn K (ga K x) && (eqO (PySem.W.findIn K (.ref (ga K x)) "__class__") (some (some (.builtin "object.__class__"))) && (eqO (PySem.W.specialIn K (.builtin "object.__class__") "__get__") (some (some (.builtin "getset_descriptor.__get__"))) &&
  (decide (PySem.W.takesIn K (.builtin "object.__class__") = some true) && decide (PySem.W.mroIn K (ga K x) (.type "object") = some true)))))))
def kitN (K : PySem.W.Frag) (x y : Str) (b : Bool) : Bool := decide (PySem.W.kitOne K (.ref (ga K x)) (.ref (ga K y)) = some b)
def exmN (K : PySem.W.Frag) (x y : Str) (b : Bool) : Bool := decide (PySem.W.exmOne K (.ref (ga K x)) (.ref (ga K y)) = some b)
/-- a dict of the module -/
def keyB (v : Value) (k : Str) : Bool := match v with
  | .str z _ => decide (z = k)
  | _ => false
def entsB : List (Str × V) → List DictEntry → Bool
  | [], [] => true
  | (k, v) :: r, e :: es => keyB e.key k && (relB v e.val && entsB r es)
  | _, _ => false
def dctB (K : PySem.W.Frag) (x : Str) (kvs : List (Str × V)) : Bool := eqO (PySem.W.nsIn K mainGlobals x) (some (some (.ref (ga K x)))) && (match K.lookup (ga K x) with
  | some ⟨_, _, .dict es _, _⟩ => entsB kvs es.toList
  | _ => false)
/-- three looks at one run -/
theorem map_three {α β γ δ : Type} {o : Option α} {f : α → β} {g : α → γ} {h : α → δ} {a : β} {b : γ} {c : δ} (h1 : o.map (fun x => (f x, g x)) = some (a, b)) (h3 : o.map h = some c) : o.map (fun x => (f x, g x, h x)) = some (a, b, c) := by
  cases o with
  | none => cases h1
  | some x =>
    obtain ⟨e1, e2⟩ := Prod.mk.inj (Option.some.inj h1)
    show some (f x, g x, h x) = _
    rw [e1, e2, Option.some.inj h3]
section
open PySem.W HeadRun
/-- what is looked at behind the run, but for the facts; the facts -/
def LooksEq (r : OpenRow) (q : Program) (M : Nat) (loose : List PySem.Str) (w : World) : Prop :=
  (wholeF (fun p => stepQ (denQ tabQ) p w) fenceQ M r.prog).map (fun x => (looksF r.prog x.1.heap x.2.abs, seenQ q loose (importedModules r.prog.main.body) (fun s => xlAt q [] s && recOk r.toRowW.records s) x.2.abs)) = some (true, openGood q loose)
def FactsEq (r : OpenRow) (H : Hook) (ob : PySem.W.SharedT → H.α) (M : Nat) (w : World) : Prop :=
  (wholeF (fun p => stepQ (denQ tabQ) p w) fenceQ M r.prog).map (fun x => ob x.2) = some (H.val w)
theorem run_three {r : OpenRow} {q : Program} {H : Hook} {ob : PySem.W.SharedT → H.α} {M : Nat} {loose : List PySem.Str} {w : World} (h1 : LooksEq r q M loose w) (h3 : FactsEq r H ob M w) : RunEqI r q H ob M loose w := map_three h1 h3
end
end KB
namespace KW
open PySem PySem.Spec PyProof.Rows L2 KB
def top (i : Nat) : Stmt := PySem.Challenge.pw_kindswap_k05_kinds_spoilt_at_any_depth.main.body.getD i (.Pass ⟨0, 0, 0, 0⟩)
/-! ## the head: facts by names, the run. It is the first text of a PROOF. -/
def fn05 : List He.DefD := [KB.dd "is_base_number" (top 18), KB.dd "_is_kind_but_for_parts" (top 20), KB.dd "is_kind" (top 19), KB.dd "need_kind" (top 21), KB.dd "kind_text" (top 22), KB.dd "read_kind" (top 23), KB.dd "_read_sign" (top 24), KB.dd "_close_braces" (top 25), KB.dd "form" (top 37), KB.dd "_factors" (top 38), KB.dd "alike" (top 43), KB.dd "sized_kind" (top 50), KB.dd "many" (top 65), KB.dd "worths" (top 127), KB.dd "is_worth" (top 128), KB.dd "apart" (top 69), KB.dd "apart_fault" (top 71), KB.dd "turner" (top 112), KB.dd "turn_fault" (top 113), KB.dd "search" (top 117), KB.dd "search_fault" (top 118), KB.dd "need_kinds" (top 97), KB.dd "term_kind" (top 96), KB.dd "plain" (top 99), KB.dd "same" (top 100), KB.dd "_is_row" (top 120), KB.dd "_need_library" (top 119), KB.dd "_law_well" (top 130), KB.dd "_law_draw" (top 131), KB.dd "_law_deep" (top 132), KB.dd "_law_odd" (top 133), KB.dd "_law_spoilt" (top 134), KB.dd "_law_word" (top 135), KB.dd "law" (top 138), KB.dd "rest" (top 66), KB.dd "_law_asks" (top 136), KB.dd "_law_lists_right" (top 137)]
def fa05 : List He.Fa := [.glo "is_base_number", .glo "_is_kind_but_for_parts", .glo "is_kind", .glo "need_kind", .glo "kind_text", .glo "read_kind", .glo "_read_sign", .glo "_close_braces", .glo "form", .glo "_factors", .glo "alike", .glo "sized_kind", .glo "many", .glo "worths", .glo "is_worth", .glo "apart", .glo "apart_fault", .glo "turner", .glo "turn_fault", .glo "search", .glo "search_fault", .glo "need_kinds", .glo "term_kind", .glo "plain", .glo "same", .glo "_is_row", .glo "_need_library", .glo "_law_well", .glo "_law_draw", .glo "_law_deep", .glo "_law_odd", .glo "_law_spoilt", .glo "_law_word", .glo "law", .glo "rest", .glo "_law_asks", .glo "_law_lists_right", .free "len", .free "int", .free "tuple", .free "list", .free "type", .free "range", .free "str", .free "all", .free "isinstance", .free "enumerate", .free "sorted", .str "BASE_LETTERS" "abcdefgh", .str "UNIT_TEXT" "1"]
def ts05 : List He.Tab := [((fun K => He.ga K "SIGN_OF_WORD"), ["both", "from"]), ((fun K => He.ga K "WORD_OF_SIGN"), ["*", ">"])]
def tf05 : List He.Defn := [("_law_asks", none), ("_law_lists_right", none)]
def ex05_0 (K : PySem.W.Frag) : Bool := KB.dctB K "SIGN_OF_WORD" [("both", .str "*"), ("from", .str ">")]
def ex05_1 (K : PySem.W.Frag) : Bool := KB.dctB K "WORD_OF_SIGN" [("*", .str "both"), (">", .str "from")]
def ex05_2 (K : PySem.W.Frag) : Bool := KB.excB K "NoKind"
def ex05_3 (K : PySem.W.Frag) : Bool := KB.excB K "NoText"
def ex05_4 (K : PySem.W.Frag) : Bool := KB.excB K "NoLibrary"
def ex05_5 (K : PySem.W.Frag) : Bool := KB.excCB K "NoKind"
def ex05_6 (K : PySem.W.Frag) : Bool := KB.kitN K "NoKind" "NoLibrary" false
def ex05_7 (K : PySem.W.Frag) : Bool := KB.exmN K "NoKind" "NoKind" true
def ex05_8 (K : PySem.W.Frag) : Bool := KB.exmN K "NoLibrary" "NoKind" false
def ex05_9 (K : PySem.W.Frag) : Bool := KB.exmN K "NoLibrary" "NoLibrary" true
def ex05_10 (K : PySem.W.Frag) : Bool := !decide ((He.cT K ("_law_asks", none)).2 = (He.cT K ("_law_lists_right", none)).2)
def ex05 (K : PySem.W.Frag) : Bool := ex05_0 K && (ex05_1 K && (ex05_2 K && (ex05_3 K && (ex05_4 K && (ex05_5 K && (ex05_6 K && (ex05_7 K && (ex05_8 K && (ex05_9 K && (ex05_10 K))))))))))
abbrev Row05 : PySem.W.OpenRow := PySem.W.OpenLaw.row PySem.Challenge.rw_kindswap_k05_kinds_spoilt_at_any_depth
abbrev view05 : Program := PySem.W.view Row05.prog [0, 138]
abbrev hk05 : PySem.W.Hook := He.hookX 2 fa05 fn05 ts05 tf05 ex05
def ob05 (s : PySem.W.SharedT) : He.AlX := He.obsX 2 fa05 fn05 ts05 tf05 ex05 (HeadRun.getT s)
theorem ob05_eq (s : PySem.W.SharedT) : ob05 s = hk05.obs s.abs := He.obsX_eq (HeadRun.getT_eq s)
def nm05_0 : List PySem.Str := [PySem.Str.ofString "SwapError", PySem.Str.ofString "NoText", PySem.Str.ofString "NoKind", PySem.Str.ofString "NoForm", PySem.Str.ofString "NoSizes", PySem.Str.ofString "TooMany", PySem.Str.ofString "NoDivisor", PySem.Str.ofString "NoTerm", PySem.Str.ofString "Unlike", PySem.Str.ofString "NoLibrary", PySem.Str.ofString "NoName", PySem.Str.ofString "BASE_LETTERS", PySem.Str.ofString "UNIT_TEXT", PySem.Str.ofString "SIGN_OF_WORD", PySem.Str.ofString "WORD_OF_SIGN", PySem.Str.ofString "is_base_number", PySem.Str.ofString "is_kind", PySem.Str.ofString "_is_kind_but_for_parts", PySem.Str.ofString "need_kind", PySem.Str.ofString "kind_text", PySem.Str.ofString "read_kind", PySem.Str.ofString "_read_sign", PySem.Str.ofString "_close_braces", PySem.Str.ofString "GREATEST_TRIED", PySem.Str.ofString "WITNESSES", PySem.Str.ofString "rest_of_power", PySem.Str.ofString "without_shared_part", PySem.Str.ofString "_without_part", PySem.Str.ofString "_great_primes", PySem.Str.ofString "_is_prime", PySem.Str.ofString "_has_look_of_prime", PySem.Str.ofString "_part_of_two_primes", PySem.Str.ofString "form", PySem.Str.ofString "_factors", PySem.Str.ofString "is_form"]
def nm05_1 : List PySem.Str := [PySem.Str.ofString "_is_factor_but_for_wants", PySem.Str.ofString "kind_of", PySem.Str.ofString "_kind_of_factors", PySem.Str.ofString "alike", PySem.Str.ofString "GREATEST_SIZE", PySem.Str.ofString "TOO_GREAT", PySem.Str.ofString "MOST_TOLD", PySem.Str.ofString "LONGEST_ROW", PySem.Str.ofString "Sized", PySem.Str.ofString "sized_kind", PySem.Str.ofString "is_sizes", PySem.Str.ofString "need_sizes", PySem.Str.ofString "by_sizes", PySem.Str.ofString "_power", PySem.Str.ofString "all_worths", PySem.Str.ofString "has_worth", PySem.Str.ofString "_are_worths_but_for_entries", PySem.Str.ofString "_length_of_worths", PySem.Str.ofString "LEAST_DIVISOR", PySem.Str.ofString "GREATEST_DIVISOR", PySem.Str.ofString "APART_DIVISORS", PySem.Str.ofString "MOST_SIZES_TRIED", PySem.Str.ofString "LEAST_TRIED", PySem.Str.ofString "many", PySem.Str.ofString "rest", PySem.Str.ofString "_is_divisor", PySem.Str.ofString "_rest", PySem.Str.ofString "apart", PySem.Str.ofString "_both_rests", PySem.Str.ofString "apart_fault", PySem.Str.ofString "Steps", PySem.Str.ofString "Telling", PySem.Str.ofString "MOST_GUESSED", PySem.Str.ofString "Stuck", PySem.Str.ofString "Pair"]
def nm05_2 : List PySem.Str := [PySem.Str.ofString "Function", PySem.Str.ofString "Late", PySem.Str.ofString "given_value", PySem.Str.ofString "settled", PySem.Str.ofString "needed", PySem.Str.ofString "only_term", PySem.Str.ofString "Leading", PySem.Str.ofString "LENGTHS", PySem.Str.ofString "Part", PySem.Str.ofString "read_term", PySem.Str.ofString "_pieces", PySem.Str.ofString "_part", PySem.Str.ofString "_needs_of_parts", PySem.Str.ofString "_given_part", PySem.Str.ofString "_kind_by_parts", PySem.Str.ofString "term_kind", PySem.Str.ofString "need_kinds", PySem.Str.ofString "plain", PySem.Str.ofString "same", PySem.Str.ofString "_plain_of_part", PySem.Str.ofString "equal_terms", PySem.Str.ofString "Leaf", PySem.Str.ofString "Node", PySem.Str.ofString "Nodes", PySem.Str.ofString "_behind_pair", PySem.Str.ofString "matched", PySem.Str.ofString "_places", PySem.Str.ofString "Turning", PySem.Str.ofString "turner", PySem.Str.ofString "turn_fault", PySem.Str.ofString "_function_or_none", PySem.Str.ofString "_leaves_all", PySem.Str.ofString "search", PySem.Str.ofString "search_fault", PySem.Str.ofString "_need_library"]
def nm05_3 : List PySem.Str := [PySem.Str.ofString "_is_row", PySem.Str.ofString "_kind_by_name", PySem.Str.ofString "_wished_function", PySem.Str.ofString "_wants_or_none", PySem.Str.ofString "_without", PySem.Str.ofString "_wanting", PySem.Str.ofString "worths", PySem.Str.ofString "is_worth", PySem.Str.ofString "_law_well", PySem.Str.ofString "_law_draw", PySem.Str.ofString "_law_deep", PySem.Str.ofString "_law_odd", PySem.Str.ofString "_law_spoilt", PySem.Str.ofString "_law_word", PySem.Str.ofString "_law_asks", PySem.Str.ofString "_law_lists_right"]
def nm05 : List PySem.Str := nm05_0 ++ nm05_1 ++ nm05_2 ++ nm05_3
theorem look05_false (w : World) : KB.LooksEq Row05 view05 30000 nm05 (w.withFollow "special-get-raises" false) := by
  delta KB.LooksEq
  kernel_rfl
theorem fact05_false (w : World) : KB.FactsEq Row05 hk05 ob05 30000 (w.withFollow "special-get-raises" false) := by
  delta KB.FactsEq
  kernel_rfl
theorem run05_false (w : World) : HeadRun.RunEqI Row05 view05 hk05 ob05 30000 nm05 (w.withFollow "special-get-raises" false) := KB.run_three (look05_false w) (fact05_false w)
theorem look05_true (w : World) : KB.LooksEq Row05 view05 30000 nm05 (w.withFollow "special-get-raises" true) := by
  delta KB.LooksEq
  kernel_rfl
theorem fact05_true (w : World) : KB.FactsEq Row05 hk05 ob05 30000 (w.withFollow "special-get-raises" true) := by
  delta KB.FactsEq
  kernel_rfl
theorem run05_true (w : World) : HeadRun.RunEqI Row05 view05 hk05 ob05 30000 nm05 (w.withFollow "special-get-raises" true) := KB.run_three (look05_true w) (fact05_true w)
theorem run05 (w : World) : HeadRun.RunEqI Row05 view05 hk05 ob05 30000 nm05 w :=
  PySem.W.byRow2 "special-get-raises" (P := fun w => HeadRun.RunEqI Row05 view05 hk05 ob05 30000 nm05 w) run05_false run05_true w
end KW
namespace KB
open PySem PySem.Spec PyProof.Rows L2
/-! ## rules of one's own, wide ones: each serves all kinds of operands that the program has -/
section
variable {X : Cx}
/-- == of data nested up to 190 deep -/
def rEqX (K : PySem.W.Frag) : R2 := fun x y H Q => ∃ d e, Dp K H x d ∧ Dp K H y e ∧ d.canLay0 = true ∧ e.canLay0 = true ∧ min d.depth e.depth ≤ 190 ∧ Q (.bl (PyData.eqv d e)) H
def rNeX (K : PySem.W.Frag) : R2 := fun x y H Q => ∃ d e, Dp K H x d ∧ Dp K H y e ∧ d.canLay0 = true ∧ e.canLay0 = true ∧ min d.depth e.depth ≤ 190 ∧ Q (.bl (!PyData.eqv d e)) H
theorem op_eqX (hu : X.A.units + 200 < cLine) : OpR X (compareOp .Eq) (rEqX X.K) := by
  intro pins s σ H x y v u Q I rx ry ⟨d, e, hd, he, cd, ce, hm, q⟩
  obtain ⟨as, r1⟩ := Dp.reads I d x v hd rx
  obtain ⟨bs, r2⟩ := Dp.reads I e y u he ry
  exact SeqAt.compareEq_reads r1 r2 cd ce (by omega) ⟨.bl _, H, I, rfl, q⟩
theorem op_neX (hu : X.A.units + 200 < cLine) : OpR X (compareOp .NotEq) (rNeX X.K) := by
  intro pins s σ H x y v u Q I rx ry ⟨d, e, hd, he, cd, ce, hm, q⟩
  obtain ⟨as, r1⟩ := Dp.reads I d x v hd rx
  obtain ⟨bs, r2⟩ := Dp.reads I e y u he ry
  exact SeqAt.compareNe_reads r1 r2 cd ce (by omega) ⟨.bl _, H, I, rfl, q⟩
def rEqA (K : PySem.W.Frag) : R2 := fun x y H Q => rEq x y H Q ∨ rEqX K x y H Q
def rNeA (K : PySem.W.Frag) : R2 := fun x y H Q => rNe x y H Q ∨ rNeX K x y H Q
theorem op_eqA (hu : X.A.units + 200 < cLine) : OpR X (compareOp .Eq) (rEqA X.K) := op_eq.or (op_eqX hu)
theorem op_neA (hu : X.A.units + 200 < cLine) : OpR X (compareOp .NotEq) (rNeA X.K) := op_ne.or (op_neX hu)
theorem room200 {k : Nat} {A : Around} (r : Room k A) : A.units + 200 < cLine := by have := r.un; omega
def rAddA (K : PySem.W.Frag) : R2 := fun x y H Q =>
  (rI0 fun i j => .int (i + j)) x y H Q ∨ (∃ i j, x = .str i ∧ y = .str j ∧ i.length + j.length ≤ sizeLine ∧ Q (.str (i ++ j)) H) ∨ rCat x y H Q ∨ rCatT K x y H Q
theorem op_addA : OpR X (binaryOp .Add) (rAddA X.K) := op_add.or (op_add_str.or (op_cat.or op_catT))
def rMulA : R2 := fun x y H Q => (rI CMul fun i j => .int (i * j)) x y H Q ∨ rRep x y H Q
theorem op_mulA : OpR X (binaryOp .Mult) rMulA := op_mul.or op_rep
def rSlA (K : PySem.W.Frag) : V → Option Int → Option Int → Hp → VK → Prop := fun x lo hi H Q => rSlL K x lo hi H Q ∨ rSlT K x lo hi H Q ∨ rSlS x lo hi H Q
theorem sl_A : SlR X (rSlA X.K) := sl_list.or (sl_tup.or sl_str)
end
/-! ## xs.extend(t), t a tuple -/
theorem extend_door2 {a b : Array Value} (h : a.size + b.size ≤ sizeLine) : ¬(!a.isEmpty && Builtin.List.listTooLong (a.size + b.size)) = true := by
  rw [notLongL h, Bool.and_false]; exact Bool.false_ne_true
theorem meets_extend_tup {l b : Addr} {as bs : Array Value} {n n2 : Nat} {dd : Option Addr} {sl : Array (Option Value)} (hz : as.size + bs.size ≤ sizeLine) :
    Meets (Builtin.«list.extend» ⟨[.ref l, .ref b], []⟩) (fun _ R s => s.heap.get? l = some { cls := .type "list", data := .seq as n } ∧
      s.heap.get? b = some ⟨.type "tuple", dd, .seq bs n2, sl⟩ ∧ R (.ok (.ret .none)) { s with heap := s.heap.update l (Obj.mapSeq (· ++ bs)) }) := by
  refine .of_wp fun prog w A R s h => ?_
  obtain ⟨hp, g, d, tk, os⟩ := s
  obtain ⟨hl, hb, h⟩ := h
  have f2 := PySem.AutoSeq1.sub_tuple_tuple
  have f4 := PySem.AutoSeq1.sub_tuple_list
  have door := extend_door2 hz
  have z1 : as.size ≤ sizeLine := by omega
  have z2 : (as ++ bs).size ≤ sizeLine + 1 := by rw [Array.size_append]; omega
  wp_walk using (wpAny_updateSeq hl rfl (hz := z1) (_hz' := z2)), PySem.AutoSeq1.wpAny_loadPart' hl, PySem.AutoSeq1.wpAny_loadPart' hb
  exact ⟨_, rfl, h⟩
def rExtendT (K : PySem.W.Frag) : V → List V → Hp → VK → Prop := fun x vs H Q =>
  ∃ l b xs zs, x = .ref l ∧ vs = [.ref b] ∧ H l = some (.lst xs) ∧ SqT K H b zs ∧ xs.length + zs.length ≤ sizeLine ∧ Q .non (upd H l (.lst (xs ++ zs)))
theorem mt_extendT {X : Cx} : MtM X "list.extend" (rExtendT X.K) := by
  intro pins s σ H x vs v us Q I rx rv ⟨l, b, xs, zs, ex, ev, hH, hB, hz, q⟩
  subst ex ev
  cases rx
  obtain ⟨u, rfl, ru⟩ := Vals.one rv
  cases ru
  obtain ⟨_, its, n, r, hl, e⟩ := I.lstM hH
  obtain ⟨its2, r2, ⟨⟨c2, dd, da, sl⟩, e2, ec, n2, ed⟩, hl2⟩ := I.tuple hB
  simp only at ec ed
  subst ec ed
  have hl3 := r2.length
  have hsz : its.toArray.size + its2.toArray.size ≤ sizeLine := by rw [List.size_toArray, List.size_toArray]; omega
  refine call_meets F.slot_list_extend ⟨_, e, rfl⟩ F.entry_list_extend (F.args_list_extend_2 _ _) (meets_extend_tup hsz) ⟨e, e2, ?_⟩
  refine ⟨.non, _, I.lset (its' := its ++ its2) hH e (by simp) (Vals.append r r2) ?_, rfl, q⟩
  rw [List.length_append]; exact hz
/-! ## a def as it stands; a def that keeps its promise, for its callers -/
/-- the def stands under its own name -/
def At (K : PySem.W.Frag) (mg : Str → Option Value) (x : Str) (st : Stmt) : Prop := ∃ f fd, Fun K x x st f fd ∧ mg x = some (.ref f)
section
variable (P : Program) (w : World) (K : PySem.W.Frag) (mg : Str → Option Value) (base : Heap)
def Cal (CX : CXT) (k : Nat) (x : Str) (ps : List Str) (sp : Sp) : Prop :=
  ∃ f fd, FnOk P w K mg base CX k f fd ps sp ∧ Binds K fd ps [] ∧ PySem.W.keepIn K (.ref f) = true ∧ mg x = some (.ref f)
end
section
variable {X : Cx} {CX : CXT} {k : Nat} {x : Str} {ps : List Str} {sp : Sp} {E : XK} {p pos : Pos} {e : Expr} {es : List Expr} {t : TA}
theorem pe_calC (C : Cal X.prog X.w X.K X.mg X.base CX k x ps sp) (hr : Room k X.A) (hx : Passes CX X E) (ha : PA X (e :: es) t) (hg : Gl X x := by rfl) (hdb : (x == ("__debug__" : Str)) = false := by decide)
    (he : starEach (e :: es) X.env = (false, eval e X.env) :: starEach es X.env := by rfl) (hpl : (backTo pos (starEach es X.env)).any (·.1) = false := by rfl) :
    PE X (.Call (.Name x p) (e :: es) [] pos) (tCall sp [] E t) := by
  obtain ⟨f, fd, F, b, kp, m⟩ := C
  exact pe_call F hr hg m kp b .nil hx ha hdb he hpl
end
theorem Cal.mono {P : Program} {w : World} {K : PySem.W.Frag} {mg : Str → Option Value} {base : Heap} {CX : CXT} {j k : Nat} {x : Str} {ps : List Str} {sp : Sp} (C : Cal P w K mg base CX j x ps sp) (h : j ≤ k) : Cal P w K mg base CX k x ps sp :=
  let ⟨f, fd, F, r⟩ := C; ⟨f, fd, F.mono h, r⟩
/-! ## facts of heaps -/
theorem same_new {H : Hp} {p : Addr} (h : H p = none) (o : HO) : Same H (upd H p o) := fun b u q => by rw [upd_ne (ne_of_none q h)]; exact q
theorem Same.tup {K : PySem.W.Frag} {H H' : Hp} {a : Addr} {xs : List V} (e : Same H H') (h : SqT K H a xs) : SqT K H' a xs := by
  rcases h with (h | ⟨o, h⟩) | h
  · exact .inl (.inl (e _ _ h))
  · exact .inl (.inr ⟨o, e _ _ h⟩)
  · exact .inr h
/-- all but the object at w stands -/
def But (w : Addr) (H H' : Hp) : Prop := ∀ b o, b ≠ w → H b = some o → H' b = some o
theorem But.refl (w : Addr) (H : Hp) : But w H H := fun _ _ _ h => h
theorem But.trans {w : Addr} {H H1 H2 : Hp} (a : But w H H1) (b : But w H1 H2) : But w H H2 := fun c o n h => b c o n (a c o n h)
theorem But.of_same {w : Addr} {H H' : Hp} (h : Same H H') : But w H H' := fun b o _ e => h b o e
theorem But.new {w : Addr} {H : Hp} {p : Addr} (h : H p = none) (o : HO) : But w H (upd H p o) := .of_same (same_new h o)
theorem But.set {w : Addr} {H : Hp} (o : HO) : But w H (upd H w o) := fun b u n q => by rw [upd_ne n]; exact q
end KB
namespace KB
open PySem PySem.Spec PyProof.Rows L2
/-! ## a dict of the module with text keys, asked by any text -/
inductive Ents : List (Str × V) → List DictEntry → Prop where
  | nil : Ents [] []
  | cons {k : Str} {v : V} {u : Value} {t : Tok} {hs : Int} {r : List (Str × V)} {es : List DictEntry} (rv : RelV v u) (tl : Ents r es) : Ents ((k, v) :: r) (⟨hs, .str k t, u⟩ :: es)
def DictS (K : PySem.W.Frag) (w : World) (d : Addr) (kvs : List (Str × V)) : Prop :=
  ∃ es n, K.lookup d = some ⟨.type "dict", none, .dict es n, #[]⟩ ∧ PySem.W.KeysLit w.params es.toList ∧ (d == sysModules) = false ∧ Ents kvs es.toList
theorem Ents.find {z : Str} : ∀ {kvs : List (Str × V)} {es : List DictEntry}, Ents kvs es →
    (es.find? (·.key.isStr z) = none ∧ kvs.lookup z = none ∧ es.any (·.refKey) = false) ∨ ∃ e v, es.find? (·.key.isStr z) = some e ∧ kvs.lookup z = some v ∧ RelV v e.val
  | _, _, .nil => .inl ⟨rfl, rfl, rfl⟩
  | _, _, .cons (k := k) (v := v) (u := u) rv tl => by
    by_cases h : k = z
    · subst h
      refine .inr ⟨_, v, List.find?_cons_of_pos (by simp [Value.isStr]), ?_, rv⟩
      simp [List.lookup]
    · have h1 : ((z == k) : Bool) = false := beq_eq_false_iff_ne.mpr fun q => h q.symm
      have h2 : (Value.isStr (.str k (by assumption)) z) = false := by
        show (k == z) = false
        exact beq_eq_false_iff_ne.mpr h
      rcases tl.find (z := z) with ⟨a, b, c⟩ | ⟨e, v', a, b, c⟩
      · refine .inl ⟨?_, ?_, ?_⟩
        · rw [List.find?_cons_of_neg (by show ¬ (Value.isStr (.str k _) z) = true; rw [show Value.isStr (.str k _) z = (k == z) from rfl, beq_eq_false_iff_ne.mpr h]; exact Bool.false_ne_true)]
          exact a
        · simp [List.lookup, h1, b]
        · rw [List.any_cons, c]; rfl
      · refine .inr ⟨e, v', ?_, ?_, c⟩
        · rw [List.find?_cons_of_neg (by show ¬ (Value.isStr (.str k _) z) = true; rw [show Value.isStr (.str k _) z = (k == z) from rfl, beq_eq_false_iff_ne.mpr h]; exact Bool.false_ne_true)]
          exact a
        · simp [List.lookup, h1, b]
theorem DictS.ns {K : PySem.W.Frag} {w : World} {d : Addr} {kvs : List (Str × V)} (D : DictS K w d kvs) (z : Str) :
    (PySem.W.nsIn K d z = some none ∧ kvs.lookup z = none) ∨ ∃ u v, PySem.W.nsIn K d z = some (some u) ∧ kvs.lookup z = some v ∧ RelV v u := by
  obtain ⟨es, n, hl, _, _, he⟩ := D
  rcases he.find (z := z) with ⟨a, b, c⟩ | ⟨e, v, a, b, c⟩
  · refine .inl ⟨?_, b⟩
    unfold PySem.W.nsIn; rw [hl]; simp only [a, c]; rfl
  · refine .inr ⟨e.val, v, ?_, b, c⟩
    unfold PySem.W.nsIn; rw [hl]; simp only [a]
section
variable {X : Cx} {kvs : List (Str × V)}
def rInDS (K : PySem.W.Frag) (w : World) (neg : Bool) : R2 := fun x y H Q => ∃ (z : Str) (d : Addr) (kvs : List (Str × V)), x = .str z ∧ y = .ref d ∧ DictS K w d kvs ∧ Q (.bl (if neg then !(kvs.lookup z).isSome else (kvs.lookup z).isSome)) H
theorem op_in_DS : OpR X (compareOp .In) (rInDS X.K X.w false) := by
  intro pins s σ H x y v u Q I rx ry ⟨z, d, kvs, ex, ey, D, q⟩
  obtain ⟨es, n, a, b, c, _⟩ := id D
  have kd : KDict X.K X.w d es n := ⟨a, b, c⟩
  rcases D.ns z with ⟨e, l⟩ | ⟨u0, v0, e, l, _⟩
  · exact op_in_kd kd pins s σ H x y v u Q I rx ry ⟨z, _, ex, ey, e, by rw [l] at q; exact q⟩
  · exact op_in_kd kd pins s σ H x y v u Q I rx ry ⟨z, _, ex, ey, e, by rw [l] at q; exact q⟩
theorem op_notIn_DS : OpR X (compareOp .NotIn) (rInDS X.K X.w true) := by
  intro pins s σ H x y v u Q I rx ry ⟨z, d, kvs, ex, ey, D, q⟩
  obtain ⟨es, n, a, b, c, _⟩ := id D
  have kd : KDict X.K X.w d es n := ⟨a, b, c⟩
  rcases D.ns z with ⟨e, l⟩ | ⟨u0, v0, e, l, _⟩
  · exact op_notIn_kd kd pins s σ H x y v u Q I rx ry ⟨z, _, ex, ey, e, by rw [l] at q; exact q⟩
  · exact op_notIn_kd kd pins s σ H x y v u Q I rx ry ⟨z, _, ex, ey, e, by rw [l] at q; exact q⟩
def rIxDS (K : PySem.W.Frag) (w : World) : R2 := fun x y H Q => ∃ (z : Str) (d : Addr) (kvs : List (Str × V)) (v : V), x = .ref d ∧ y = .str z ∧ DictS K w d kvs ∧ kvs.lookup z = some v ∧ Q v H
theorem ix_DS : IxR X (rIxDS X.K X.w) := by
  intro value slice pins s σ H x y v u Q I rx ry ⟨z, d, kvs, v1, ex, ey, D, hl, q⟩ hs
  obtain ⟨es, n, a, b, c, _⟩ := id D
  rcases D.ns z with ⟨e, l⟩ | ⟨u0, v0, e, l, r⟩
  · rw [l] at hl; cases hl
  · rw [l] at hl; cases hl
    exact ix_kdict value slice pins s σ H x y v u Q I rx ry ⟨d, z, _, ex, ey, ⟨es, n, u0, a, b, e, r⟩, q⟩ hs
def rIxB (K : PySem.W.Frag) (w : World) : R2 := fun x y H Q => rIx K x y H Q ∨ rIxDS K w x y H Q
theorem ix_B : IxR X (rIxB X.K X.w) := ix_seq.or ix_DS
end
/-! ## the heap without one object -/
def out (w : Addr) (H : Hp) : Hp := fun b => if b = w then none else H b
theorem out_ne {w b : Addr} {H : Hp} (h : b ≠ w) : out w H b = H b := if_neg h
theorem out_self {w : Addr} {H : Hp} : out w H w = none := if_pos rfl
theorem out_some {w b : Addr} {H : Hp} {o : HO} (h : out w H b = some o) : b ≠ w ∧ H b = some o := by
  by_cases e : b = w
  · rw [e, out_self] at h; cases h
  · rw [out_ne e] at h; exact ⟨e, h⟩
theorem out_sub (w : Addr) (H : Hp) : Same (out w H) H := fun _ _ h => (out_some h).2
theorem out_new {w p : Addr} {H : Hp} (h : H p = none) (o : HO) : Same (out w H) (out w (upd H p o)) := fun b u q => by
  obtain ⟨n, e⟩ := out_some q
  rw [out_ne n, upd_ne (ne_of_none e h)]; exact e
theorem out_set {w : Addr} {H : Hp} (o : HO) : Same (out w H) (out w (upd H w o)) := fun b u q => by
  obtain ⟨n, e⟩ := out_some q
  rw [out_ne n, upd_ne n]; exact e
theorem out_at {w p : Addr} {H : Hp} {o : HO} (n : p ≠ w) (h : H p = some o) : out w H p = some o := by rw [out_ne n]; exact h
theorem out_same {w : Addr} {H H' : Hp} (h : Same H H') : Same (out w H) (out w H') := fun b o q => by
  obtain ⟨n, e⟩ := out_some q
  rw [out_ne n]; exact h b o e
/-! ## data that stand -/
mutual
theorem Dp.same {K : PySem.W.Frag} {H H' : Hp} (s : Same H H') : ∀ {d : PyData} {v : V}, Dp K H v d → Dp K H' v d
  | _, _, .non => .non
  | _, _, .bl b => .bl b
  | _, _, .int i => .int i
  | _, _, .str x => .str x
  | _, _, .lst h a => .lst (L2.Same.seq s h) (DpAll.same s a)
  | _, _, .tup h a => .tup (Same.tup s h) (DpAll.same s a)
theorem DpAll.same {K : PySem.W.Frag} {H H' : Hp} (s : Same H H') : ∀ {ds : List PyData} {vs : List V}, DpAll K H vs ds → DpAll K H' vs ds
  | _, _, .nil => .nil
  | _, _, .cons h a => .cons (Dp.same s h) (DpAll.same s a)
end
end KB
namespace KB
open PySem PySem.Spec PyProof.Rows L2
/-! ## own classes of errors -/
structure ExcF (K : PySem.W.Frag) (mg : Str → Option Value) (x : Str) (C : Addr) : Prop where
  g : mg x = some (.ref C)
  q : PySem.W.excIn K C [.type "ValueError", .type "Exception", .type "BaseException", .type "object"] "ValueError.__new__" = true
  k : PySem.W.keepIn K (.ref C) = true
  b : PySem.W.subIn K (.ref C) (.type "BaseException") = some true
  t : PySem.W.typeIn K (.ref C) = some (.type "type")
  i : PySem.W.isClsIn K C = true
  s : PySem.W.subIn K (.ref C) (.ref C) = some true
theorem ps_raiseO {X : Cx} {W : WX} {x m : Str} {C : Addr} {j : Nat} {p p2 pos pos2 : Pos} (hc : X.calm = true) (tk : Takes X W) (F : ExcF X.K X.mg x C) (hg : Gl X x := by rfl) (hdb : (x == ("__debug__" : Str)) = false := by decide) :
    PS X (.Raise (some (.Call (.Name x p) [.Constant (.str m) j p2] [] pos)) none pos2) (fun _ σ H => W (.ref C) none σ H) :=
  ps_raise hc tk (pmk_own PySem.F.excBase_ValueError F.q F.g F.k (raises_own F.b F.t) hg hdb)
/-- a constant of the module: a text; a dict -/
theorem pe_globS {X : Cx} {x z : Str} {pos : Pos} (hg : Gl X x) (hm : ∃ t, X.mg x = some (.str z t)) (hd : (x == ("__debug__" : Str)) = false := by decide) : PE X (.Name x pos) (tC (.str z)) := by
  obtain ⟨t, h⟩ := hm
  exact pe_glob hg h ⟨_, rfl⟩ hd
def tDS (K : PySem.W.Frag) (w : World) (kvs : List (Str × V)) : TE := fun _ H Q => ∀ d, DictS K w d kvs → Q (.ref d) H
theorem pe_globD {X : Cx} {x : Str} {kvs : List (Str × V)} {pos : Pos} (hg : Gl X x) (hm : ∃ d, X.mg x = some (.ref d) ∧ DictS X.K X.w d kvs) (hd : (x == ("__debug__" : Str)) = false := by decide) : PE X (.Name x pos) (tDS X.K X.w kvs) := by
  obtain ⟨d, h, D⟩ := hm
  exact ⟨fun pins s σ H Q I q => (pe_glob (v := .ref d) hg h (by exact rfl) hd).run pins s σ H Q I (q d D)⟩
/-! ## kinds -/
inductive Kd where
  | b (n : Nat) | u | p (x y : Kd) | f (x y : Kd)
  deriving DecidableEq, Repr
namespace Kd
def dat : Kd → PyData
  | b n => .tuple [.str "base", .int n]
  | u => .tuple [.str "unit"]
  | p x y => .tuple [.str "both", x.dat, y.dat]
  | f x y => .tuple [.str "from", x.dat, y.dat]
def ok : Kd → Prop
  | b n => n < 8
  | u => True
  | p x y => x.ok ∧ y.ok
  | f x y => x.ok ∧ y.ok
def leaves : Kd → Nat
  | b _ => 1 | u => 1
  | p x y => x.leaves + y.leaves
  | f x y => x.leaves + y.leaves
def deep : Kd → Nat
  | b _ => 1 | u => 1
  | p x y => 1 + max x.deep y.deep
  | f x y => 1 + max x.deep y.deep
theorem leaves_pos : ∀ k : Kd, 1 ≤ k.leaves
  | b _ => Nat.le_refl _
  | u => Nat.le_refl _
  | p x y => by have := leaves_pos x; simp only [leaves]; omega
  | f x y => by have := leaves_pos x; simp only [leaves]; omega
theorem deep_le : ∀ k : Kd, k.deep ≤ k.leaves
  | b _ => Nat.le_refl _
  | u => Nat.le_refl _
  | p x y => by have := deep_le x; have := deep_le y; have := leaves_pos x; have := leaves_pos y; simp only [leaves, deep]; omega
  | f x y => by have := deep_le x; have := deep_le y; have := leaves_pos x; have := leaves_pos y; simp only [leaves, deep]; omega
theorem dat_depth : ∀ k : Kd, k.dat.depth = k.deep
  | b _ => by simp [dat, deep, PyData.depth, PyData.depthAll]
  | u => by simp [dat, deep, PyData.depth, PyData.depthAll]
  | p x y => by have := dat_depth x; have := dat_depth y; simp only [dat, deep, PyData.depth, PyData.depthAll]; omega
  | f x y => by have := dat_depth x; have := dat_depth y; simp only [dat, deep, PyData.depth, PyData.depthAll]; omega
theorem dat_lay : ∀ k : Kd, k.dat.canLay0 = true
  | b _ => by simp [dat, PyData.canLay0, PyData.canLayAll0]; decide +kernel
  | u => by simp [dat, PyData.canLay0, PyData.canLayAll0]; decide +kernel
  | p x y => by simp [dat, PyData.canLay0, PyData.canLayAll0, dat_lay x, dat_lay y]; decide +kernel
  | f x y => by simp [dat, PyData.canLay0, PyData.canLayAll0, dat_lay x, dat_lay y]; decide +kernel
end Kd
/-! ## any thing: data, empty dicts among them -/
mutual
inductive Dq (K : PySem.W.Frag) (H : Hp) : V → PyData → Prop
  | non : Dq K H .non .none
  | bl (b : Bool) : Dq K H (.bl b) (.bool b)
  | int (i : Int) : Dq K H (.int i) (.int i)
  | str (x : Str) : Dq K H (.str x) (.str x)
  | lst {a : Addr} {xs : List V} {ds : List PyData} : SqL K H a xs → DqAll K H xs ds → Dq K H (.ref a) (.list ds)
  | tup {a : Addr} {xs : List V} {ds : List PyData} : SqT K H a xs → DqAll K H xs ds → Dq K H (.ref a) (.tuple ds)
  | dct {a : Addr} : H a = some (.dK []) → Dq K H (.ref a) (.dict [])
inductive DqAll (K : PySem.W.Frag) (H : Hp) : List V → List PyData → Prop
  | nil : DqAll K H [] []
  | cons {v : V} {vs : List V} {d : PyData} {ds : List PyData} : Dq K H v d → DqAll K H vs ds → DqAll K H (v :: vs) (d :: ds)
end
mutual
theorem Dq.same {K : PySem.W.Frag} {H H' : Hp} (s : Same H H') : ∀ {d : PyData} {v : V}, Dq K H v d → Dq K H' v d
  | _, _, .non => .non
  | _, _, .bl b => .bl b
  | _, _, .int i => .int i
  | _, _, .str x => .str x
  | _, _, .lst h a => .lst (L2.Same.seq s h) (DqAll.same s a)
  | _, _, .tup h a => .tup (Same.tup s h) (DqAll.same s a)
  | _, _, .dct h => .dct (s _ _ h)
theorem DqAll.same {K : PySem.W.Frag} {H H' : Hp} (s : Same H H') : ∀ {ds : List PyData} {vs : List V}, DqAll K H vs ds → DqAll K H' vs ds
  | _, _, .nil => .nil
  | _, _, .cons h a => .cons (Dq.same s h) (DqAll.same s a)
end
mutual
theorem Dq.dp {K : PySem.W.Frag} {H : Hp} : ∀ {d : PyData} {v : V}, d.canLay0 = true → Dq K H v d → Dp K H v d
  | _, _, _, .non => .non
  | _, _, _, .bl b => .bl b
  | _, _, _, .int i => .int i
  | _, _, _, .str x => .str x
  | _, _, c, .lst h a => .lst h (DqAll.dp (by simpa [PyData.canLay0] using c) a)
  | _, _, c, .tup h a => .tup h (DqAll.dp (by simpa [PyData.canLay0] using c) a)
  | _, _, c, .dct _ => by simp [PyData.canLay0] at c
theorem DqAll.dp {K : PySem.W.Frag} {H : Hp} : ∀ {ds : List PyData} {vs : List V}, PyData.canLayAll0 ds = true → DqAll K H vs ds → DpAll K H vs ds
  | _, _, _, .nil => .nil
  | d :: ds, _, c, .cons h a => by
    have c' : d.canLay0 = true ∧ PyData.canLayAll0 ds = true := by simpa [PyData.canLayAll0] using c
    exact .cons (Dq.dp c'.1 h) (DqAll.dp c'.2 a)
end
mutual
theorem Dq.of {K : PySem.W.Frag} {H : Hp} : ∀ {d : PyData} {v : V}, Dp K H v d → Dq K H v d
  | _, _, .non => .non
  | _, _, .bl b => .bl b
  | _, _, .int i => .int i
  | _, _, .str x => .str x
  | _, _, .lst h a => .lst h (DqAll.of a)
  | _, _, .tup h a => .tup h (DqAll.of a)
theorem DqAll.of {K : PySem.W.Frag} {H : Hp} : ∀ {ds : List PyData} {vs : List V}, DpAll K H vs ds → DqAll K H vs ds
  | _, _, .nil => .nil
  | _, _, .cons h a => .cons (Dq.of h) (DqAll.of a)
end
theorem DqAll.length {K : PySem.W.Frag} {H : Hp} : ∀ {ds : List PyData} {vs : List V}, DqAll K H vs ds → vs.length = ds.length
  | _, _, .nil => rfl
  | _, _, .cons _ a => congrArg (· + 1) (DqAll.length a)
theorem DqAll.append {K : PySem.W.Frag} {H : Hp} : ∀ {ds es : List PyData} {vs us : List V}, DqAll K H vs ds → DqAll K H us es → DqAll K H (vs ++ us) (ds ++ es)
  | _, _, _, _, .nil, b => b
  | _, _, _, _, .cons h a, b => .cons h (DqAll.append a b)
/-- the last one -/
theorem DqAll.last {K : PySem.W.Frag} {H : Hp} : ∀ {ds : List PyData} {d : PyData} {vs : List V}, DqAll K H vs (ds ++ [d]) → ∃ us v, vs = us ++ [v] ∧ DqAll K H us ds ∧ Dq K H v d
  | [], _, _, .cons h .nil => ⟨[], _, rfl, .nil, h⟩
  | _ :: ds, d, _, .cons h a => by
    obtain ⟨us, v, rfl, b, c⟩ := DqAll.last (ds := ds) a
    exact ⟨_ :: us, v, rfl, .cons h b, c⟩
def tyN : PyData → String
  | .none => "NoneType" | .bool _ => "bool" | .int _ => "int" | .str _ => "str" | .list _ => "list" | .tuple _ => "tuple" | .dict _ => "dict"
theorem Dq.ty {K : PySem.W.Frag} {H : Hp} {v : V} {d : PyData} (h : Dq K H v d) : TyB K H v (tyN d) := by
  cases h with
  | non => exact .non
  | bl b => exact .bl b
  | int i => exact .int i
  | str x => exact .str x
  | lst s _ => exact .lst s
  | tup s _ => exact .tup s
  | dct e => exact .dK e
/-! ## sizes -/
mutual
def sz : PyData → Nat
  | .list xs => 1 + szs xs
  | .tuple xs => 1 + szs xs
  | .none => 1 | .bool _ => 1 | .int _ => 1 | .str _ => 1 | .dict _ => 1
def szs : List PyData → Nat
  | [] => 0
  | x :: xs => sz x + szs xs
end
theorem szs_append : ∀ xs ys : List PyData, szs (xs ++ ys) = szs xs + szs ys
  | [], ys => by simp [szs]
  | x :: xs, ys => by simp only [List.cons_append, szs, szs_append xs ys]; omega
theorem sz_pos : ∀ d : PyData, 1 ≤ sz d
  | .list xs => by simp only [sz]; omega
  | .tuple xs => by simp only [sz]; omega
  | .none => by simp [sz]
  | .bool _ => by simp [sz]
  | .int _ => by simp [sz]
  | .str _ => by simp [sz]
  | .dict _ => by simp [sz]
theorem len_szs : ∀ ds : List PyData, ds.length ≤ szs ds
  | [] => Nat.zero_le _
  | d :: ds => by have := sz_pos d; have := len_szs ds; simp only [szs, List.length_cons]; omega
theorem Kd.sz_dat : ∀ k : Kd, sz k.dat ≤ 6 * k.leaves - 3
  | .b _ => by simp [Kd.dat, sz, szs, Kd.leaves]
  | .u => by simp [Kd.dat, sz, szs, Kd.leaves]
  | .p x y => by have := sz_dat x; have := sz_dat y; have := Kd.leaves_pos x; have := Kd.leaves_pos y; simp only [Kd.dat, sz, szs, Kd.leaves]; omega
  | .f x y => by have := sz_dat x; have := sz_dat y; have := Kd.leaves_pos x; have := Kd.leaves_pos y; simp only [Kd.dat, sz, szs, Kd.leaves]; omega
theorem fits {n : Nat} (h : n ≤ 10000000) : n ≤ sizeLine := Nat.le_trans h (by decide)
theorem fits_lt {n : Nat} (h : n ≤ 10000000) : n < sizeLine := Nat.lt_of_le_of_lt h (by decide)
theorem dl_append {α : Type} (xs : List α) (x : α) : (xs ++ [x]).dropLast = xs := by simp
theorem last_at {α : Type} (xs : List α) (x : α) : (xs ++ [x])[(xs ++ [x]).length - 1]? = some x := by simp
theorem cut1 (xs : List V) (x : V) : cutV (x :: xs) (some 1) none = xs := by
  have e : HT.sIx (x :: xs).length 0 (some 1) = 1 := by
    have := HT.sIx_nat (x :: xs).length 0 1
    rw [List.length_cons] at this ⊢
    exact this.trans (by omega)
  unfold cutV
  rw [e]
  show (List.drop 1 (x :: xs)).take ((x :: xs).length - 1) = xs
  simp
theorem cut1_not (xs : List V) (x : V) : ¬ (HT.sIx (x :: xs).length 0 (some 1) = 0 ∧ HT.sIx (x :: xs).length (x :: xs).length none = (x :: xs).length) := by
  have e : HT.sIx (x :: xs).length 0 (some 1) = 1 := by
    have := HT.sIx_nat (x :: xs).length 0 1
    rw [List.length_cons] at this ⊢
    exact this.trans (by omega)
  rw [e]; intro h; exact absurd h.1 (by decide)
/-! ## what a kind is -/
def isBn : PyData → Bool
  | .int n => decide (0 ≤ n) && decide (n < 8)
  | _ => false
/-- a kind, if what it is made of are such -/
def shp : PyData → Bool
  | .tuple (.str w :: r) =>
    if w = "base" then (match r with | [x] => isBn x | _ => false)
    else if w = "unit" then r.isEmpty
    else (decide (w = "both") || decide (w = "from")) && r.length == 2
  | _ => false
def isKd : PyData → Bool
  | .tuple [.str w] => decide (w = "unit")
  | .tuple [.str w, x] => decide (w = "base") && isBn x
  | .tuple [.str w, x, y] => (decide (w = "both") || decide (w = "from")) && (isKd x && isKd y)
  | _ => false
theorem isKd_dat : ∀ k : Kd, k.ok → isKd k.dat = true
  | .b n, h => by
    have h' : n < 8 := h
    simp only [Kd.dat, isKd, isBn]
    rw [decide_eq_true (by omega : (0 : Int) ≤ (n : Int)), decide_eq_true (by omega : (n : Int) < 8)]; decide
  | .u, _ => by decide
  | .p x y, h => by simp only [Kd.dat, isKd, isKd_dat x h.1, isKd_dat y h.2]; decide
  | .f x y, h => by simp only [Kd.dat, isKd, isKd_dat x h.1, isKd_dat y h.2]; decide
theorem kd_of : ∀ d : PyData, isKd d = true → ∃ k : Kd, k.ok ∧ d = k.dat
  | .tuple [.str w], h => by
    simp only [isKd, decide_eq_true_eq] at h
    exact ⟨.u, trivial, by rw [h]; rfl⟩
  | .tuple [.str w, x], h => by
    simp only [isKd, Bool.and_eq_true, decide_eq_true_eq] at h
    obtain ⟨h1, h2⟩ := h
    cases x <;> simp only [isBn, Bool.and_eq_true, decide_eq_true_eq] at h2 <;> try cases h2
    rename_i n a b
    refine ⟨.b n.toNat, by show n.toNat < 8; omega, ?_⟩
    have e : ((n.toNat : Nat) : Int) = n := by omega
    simp only [Kd.dat, e, h1]
  | .tuple [.str w, x, y], h => by
    simp only [isKd, Bool.and_eq_true, Bool.or_eq_true, decide_eq_true_eq] at h
    obtain ⟨h1, h2, h3⟩ := h
    obtain ⟨kx, ox, ex⟩ := kd_of x h2
    obtain ⟨ky, oy, ey⟩ := kd_of y h3
    rcases h1 with h1 | h1
    · exact ⟨.p kx ky, ⟨ox, oy⟩, by rw [h1, ex, ey]; rfl⟩
    · exact ⟨.f kx ky, ⟨ox, oy⟩, by rw [h1, ex, ey]; rfl⟩
  | .none, h => by simp [isKd] at h
  | .bool _, h => by simp [isKd] at h
  | .int _, h => by simp [isKd] at h
  | .str _, h => by simp [isKd] at h
  | .list _, h => by simp [isKd] at h
  | .dict _, h => by simp [isKd] at h
  | .tuple [], h => by simp [isKd] at h
  | .tuple (.none :: _), h => by simp [isKd] at h
  | .tuple (.bool _ :: _), h => by simp [isKd] at h
  | .tuple (.int _ :: _), h => by simp [isKd] at h
  | .tuple (.list _ :: _), h => by simp [isKd] at h
  | .tuple (.tuple _ :: _), h => by simp [isKd] at h
  | .tuple (.dict _ :: _), h => by simp [isKd] at h
  | .tuple (.str _ :: _ :: _ :: _ :: _), h => by simp [isKd] at h
def kids : PyData → List PyData
  | .tuple (.str w :: r) => if w = "both" ∨ w = "from" then r else []
  | _ => []
theorem kids_sz : ∀ d : PyData, szs (kids d) < sz d
  | .none => by simp [kids, sz, szs]
  | .bool _ => by simp [kids, sz, szs]
  | .int _ => by simp [kids, sz, szs]
  | .str _ => by simp [kids, sz, szs]
  | .list _ => by simp only [kids, sz, szs]; omega
  | .dict _ => by simp [kids, sz, szs]
  | .tuple [] => by simp [kids, sz, szs]
  | .tuple (.none :: _) => by simp only [kids, sz, szs]; omega
  | .tuple (.bool _ :: _) => by simp only [kids, sz, szs]; omega
  | .tuple (.int _ :: _) => by simp only [kids, sz, szs]; omega
  | .tuple (.list _ :: _) => by simp only [kids, sz, szs]; omega
  | .tuple (.tuple _ :: _) => by simp only [kids, sz, szs]; omega
  | .tuple (.dict _ :: _) => by simp only [kids, sz, szs]; omega
  | .tuple (.str w :: r) => by
    simp only [kids]
    split
    · simp only [sz, szs]; omega
    · simp only [sz, szs]; omega
/-- a thing that has a kind's shape -/
theorem shp_is : ∀ d : PyData, shp d = true → ∃ w r, d = .tuple (.str w :: r)
  | .tuple (.str w :: r), _ => ⟨w, r, rfl⟩
  | .tuple [], h => by simp [shp] at h
  | .tuple (.none :: _), h => by simp [shp] at h
  | .tuple (.bool _ :: _), h => by simp [shp] at h
  | .tuple (.int _ :: _), h => by simp [shp] at h
  | .tuple (.list _ :: _), h => by simp [shp] at h
  | .tuple (.tuple _ :: _), h => by simp [shp] at h
  | .tuple (.dict _ :: _), h => by simp [shp] at h
  | .none, h => by simp [shp] at h
  | .bool _, h => by simp [shp] at h
  | .int _, h => by simp [shp] at h
  | .str _, h => by simp [shp] at h
  | .list _, h => by simp [shp] at h
  | .dict _, h => by simp [shp] at h
theorem unit_ne_base : ¬ (("unit" : Str) = "base") := by decide
/-- one turn of a walk that takes a thing apart -/
theorem isKd_turn : ∀ d : PyData, isKd d = (shp d && (kids d).all isKd)
  | .none => rfl
  | .bool _ => rfl
  | .int _ => rfl
  | .str _ => rfl
  | .list _ => rfl
  | .dict _ => rfl
  | .tuple [] => by simp [isKd, shp]
  | .tuple (.none :: _) => by simp [isKd, shp]
  | .tuple (.bool _ :: _) => by simp [isKd, shp]
  | .tuple (.int _ :: _) => by simp [isKd, shp]
  | .tuple (.list _ :: _) => by simp [isKd, shp]
  | .tuple (.tuple _ :: _) => by simp [isKd, shp]
  | .tuple (.dict _ :: _) => by simp [isKd, shp]
  | .tuple [.str w] => by
    by_cases h : w = "base"
    · subst h; decide
    · by_cases h2 : w = "unit"
      · subst h2; decide
      · simp [isKd, shp, h, h2]
  | .tuple [.str w, x] => by
    by_cases h : w = "base"
    · subst h
      have e : kids (.tuple [.str "base", x]) = [] := by simp only [kids]; exact if_neg (by decide)
      rw [e]; simp [isKd, shp]
    · by_cases h2 : w = "unit"
      · subst h2; simp [isKd, shp, unit_ne_base]
      · simp [isKd, shp, h, h2]
  | .tuple [.str w, x, y] => by
    by_cases h : w = "base"
    · subst h; simp [isKd, shp]; intro h3; rcases h3 with h3 | h3 <;> exact absurd h3 (by decide)
    · by_cases h2 : w = "unit"
      · subst h2; simp [isKd, shp, unit_ne_base]; intro h3; rcases h3 with h3 | h3 <;> exact absurd h3 (by decide)
      · by_cases h3 : w = "both" ∨ w = "from"
        · simp [isKd, shp, h, h2, kids, h3]
        · have h4 : ¬ w = "both" := fun e => h3 (.inl e)
          have h5 : ¬ w = "from" := fun e => h3 (.inr e)
          simp [isKd, shp, h, h2, h4, h5]
  | .tuple (.str w :: x :: y :: z :: r) => by
    by_cases h : w = "base"
    · subst h; simp [isKd, shp]
    · by_cases h2 : w = "unit"
      · subst h2; simp [isKd, shp, unit_ne_base]
      · simp [isKd, shp, h, h2]
end KB
namespace KB
theorem iteT' {c : Bool} {A B : Prop} (e : c = true) (h : A) : if c = true then A else B := by rw [if_pos e]; exact h
theorem iteF' {c : Bool} {A B : Prop} (e : c = false) (h : B) : if c = true then A else B := by rw [e]; exact L2.iteF h
end KB
namespace KB
open L2
theorem at0 {α : Type} (x : α) (xs : List α) : atI (x :: xs) 0 = some x := atI_nat (j := 0) rfl
theorem at1 {α : Type} (x y : α) (xs : List α) : atI (x :: y :: xs) 1 = some y := atI_nat (j := 1) rfl
theorem at2 {α : Type} (x y z : α) (xs : List α) : atI (x :: y :: z :: xs) 2 = some z := atI_nat (j := 2) rfl
theorem qbl {Q : VK} {H : Hp} {a b : Bool} (q : Q (.bl a) H) (e : a = b) : Q (.bl b) H := e ▸ q
end KB
namespace KB
open PySem L2
theorem same_keepO' {H : Hp} {l : Addr} (hl : H l = none) {o : HO} : Same H (out l (upd H l o)) := fun b u e => by
  have n := ne_of_none e hl
  rw [out_ne n, upd_ne n]; exact e
theorem same_keepO {H H' : Hp} {l : Addr} (s : Same H (out l H')) (o : HO) : Same H (out l (upd H' l o)) := fun b u e => by
  obtain ⟨n, h⟩ := out_some (s b u e)
  rw [out_ne n, upd_ne n]; exact h
theorem out_upd {H : Hp} {l : Addr} {o : HO} : Same (out l H) (upd H l o) := fun b u e => by
  obtain ⟨n, h⟩ := out_some e
  rw [upd_ne n]; exact h
theorem of_out {H H' : Hp} {l : Addr} (s : Same H (out l H')) : Same H H' := fun b u e => (out_some (s b u e)).2
end KB
namespace KB
open PySem PySem.Spec PyProof.Rows L2
/-! ## texts of kinds, as lists of codes -/
def tx (l : List Nat) : Str := ⟨l.toArray⟩
theorem tx_tl (x : Str) : tx x.cps.toList = x := by cases x; simp [tx]
theorem tl_tx (l : List Nat) : (tx l).cps.toList = l := by simp [tx]
theorem tx_length (a : List Nat) : (tx a).length = a.length := by show a.toArray.size = _; simp
theorem tx_inj {a b : List Nat} (h : tx a = tx b) : a = b := by rw [← tl_tx a, h, tl_tx]
namespace Kd
def cod : Kd → List Nat
  | b n => [97 + n]
  | u => [49]
  | p x y => 40 :: (x.cod ++ 42 :: (y.cod ++ [41]))
  | f x y => 40 :: (x.cod ++ 62 :: (y.cod ++ [41]))
def txt (k : Kd) : Str := tx k.cod
theorem cod_length : ∀ k : Kd, k.cod.length + 3 ≤ 4 * k.leaves
  | b _ => by simp [cod, leaves]
  | u => by simp [cod, leaves]
  | p x y => by have := cod_length x; have := cod_length y; simp only [cod, leaves, List.length_cons, List.length_append, List.length_nil]; omega
  | f x y => by have := cod_length x; have := cod_length y; simp only [cod, leaves, List.length_cons, List.length_append, List.length_nil]; omega
theorem leaves_sz : ∀ k : Kd, k.leaves + 1 ≤ sz k.dat
  | b _ => by simp [dat, sz, szs, leaves]
  | u => by simp [dat, sz, szs, leaves]
  | p x y => by have := leaves_sz x; have := leaves_sz y; simp only [dat, sz, szs, leaves]; omega
  | f x y => by have := leaves_sz x; have := leaves_sz y; simp only [dat, sz, szs, leaves]; omega
/-- what a walk over the kind has to do -/
def wk : Kd → Nat
  | b _ => 1 | u => 1
  | p x y => x.wk + y.wk + 4
  | f x y => x.wk + y.wk + 4
theorem wk_le : ∀ k : Kd, k.wk + 4 ≤ 5 * k.leaves
  | b _ => by simp [wk, leaves]
  | u => by simp [wk, leaves]
  | p x y => by have := wk_le x; have := wk_le y; simp only [wk, leaves]; omega
  | f x y => by have := wk_le x; have := wk_le y; simp only [wk, leaves]; omega
theorem dat_inj : ∀ x y : Kd, x.dat = y.dat → x = y
  | b n, b m, h => by simp only [dat, PyData.tuple.injEq, List.cons.injEq, PyData.int.injEq] at h; have : n = m := by omega
                      rw [this]
  | u, u, _ => rfl
  | p x y, p x' y', h => by
    simp only [dat, PyData.tuple.injEq, List.cons.injEq, and_true, true_and] at h
    rw [dat_inj x x' h.1, dat_inj y y' h.2]
  | f x y, f x' y', h => by
    simp only [dat, PyData.tuple.injEq, List.cons.injEq, and_true, true_and] at h
    rw [dat_inj x x' h.1, dat_inj y y' h.2]
  | b _, u, h => by simp [dat] at h
  | b _, p _ _, h => by simp [dat] at h
  | b _, f _ _, h => by simp [dat] at h
  | u, b _, h => by simp [dat] at h
  | u, p _ _, h => by simp [dat] at h
  | u, f _ _, h => by simp [dat] at h
  | p _ _, b _, h => by simp [dat] at h
  | p _ _, u, h => by simp [dat] at h
  | f _ _, b _, h => by simp [dat] at h
  | f _ _, u, h => by simp [dat] at h
  | p _ _, f _ _, h => by
    simp only [dat, PyData.tuple.injEq, List.cons.injEq, PyData.str.injEq] at h
    exact absurd h.1 (by decide)
  | f _ _, p _ _, h => by
    simp only [dat, PyData.tuple.injEq, List.cons.injEq, PyData.str.injEq] at h
    exact absurd h.1 (by decide)
end Kd
theorem joinL_nil : ∀ ls : List (List Nat), TL.joinL [] ls = ls.flatten
  | [] => rfl
  | [p] => by simp [TL.joinL]
  | p :: q :: r => by simp only [TL.joinL, joinL_nil (q :: r), List.flatten_cons, List.nil_append]
theorem join_nil (ls : List (List Nat)) : Txt.join "" (ls.map tx) = tx ls.flatten := by
  rw [TL.join_eq, ← tx_tl (Str.join "" (ls.map tx))]
  have h := TL.tl_join "" (ls.map tx)
  have e : TL.tl ("" : Str) = [] := rfl
  rw [e, joinL_nil, List.map_map] at h
  have e2 : (TL.tl ∘ tx) = id := funext fun l => tl_tx l
  rw [e2, List.map_id] at h
  exact congrArg tx h
theorem join_size (ls : List (List Nat)) : ((ls.map tx).map (·.length)).sum = ls.flatten.length := by
  rw [List.map_map, List.length_flatten]
  exact congrArg List.sum (List.map_congr_left fun l _ => tx_length l)
/-- what a walk that writes a kind has on its stack -/
inductive Itm where
  | s (z : List Nat) | k (k : Kd)
namespace Itm
def dat : Itm → PyData
  | .s z => .str (tx z)
  | .k x => x.dat
def cod : Itm → List Nat
  | .s z => z
  | .k x => x.cod
def wk : Itm → Nat
  | .s _ => 1
  | .k x => x.wk
def ok : Itm → Prop
  | .s _ => True
  | .k x => x.ok
theorem wk_pos : ∀ i : Itm, 1 ≤ i.wk
  | .s _ => Nat.le_refl _
  | .k (.b _) => Nat.le_refl _
  | .k .u => Nat.le_refl _
  | .k (.p x y) => by simp only [wk, Kd.wk]; omega
  | .k (.f x y) => by simp only [wk, Kd.wk]; omega
end Itm
def wks (is : List Itm) : Nat := (is.map Itm.wk).sum
/-- the text of a stack, its last one first -/
def cods (is : List Itm) : List Nat := (is.reverse.map Itm.cod).flatten
theorem wks_append (a b : List Itm) : wks (a ++ b) = wks a + wks b := by simp [wks]
theorem cods_snoc (a : List Itm) (x : Itm) : cods (a ++ [x]) = x.cod ++ cods a := by simp [cods]
theorem cods_append (a b : List Itm) : cods (a ++ b) = cods b ++ cods a := by simp [cods]
theorem len_wks : ∀ is : List Itm, is.length ≤ wks is
  | [] => Nat.zero_le _
  | i :: r => by have := i.wk_pos; have := len_wks r; simp only [wks, List.map_cons, List.sum_cons, List.length_cons] at *; omega
end KB
namespace KB
open PySem L2
theorem Kd.ty (k : Kd) : tyN k.dat = "tuple" := by cases k <;> rfl
theorem same2 {H H' : Hp} {l p a : Addr} (h : Same H (out l (out p H'))) (o : HO) (e : a = l ∨ a = p) : Same H (out l (out p (upd H' a o))) := fun b u q => by
  obtain ⟨n1, h1⟩ := out_some (h b u q)
  obtain ⟨n2, h2⟩ := out_some h1
  rw [out_ne n1, out_ne n2, upd_ne (by rcases e with e | e <;> rw [e] <;> assumption)]
  exact h2
theorem same2_new {H H' : Hp} {l p a : Addr} (h : Same H (out l (out p H'))) (o : HO) (e : H' a = none) : Same H (out l (out p (upd H' a o))) := fun b u q => by
  obtain ⟨n1, h1⟩ := out_some (h b u q)
  obtain ⟨n2, h2⟩ := out_some h1
  rw [out_ne n1, out_ne n2, upd_ne (ne_of_none h2 e)]
  exact h2
theorem of_out2 {H H' : Hp} {l p : Addr} (s : Same H (out l (out p H'))) : Same H H' := fun b u e => (out_some (out_some (s b u e)).2).2
theorem out2_sub {H : Hp} {l p : Addr} : Same (out l (out p H)) H := of_out2 (Same.refl _)
theorem strs_map (ls : List (List Nat)) (z : List Nat) : ((ls.map tx).map V.str) ++ [V.str (tx z)] = ((ls ++ [z]).map tx).map V.str := by simp
end KB
namespace KB
open PySem PySem.Spec PyProof.Rows L2
/-! ## xs[lo:hi] = ys, the bounds of any sign -/
section
variable {prog : Program} {w : World} {A : Around} {E : Value → Shared → Prop} {s : Shared}
theorem store_cut {l b sl : Addr} {as bs : List Value} {n n2 : Nat} {vl vu : Value} {lo hi : Option Int} {Q : Unit → Shared → Prop}
    (el : s.heap.get? l = some { cls := .type "list", data := .seq as.toArray n }) (eb : s.heap.get? b = some { cls := .type "list", data := .seq bs.toArray n2 }) (nlb : l ≠ b)
    (is : s.heap.IsSliceOf sl vl vu .none) (pl : IsPart vl lo) (pu : IsPart vu hi) (ord : HT.sIx as.length 0 lo ≤ HT.sIx as.length as.length hi) (room : as.length + bs.length ≤ sizeLine)
    (k : Q () { s with heap := s.heap.update l (Obj.mapSeq fun xs => xs.extract 0 (HT.sIx as.length 0 lo) ++ bs.toArray ++ xs.extract (HT.sIx as.length as.length hi) xs.size) }) :
    wpAny (model prog w) A (setItem (.ref l) (.ref sl) (.ref b)) Q E s := by
  have Ll := (PySem.IsL.isList el).typeIs
  have Lb := (PySem.IsL.isList eb).typeIs
  have hle := HT.sIx_le as.length as.length (Nat.le_refl _) hi
  obtain ⟨o, io, ic, idt⟩ := id is
  have Ls : s.TypeIs (.ref sl) "slice" := ⟨o, io, ic⟩
  have apart : Builtin.List.listSameRef (.ref l) (.ref b) = false := beq_eq_false_iff_ne.mpr nlb
  have szA : as.toArray.size = as.length := by simp
  have szB : bs.toArray.size = bs.length := by simp
  obtain ⟨b1, b2, b3⟩ := slice_bounds lo hi as.length
  have bds : sliceBounds lo hi none as.toArray.size = (((HT.sIx as.length 0 lo : Nat) : Int), ((HT.sIx as.length as.length hi : Nat) : Int), 1) := by rw [szA]; exact Prod.ext b1 (Prod.ext b2 b3)
  generalize hp : HT.sIx as.length 0 lo = p at *
  generalize hq : HT.sIx as.length as.length hi = q at *
  have top : (max (p : Int) (q : Int)).toNat = q := by omega
  have room1 : as.toArray.size ≤ sizeLine := by omega
  have room2 : ((fun xs : Array Value => xs.extract 0 p ++ bs.toArray ++ xs.extract q xs.size) as.toArray).size ≤ sizeLine + 1 := by simp only [Array.size_append, Array.size_extract]; omega
  unfold setItem
  refine wpAny_holding (wpAny_bind (wpAny_sequenceKey Ll (by decide) (wpAny_bind (wpAny_callSpecial?_slot (name := Str.ofString "__setitem__") Ll slot_list_setitem (wpAny_call_entry slot_list_setitem Ll entry_list_setitem ?_ (args_list_setitem _ _ _))))))
  -- the key is a slice: no index of its own
  show wpAny _ _ (Builtin.List.listSubscript? (.ref sl) >>= _) _ _ s
  unfold Builtin.List.listSubscript?
  refine wpAny_bind (wpAny_bind (wpAny_specialOf Ls slice_no_index ?_))
  rw [Option.isNone_none, if_pos rfl]
  refine wpAny_pure ?_
  show wpAny _ _ (typeOf (.ref sl) >>= _) _ _ s
  refine wpAny_bind (wpAny_typeOf Ls (PySem.W.KFB.if_not (by decide) ?_))
  rw [listSliceParts_eq]
  refine wpAny_bind (wpAny_bind (wpAny_field io idt (x := .none) rfl (wpAny_bind (wpAny_listPart .none (PySem.W.KFB.if_not (by decide) ?_)))))
  refine wpAny_bind (wpAny_field io idt (x := vl) rfl (wpAny_bind (wpAny_listPart pl (wpAny_bind (wpAny_field io idt (x := vu) rfl (wpAny_bind (wpAny_listPart pu (wpAny_pure ?_))))))))
  refine PySem.W.KFB.if_not apart (wpAny_bind (m := Builtin.List.listAllItems (.ref b) "must assign iterable to extended slice") ?_)
  unfold Builtin.List.listAllItems
  refine wpAny_bind (wpAny_typeOf Lb (PySem.W.KFB.if_so (by decide) ?_))
  unfold Builtin.List.listItems
  refine wpAny_bind (wpAny_seqItems eb rfl (wpAny_pure (wpAny_bind (wpAny_bind (wpAny_seqItems el rfl (wpAny_pure ?_))))))
  refine wpAny_bind (wpAny_of_eq ((sliceIndices_raw lo hi none as.toArray.size (by simp)).trans (congrArg pure bds)) ?_)
  show wpAny _ _ (if ((1 : Int) == 1) = true then _ else _) _ _ s
  refine PySem.W.KFB.if_so (by decide) (wpAny_bind (wpAny_rule (PySem.W.KFB.if_not (notLongL (by omega)) ?_)))
  show wpAny _ _ (updateSeq l (fun xs => xs.extract 0 ((p : Int)).toNat ++ bs.toArray ++ xs.extract (max (p : Int) (q : Int)).toNat xs.size) >>= _) _ _ s
  rw [top, Int.toNat_natCast]
  refine wpAny_bind (wpAny_updateSeq (hz := room1) (_hz' := room2) el rfl (wpAny_bind (wpAny_letGo ?_)))
  exact wpAny_pure ⟨.none, rfl, wpAny_pure k⟩
end
section
variable {X : Cx}
/-- xs[lo:hi] = ys -/
def gCut (to : TE) (tl th : TO) : TG := fun v σ H Q => to σ H fun o H1 => tl σ H1 fun lo H2 => th σ H2 fun hi H3 => ∃ l b xs ys, o = .ref l ∧ v = .ref b ∧ H3 l = some (.lst xs) ∧ H3 b = some (.lst ys) ∧ l ≠ b ∧
  HT.sIx xs.length 0 lo ≤ HT.sIx xs.length xs.length hi ∧ xs.length + ys.length ≤ sizeLine ∧ Q σ (upd H3 l (.lst (xs.take (HT.sIx xs.length 0 lo) ++ ys ++ xs.drop (HT.sIx xs.length xs.length hi))))
theorem pg_cut {e : Expr} {lo hi : Option Expr} {te : TE} {tl th : TO} {pos p2 : Pos} (he : PE X e te) (hl : PO X lo tl) (hh : PO X hi th) : PG X (.Subscript e (.Slice lo hi none p2) pos) (gCut te tl th) := by
  refine ⟨fun pins s σ H v u Q I r h => ?_⟩
  rw [arm_assign_Subscript]
  refine wpAny_bind (wpAny_holding (thn (he.run pins s σ H _ I h) fun ov s1 ⟨x, H1, I1, r1, q1⟩ => wpAny_bind (wpAny_holding ?_)))
  refine wpAny_Slice (thn (hl.run pins s1 σ H1 _ I1 q1) fun vl s2 ⟨l0, H2, I2, pl, q2⟩ => thn (hh.run pins s2 σ H2 _ I2 q2) fun vu s3 ⟨h0, H3, I3, pu, q3⟩ => ?_)
  rw [evalPart_none]
  refine wpAny_pure ?_
  obtain ⟨l, b, xs, ys, rfl, rfl, hL, hB, nlb, ord, room, q⟩ := q3
  cases r1
  cases r
  have I4 : Inv X pins σ H3 { s3 with heap := s3.heap.push { cls := .type "slice", data := .fields #[vl, vu, .none] } } := I3.kept (t' := s3.toks) fun c o z => Heap.get?_push_of_some _ z
  obtain ⟨_, as, n, ra, la, ea⟩ := I4.lstM hL
  obtain ⟨_, bs, n2, rb, lb, eb⟩ := I4.lstM hB
  refine wpAny_bind (wpAny_standAt (wpAny_bind (wpAny_holding (store_cut ea eb nlb (Heap.IsSliceOf.new ..) pl pu (by rw [← la]; exact ord) (by omega) (wpAny_release ?_)))))
  refine ⟨σ, _, I4.lset (its' := as.take (HT.sIx as.length 0 l0) ++ bs ++ as.drop (HT.sIx as.length as.length h0)) (t' := s3.toks) hL ea ?_ (Vals.append (Vals.append (ra.take _) rb) (ra.drop _)) ?_, ?_⟩
  · exact splice_eq as bs _ _
  · have := HT.sIx_le as.length as.length (Nat.le_refl _) h0
    have o2 := ord
    rw [la] at o2
    have l2 := rb.length
    rw [List.length_append, List.length_append, List.length_take, List.length_drop]; omega
  · rw [← la]; exact q
end
/-! ## reading a kind, sign by sign -/
inductive Pt where
  | s (c : Nat) | k (x : Kd)
def Pt.dat : Pt → PyData
  | .s c => .str (tx [c])
  | .k x => x.dat
def Pt.ok : Pt → Prop
  | .s _ => True
  | .k x => x.ok
/-- a sign alone -/
def rs (c : Nat) : Option Pt :=
  if c = 49 then some (.k .u) else if 97 ≤ c ∧ c < 105 then some (.k (.b (c - 97))) else if c = 40 ∨ c = 42 ∨ c = 62 then some (.s c) else none
/-- a brace is closed; the top of the stack first -/
def clo : List Pt → Option (List Pt)
  | .k y :: .s c :: .k x :: .s b :: r => if b = 40 then (if c = 42 then some (.k (.p x y) :: r) else if c = 62 then some (.k (.f x y) :: r) else none) else none
  | _ => none
def rdR : List Nat → List Pt → Option (List Pt)
  | [], st => some st
  | c :: cs, st => if c = 41 then (match clo st with | none => none | some st' => rdR cs st') else (match rs c with | none => none | some p => rdR cs (p :: st))
def rdE : List Pt → Option Kd
  | [.k x] => some x
  | _ => none
def rdK (cs : List Nat) : Option Kd := (rdR cs []).bind rdE
theorem clo_is {st st' : List Pt} (h : clo st = some st') : ∃ x y c r, st = .k y :: .s c :: .k x :: .s 40 :: r ∧ ((c = 42 ∧ st' = .k (.p x y) :: r) ∨ (c = 62 ∧ st' = .k (.f x y) :: r)) := by
  unfold clo at h
  split at h
  · rename_i y c x b r
    split at h
    · rename_i hb
      subst hb
      split at h
      · rename_i hc; cases h; exact ⟨x, y, c, r, rfl, .inl ⟨hc, rfl⟩⟩
      · split at h
        · rename_i hc; cases h; exact ⟨x, y, c, r, rfl, .inr ⟨hc, rfl⟩⟩
        · cases h
    · cases h
  · cases h
/-- reading a kind's text puts the kind on the stack -/
theorem rdR_cod : ∀ (k : Kd) (cs : List Nat) (st : List Pt), k.ok → rdR (k.cod ++ cs) st = rdR cs (.k k :: st)
  | .b n, cs, st, h => by
    have h' : n < 8 := h
    show (if 97 + n = 41 then _ else _) = _
    rw [if_neg (by omega)]
    have e : rs (97 + n) = some (.k (.b n)) := by
      unfold rs
      rw [if_neg (by omega), if_pos (by omega)]
      congr 3; omega
    rw [e]; rfl
  | .u, cs, st, _ => rfl
  | .p x y, cs, st, h => by
    show rdR (x.cod ++ 42 :: (y.cod ++ [41]) ++ cs) (.s 40 :: st) = _
    rw [List.append_assoc, rdR_cod x _ _ h.1]
    show rdR (y.cod ++ [41] ++ cs) (.s 42 :: .k x :: .s 40 :: st) = _
    rw [List.append_assoc, rdR_cod y _ _ h.2]; rfl
  | .f x y, cs, st, h => by
    show rdR (x.cod ++ 62 :: (y.cod ++ [41]) ++ cs) (.s 40 :: st) = _
    rw [List.append_assoc, rdR_cod x _ _ h.1]
    show rdR (y.cod ++ [41] ++ cs) (.s 62 :: .k x :: .s 40 :: st) = _
    rw [List.append_assoc, rdR_cod y _ _ h.2]; rfl
theorem rdK_cod (k : Kd) (h : k.ok) : rdK k.cod = some k := by
  have e := rdR_cod k [] [] h
  rw [List.append_nil] at e
  show (rdR k.cod []).bind rdE = some k
  rw [e]; rfl
/-- a stack that reads back to the signs that were taken -/
def Pt.cod : Pt → List Nat
  | .s c => [c]
  | .k x => x.cod
end KB
namespace KB
open PySem L2
theorem DqAll.last4 {K : PySem.W.Frag} {H : Hp} {ds : List PyData} {a b c d : PyData} {vs : List V} (h : DqAll K H vs (ds ++ [a, b, c, d])) :
    ∃ us v1 v2 v3 v4, vs = us ++ [v1, v2, v3, v4] ∧ DqAll K H us ds ∧ Dq K H v1 a ∧ Dq K H v2 b ∧ Dq K H v3 c ∧ Dq K H v4 d := by
  have h' : DqAll K H vs (((ds ++ [a]) ++ [b]) ++ [c] ++ [d]) := by simpa using h
  obtain ⟨u4, v4, rfl, h3, r4⟩ := h'.last
  obtain ⟨u3, v3, rfl, h2, r3⟩ := h3.last
  obtain ⟨u2, v2, rfl, h1, r2⟩ := h2.last
  obtain ⟨u1, v1, rfl, h0, r1⟩ := h1.last
  exact ⟨u1, v1, v2, v3, v4, by simp, h0, r1, r2, r3, r4⟩
end KB
namespace KB
open PySem L2
theorem Kd.ne_str (k : Kd) (x : Str) : PyData.eqv k.dat (.str x) = false := by cases k <;> simp [Kd.dat, PyData.eqv]
theorem str_lay {x : Str} (h : PyData.strOk x = true) : (PyData.str x).canLay0 = true := by simpa [PyData.canLay0] using h
end KB
namespace KB
open PySem L2
theorem rdR_close (cs : List Nat) (st : List Pt) : rdR (41 :: cs) st = (clo st).bind (rdR cs) := by
  show (if 41 = 41 then _ else _) = _
  rw [if_pos rfl]; cases clo st <;> rfl
theorem rdR_sign {c : Nat} (h : ¬ c = 41) (cs : List Nat) (st : List Pt) : rdR (c :: cs) st = (rs c).bind fun p => rdR cs (p :: st) := by
  show (if c = 41 then _ else _) = _
  rw [if_neg h]; cases rs c <;> rfl
/-! ## data without lists and dicts don't lean on what may change -/
mutual
def pureT : PyData → Bool
  | .none => true | .bool _ => true | .int _ => true | .str _ => true
  | .tuple xs => pureTs xs
  | .list _ => false | .dict _ => false
def pureTs : List PyData → Bool
  | [] => true
  | x :: xs => pureT x && pureTs xs
end
theorem Kd.pure : ∀ k : Kd, pureT k.dat = true
  | .b _ => by simp [Kd.dat, pureT, pureTs]
  | .u => by simp [Kd.dat, pureT, pureTs]
  | .p x y => by simp [Kd.dat, pureT, pureTs, x.pure, y.pure]
  | .f x y => by simp [Kd.dat, pureT, pureTs, x.pure, y.pure]
theorem SqT.outp {K : PySem.W.Frag} {H : Hp} {l a : Addr} {us xs : List V} (e : H l = some (.lst us)) (h : SqT K H a xs) : SqT K (out l H) a xs := by
  rcases h with (h | ⟨o, h⟩) | h
  · exact .inl (.inl (out_at (fun z => by rw [z, e] at h; cases h) h))
  · exact .inl (.inr ⟨o, out_at (fun z => by rw [z, e] at h; cases h) h⟩)
  · exact .inr h
mutual
theorem Dq.outp {K : PySem.W.Frag} {H : Hp} {l : Addr} {us : List V} (e : H l = some (.lst us)) : ∀ {d : PyData} {v : V}, pureT d = true → Dq K H v d → Dq K (out l H) v d
  | _, _, _, .non => .non
  | _, _, _, .bl b => .bl b
  | _, _, _, .int i => .int i
  | _, _, _, .str x => .str x
  | _, _, h, .tup s a => .tup (SqT.outp e s) (DqAll.outp e (by simpa [pureT] using h) a)
  | _, _, h, .lst _ _ => by simp [pureT] at h
  | _, _, h, .dct _ => by simp [pureT] at h
theorem DqAll.outp {K : PySem.W.Frag} {H : Hp} {l : Addr} {us : List V} (e : H l = some (.lst us)) : ∀ {ds : List PyData} {vs : List V}, pureTs ds = true → DqAll K H vs ds → DqAll K (out l H) vs ds
  | _, _, _, .nil => .nil
  | d :: ds, _, h, .cons x a => by
    have h' : pureT d = true ∧ pureTs ds = true := by simpa [pureTs] using h
    exact .cons (Dq.outp e h'.1 x) (DqAll.outp e h'.2 a)
end
theorem Pt.pure (p : Pt) : pureT p.dat = true := by
  cases p with
  | s c => simp [Pt.dat, pureT]
  | k x => exact x.pure
end KB
namespace KB
open PySem L2
theorem cal_vac {P : Program} {w : World} {K : PySem.W.Frag} {mg : Str → Option Value} {base : Heap} {CX : CXT} {k : Nat} {x : Str} {ps : List Str} {sp : Sp} {st : Stmt} (A : At K mg x st) (hb : ∀ f fd, Fun K x x st f fd → Binds K fd ps [])
    (no : ∀ vs H Q E, ¬ sp vs H Q E) : Cal P w K mg base CX k x ps sp := by
  obtain ⟨f, fd, F, m⟩ := A
  exact ⟨f, fd, ⟨fun vs H Q E h => absurd h (no vs H Q E), fun A outer s H args us vs Q E _ _ _ _ h => absurd h (no vs H Q E)⟩, hb f fd F, F.kp, m⟩
end KB
namespace KB
open PySem PySem.Spec PyProof.Rows L2
/-! ## isinstance of data -/
/-! ## equality of kinds -/
mutual
theorem eqv_refl : ∀ d : PyData, d.canLay0 = true → PyData.eqv d d = true
  | .none, _ => by simp [PyData.eqv]
  | .bool _, _ => by simp [PyData.eqv]
  | .int _, _ => by simp [PyData.eqv]
  | .str _, _ => by simp [PyData.eqv]
  | .list xs, h => by simp only [PyData.eqv]; exact eqvs_refl xs (by simpa [PyData.canLay0] using h)
  | .tuple xs, h => by simp only [PyData.eqv]; exact eqvs_refl xs (by simpa [PyData.canLay0] using h)
  | .dict _, h => by simp [PyData.canLay0] at h
theorem eqvs_refl : ∀ ds : List PyData, PyData.canLayAll0 ds = true → PyData.eqvAll ds ds = true
  | [], _ => by simp [PyData.eqvAll]
  | d :: ds, h => by
    have h' : d.canLay0 = true ∧ PyData.canLayAll0 ds = true := by simpa [PyData.canLayAll0] using h
    simp [PyData.eqvAll, eqv_refl d h'.1, eqvs_refl ds h'.2]
end
theorem str_ne {x y : Str} (h : x ≠ y) : (x == y) = false := beq_eq_false_iff_ne.mpr h
theorem ev_tup (xs ys : List PyData) : PyData.eqv (.tuple xs) (.tuple ys) = PyData.eqvAll xs ys := by simp only [PyData.eqv]
theorem ev_lst (xs ys : List PyData) : PyData.eqv (.list xs) (.list ys) = PyData.eqvAll xs ys := by simp only [PyData.eqv]
theorem ev_str (x y : Str) : PyData.eqv (.str x) (.str y) = (x == y) := by simp only [PyData.eqv]
theorem ev_int (x y : Int) : PyData.eqv (.int x) (.int y) = (x == y) := by simp only [PyData.eqv]
theorem ev_cons (x y : PyData) (xs ys : List PyData) : PyData.eqvAll (x :: xs) (y :: ys) = (PyData.eqv x y && PyData.eqvAll xs ys) := by simp only [PyData.eqvAll]
theorem ev_nil : PyData.eqvAll [] [] = true := by simp only [PyData.eqvAll]
theorem ev_nilc (y : PyData) (ys : List PyData) : PyData.eqvAll [] (y :: ys) = false := by simp only [PyData.eqvAll]
theorem ev_cnil (y : PyData) (ys : List PyData) : PyData.eqvAll (y :: ys) [] = false := by simp only [PyData.eqvAll]
theorem Kd.eqv (x : Kd) : ∀ y : Kd, PyData.eqv x.dat y.dat = decide (x = y) := by
  have n1 := str_ne (show ("both" : Str) ≠ "from" by decide)
  have n2 := str_ne (show ("from" : Str) ≠ "both" by decide)
  induction x with
  | b n =>
    intro y
    cases y with
    | b m =>
      simp only [Kd.dat, ev_tup, ev_cons, ev_nil, ev_str, ev_int, beq_self_eq_true, Bool.true_and, Bool.and_true]
      by_cases h : n = m
      · subst h; simp
      · rw [decide_eq_false (by intro z; cases z; exact h rfl)]
        exact beq_eq_false_iff_ne.mpr (by omega)
    | u => simp [Kd.dat, ev_tup, ev_cons, ev_str, ev_nil, ev_nilc, ev_cnil]
    | p _ _ => simp [Kd.dat, ev_tup, ev_cons, ev_str, ev_nil, ev_nilc, ev_cnil]
    | f _ _ => simp [Kd.dat, ev_tup, ev_cons, ev_str, ev_nil, ev_nilc, ev_cnil]
  | u =>
    intro y
    cases y <;> simp [Kd.dat, ev_tup, ev_cons, ev_str, ev_nil, ev_nilc, ev_cnil]
  | p a1 b1 ih1 ih2 =>
    intro y
    cases y with
    | b _ => simp [Kd.dat, ev_tup, ev_cons, ev_str, ev_nil, ev_nilc, ev_cnil]
    | u => simp [Kd.dat, ev_tup, ev_cons, ev_str, ev_nil, ev_nilc, ev_cnil]
    | f _ _ => simp [Kd.dat, ev_tup, ev_cons, ev_str, n1]
    | p c1 d1 =>
      simp only [Kd.dat, ev_tup, ev_cons, ev_nil, ev_str, beq_self_eq_true, Bool.true_and, Bool.and_true, ih1, ih2]
      by_cases h : a1 = c1 <;> by_cases h2 : b1 = d1 <;> simp [h, h2]
  | f a1 b1 ih1 ih2 =>
    intro y
    cases y with
    | b _ => simp [Kd.dat, ev_tup, ev_cons, ev_str, ev_nil, ev_nilc, ev_cnil]
    | u => simp [Kd.dat, ev_tup, ev_cons, ev_str, ev_nil, ev_nilc, ev_cnil]
    | p _ _ => simp [Kd.dat, ev_tup, ev_cons, ev_str, n2]
    | f c1 d1 =>
      simp only [Kd.dat, ev_tup, ev_cons, ev_nil, ev_str, beq_self_eq_true, Bool.true_and, Bool.and_true, ih1, ih2]
      by_cases h : a1 = c1 <;> by_cases h2 : b1 = d1 <;> simp [h, h2]
end KB
namespace KB
open PySem L2
end KB
namespace KB
open PySem L2
/-- pairs and functions, told as one -/
structure Mk2 (mk : Kd → Kd → Kd) (wd : Str) : Prop where
  dat : ∀ x y, (mk x y).dat = .tuple [.str wd, x.dat, y.dat]
  ok : ∀ x y, (mk x y).ok ↔ x.ok ∧ y.ok
  leaves : ∀ x y, (mk x y).leaves = x.leaves + y.leaves
  deep : ∀ x y, (mk x y).deep = 1 + max x.deep y.deep
  wd : wd = "both" ∨ wd = "from"
theorem mk_p : Mk2 Kd.p "both" := ⟨fun _ _ => rfl, fun _ _ => Iff.rfl, fun _ _ => rfl, fun _ _ => rfl, .inl rfl⟩
theorem mk_f : Mk2 Kd.f "from" := ⟨fun _ _ => rfl, fun _ _ => Iff.rfl, fun _ _ => rfl, fun _ _ => rfl, .inr rfl⟩
end KB
namespace KB
open PySem L2
end KB
namespace KB
open PySem PySem.Spec PyProof.Rows L2
/-! ## what is raised is caught by the first clause, whichever clauses follow -/
/-! ## isinstance of what was caught: one class, a tuple of classes -/
def rCaught (K : PySem.W.Frag) (D a : Addr) : List V → Hp → VK → Prop := fun xs H Q => rIsE K D a xs H Q ∨
  ∃ (tp : Addr) (cs : List V) (us : List Value) (b : Bool), xs = [.ref a, .ref tp] ∧ H tp = some (.tup cs) ∧ Paired ClsV cs us ∧ PySem.W.kitAny K (.ref D) us = some b ∧ Q (.bl b) H
theorem call_caught {X : Cx} {a D : Addr} {oe : Obj} {pn : List (Addr × Obj)} (C : ExcC X.K D) (hz : Zc (.ref D) none oe) (hf : ∃ vs, oe.data = .fields vs) :
    CallR (X.suite a ((a, oe) :: pn)) (.builtin "isinstance") (rCaught X.K D a) := by
  intro pins s σ H xs us Q I r h
  rcases h with h | ⟨tp, cs, ws, b, rfl, hT, k, e, q⟩
  · exact call_isE C hz hf pins s σ H xs us Q I r h
  · obtain ⟨u1, u2, rfl, r1, r2⟩ := L2.vals2 r
    cases r1
    cases r2
    obtain ⟨hget, _⟩ := I.pin (a, oe) (List.mem_append.mpr (.inl List.mem_cons_self))
    obtain ⟨vs, hv⟩ := hf
    obtain ⟨oc, od, dt, sl⟩ := oe
    obtain ⟨h1, h2⟩ := hz
    cases h1
    cases h2
    cases hv
    have J : PySem.W.InstAt s.heap a ⟨.ref D, none, .fields vs, sl⟩ D none := ⟨hget, rfl, rfl, trivial⟩
    obtain ⟨_, its, rv, o, e1, e2, n, e3⟩ := I.hok tp (.tup cs) hT
    have e4 := ClsV.all k rv
    subst e4
    obtain ⟨oc2, od2, dt2, sl2⟩ := o
    cases e2
    cases e3
    exact PySem.W.kia_tup (PySem.W.handS_kitx_exc C.hg C.hk C.hs C.hd C.ha C.hn C.ht C.hm) I.kIn J e1 e (fun z => nomatch z) fun tk => ⟨.bl b, H, Inv.tok I tk, rfl, q⟩
/-! ## s[::-1] of a text: some text, no longer -/
/-! ## a text, told some times: some text, no longer than that -/
def rTimes : R2 := fun x y H Q => ∃ (z : Str) (n : Int), x = .str z ∧ y = .int n ∧ 0 ≤ n ∧ n ≤ 1000000 ∧ z.length * n.toNat ≤ 1000000 ∧ ∀ u : Str, u.length ≤ z.length * n.toNat → Q (.str u) H
theorem rep_length (n : Nat) (a : Array Nat) : (List.foldl (fun x1 x2 => x1 ++ x2) #[] (List.replicate n a)).size = a.size * n := by
  have h : ∀ (m : Nat) (b : Array Nat), (List.foldl (fun x1 x2 => x1 ++ x2) b (List.replicate m a)).size = b.size + a.size * m := by
    intro m
    induction m with
    | zero => intro b; simp
    | succ m ih => intro b; rw [List.replicate_succ, List.foldl_cons, ih, Array.size_append, Nat.mul_succ]; omega
  rw [h]; simp
theorem op_times {X : Cx} : OpR X (binaryOp .Mult) rTimes := by
  intro pins s σ H x y v u Q I rx ry ⟨z, n, ex, ey, h0, h1, hz, q⟩
  subst ex
  subst ey
  obtain ⟨t, rfl⟩ := rx
  obtain ⟨t', rfl⟩ := ry
  have hs : z.length * n.toNat ≤ sizeLine := Nat.le_trans hz (by decide)
  refine P.mul_str (by rw [decide_eq_false (by omega), decide_eq_false (by omega)]; rfl) (fun _ _ => ?_) (fun _ _ => ?_) ?_
  · have e : ((z.length * n.toNat : Nat) : Int) = (z.length : Int) * n := by rw [Int.natCast_mul, Int.toNat_of_nonneg h0]
    intro hb
    have h3 : (z.length : Int) * n ≤ 1000000 := by rw [← e]; exact Int.ofNat_le.mpr hz
    by_cases hn : n = 0
    · subst hn; omega
    · have : (z.length : Int) ≤ (2 ^ 63 - 1) / n := Int.le_ediv_of_mul_le (by omega) (by omega)
      omega
  · unfold PySem.Builtin.Str.tooLong
    exact decide_eq_false (Nat.not_lt.mpr hs)
  · split
    · exact ⟨Nat.zero_le _, .str _, H, Inv.tok I _, ⟨_, rfl⟩, q _ (Nat.zero_le _)⟩
    · split
      · rename_i hn hc
        refine ⟨.str z, H, I, ⟨_, rfl⟩, q _ ?_⟩
        have : n = 1 ∨ z.length = 0 := by simpa using hc
        rcases this with rfl | h
        · simp
        · omega
      · refine ⟨?_, .str _, H, Inv.tok I _, ⟨_, rfl⟩, q _ ?_⟩
        · show (List.foldl (fun x1 x2 => x1 ++ x2) #[] (List.replicate n.toNat z.cps)).size ≤ sizeLine
          rw [rep_length]; exact hs
        · show (List.foldl (fun x1 x2 => x1 ++ x2) #[] (List.replicate n.toNat z.cps)).size ≤ _
          rw [rep_length]; exact Nat.le_refl _
/-! ## within a clause: rules that speak of the whole, not of the clause -/
theorem ix_BS {X : Cx} {a : Addr} {pn : List (Addr × Obj)} : IxR (X.suite a pn) (rIxB X.K X.w) := ix_B (X := X.suite a pn)
/-! ## facts of a class of errors, from the head -/
end KB
namespace KB
open PySem PySem.Spec PyProof.Rows L2
/-! ## defs that are called where no repr is under way -/
/-! ## the law's call, and its end -/
end KB
namespace KB
open PySem PySem.Spec PyProof.Rows L2
/-! ## data with empty dicts, read as a whole -/
mutual
/-- no list in it -/
def noL : PyData → Bool
  | .list _ => false
  | .tuple ds => noLs ds
  | _ => true
def noLs : List PyData → Bool
  | [] => true
  | d :: r => noL d && noLs r
end
theorem emptyDict {X : Cx} {pins : List (Addr × Obj)} {σ : L2.St} {H : Hp} {s : Shared} (I : L2.Inv X pins σ H s) {a : Addr} (h : H a = some (.dK [])) :
    (a == sysModules) = false ∧ ∃ o n, s.heap.get? a = some o ∧ o.cls = .type "dict" ∧ o.data = .dict #[] n := by
  obtain ⟨_, e, vs, hk, o, es, ep, h1, h2, h3, h4, h5, h6⟩ := I.hok a (.dK []) h
  cases hk
  obtain ⟨el⟩ := es
  cases h5
  exact ⟨e, o, ep, h1, h2.1, h3⟩
mutual
theorem Dq.reads {X : Cx} {pins : List (Addr × Obj)} {σ : L2.St} {H : Hp} {s : Shared} (I : L2.Inv X pins σ H s) : ∀ {d : PyData} {v : V} {u : Value}, Dq X.K H v d → L2.RelV v u → ∃ as, Reads s.heap u d as ∧ (noL d = true → sysModules ∉ as)
  | _, _, _, .non, r => by cases r; exact ⟨[], .none, fun _ => List.not_mem_nil⟩
  | _, _, _, .bl b, r => by cases r; exact ⟨[], .bool b, fun _ => List.not_mem_nil⟩
  | _, _, _, .int i, r => by obtain ⟨t, rfl⟩ := r; exact ⟨[], .int i t, fun _ => List.not_mem_nil⟩
  | _, _, _, .str x, r => by obtain ⟨t, rfl⟩ := r; exact ⟨[], .str x t, fun _ => List.not_mem_nil⟩
  | _, _, _, .lst h hs, r => by
    cases r
    obtain ⟨its, rv, pl, _⟩ := I.list h
    obtain ⟨o, e1, e2, n, e3⟩ := PlainL.isList pl
    obtain ⟨as, ra, _⟩ := DqAll.reads I hs rv
    exact ⟨_, .list e1 e2 e3 (by simpa using ra), fun z => by cases z⟩
  | _, _, _, .tup h hs, r => by
    cases r
    obtain ⟨its, rv, it, _⟩ := I.tuple h
    obtain ⟨o, e1, e2, n, e3⟩ := it
    obtain ⟨as, ra, z⟩ := DqAll.reads I hs rv
    exact ⟨_, .tuple e1 e2 e3 (by simpa using ra), fun q => z (by simpa [noL] using q)⟩
  | _, _, _, .dct h, r => by
    cases r
    obtain ⟨ne, o, n, e1, e2, e3⟩ := emptyDict I h
    refine ⟨_, .dict e1 e2 e3 .nil .nil, fun _ => ?_⟩
    simp only [List.append_nil, List.mem_singleton]
    intro z
    rw [← z] at ne
    simp at ne
theorem DqAll.reads {X : Cx} {pins : List (Addr × Obj)} {σ : L2.St} {H : Hp} {s : Shared} (I : L2.Inv X pins σ H s) : ∀ {ds : List PyData} {vs : List V} {us : List Value}, DqAll X.K H vs ds → Vals vs us → ∃ as, ReadsAll s.heap us ds as ∧ (noLs ds = true → sysModules ∉ as)
  | _, _, _, .nil, r => by cases r; exact ⟨[], .nil, fun _ => List.not_mem_nil⟩
  | _, _, _, .cons h hs, r => by
    cases r with
    | cons r1 r2 =>
      obtain ⟨as, ra, za⟩ := Dq.reads I h r1
      obtain ⟨bs, rb, zb⟩ := DqAll.reads I hs r2
      refine ⟨_, .cons ra rb, fun q => ?_⟩
      simp only [noLs, Bool.and_eq_true] at q
      rw [List.mem_append]
      rintro (h | h)
      · exact za q.1 h
      · exact zb q.2 h
end
/-! ## a tuple beside the empty one, beside a text alone; a list beside the empty one -/
/-! ## repr of data -/
/-! ## small data: what its repr is at most -/
end KB
namespace KB
open PySem PySem.Spec PyProof.Rows L2
/-! ## factors, and the order of tuples on them -/
inductive Fc where
  | mk (ws : List Fc) (n : Nat)
namespace Fc
mutual
def dat : Fc → PyData
  | mk ws n => .tuple [.tuple (dats ws), .int n]
def dats : List Fc → List PyData
  | [] => []
  | f :: r => dat f :: dats r
end
mutual
def cmp : Fc → Fc → Ordering
  | mk ws n, mk vs m => (cmps ws vs).then (compare n m)
def cmps : List Fc → List Fc → Ordering
  | [], [] => .eq
  | [], _ :: _ => .lt
  | _ :: _, [] => .gt
  | a :: r, b :: s => (cmp a b).then (cmps r s)
end
mutual
theorem cmp_eq : ∀ a b : Fc, cmp a b = .eq ↔ a = b
  | mk ws n, mk vs m => by
    rw [cmp, Ordering.then_eq_eq, cmps_eq ws vs, Nat.compare_eq_eq, mk.injEq]
theorem cmps_eq : ∀ a b : List Fc, cmps a b = .eq ↔ a = b
  | [], [] => by simp [cmps]
  | [], _ :: _ => by simp [cmps]
  | _ :: _, [] => by simp [cmps]
  | a :: r, b :: s => by rw [cmps, Ordering.then_eq_eq, cmp_eq a b, cmps_eq r s, List.cons.injEq]
end
mutual
theorem cmp_swap : ∀ a b : Fc, cmp b a = (cmp a b).swap
  | mk ws n, mk vs m => by
    rw [cmp, cmp, Ordering.swap_then, cmps_swap ws vs, Nat.compare_swap]
theorem cmps_swap : ∀ a b : List Fc, cmps b a = (cmps a b).swap
  | [], [] => by simp [cmps]
  | [], _ :: _ => by simp [cmps]
  | _ :: _, [] => by simp [cmps]
  | a :: r, b :: s => by rw [cmps, cmps, Ordering.swap_then, cmp_swap a b, cmps_swap r s]
end
mutual
theorem cmp_tr : ∀ a b c : Fc, cmp a b = .lt → cmp b c = .lt → cmp a c = .lt
  | mk ws n, mk vs m, mk us k => by
    rw [cmp, cmp, cmp, Ordering.then_eq_lt, Ordering.then_eq_lt, Ordering.then_eq_lt, Nat.compare_eq_lt, Nat.compare_eq_lt, Nat.compare_eq_lt]
    rintro (h1 | ⟨h1, h2⟩) (h3 | ⟨h3, h4⟩)
    · exact .inl (cmps_tr ws vs us h1 h3)
    · rw [cmps_eq] at h3; subst h3; exact .inl h1
    · rw [cmps_eq] at h1; subst h1; exact .inl h3
    · rw [cmps_eq] at h1 h3; subst h1; subst h3; exact .inr ⟨(cmps_eq _ _).mpr rfl, by omega⟩
theorem cmps_tr : ∀ a b c : List Fc, cmps a b = .lt → cmps b c = .lt → cmps a c = .lt
  | [], [], c => by simp [cmps]
  | [], _ :: _, [] => by simp [cmps]
  | [], _ :: _, _ :: _ => by simp [cmps]
  | _ :: _, [], _ => by simp [cmps]
  | _ :: _, _ :: _, [] => by simp [cmps]
  | a :: r, b :: s, c :: t => by
    rw [cmps, cmps, cmps, Ordering.then_eq_lt, Ordering.then_eq_lt, Ordering.then_eq_lt]
    rintro (h1 | ⟨h1, h2⟩) (h3 | ⟨h3, h4⟩)
    · exact .inl (cmp_tr a b c h1 h3)
    · rw [cmp_eq] at h3; subst h3; exact .inl h1
    · rw [cmp_eq] at h1; subst h1; exact .inl h3
    · rw [cmp_eq] at h1 h3; subst h1; subst h3; exact .inr ⟨(cmp_eq _ _).mpr rfl, cmps_tr r s t h2 h4⟩
end
def lt (a b : Fc) : Bool := cmp a b == .lt
theorem swo : SrtO.Swo lt := by
  refine ⟨fun x y h => ?_, fun x y z h1 h2 => ?_⟩
  · have h' : cmp x y = .lt := by simpa [lt] using h
    simp [lt, cmp_swap x y, h']
  · have h1' : cmp y x ≠ .lt := by simpa [lt] using h1
    have h2' : cmp z y ≠ .lt := by simpa [lt] using h2
    have : cmp z x ≠ .lt := by
      intro h
      cases e : cmp y x with
      | lt => exact h1' e
      | eq => rw [cmp_eq] at e; subst e; exact h2' h
      | gt => exact h2' (cmp_tr z x y h (by rw [cmp_swap y x, e]; rfl))
    simpa [lt] using this
mutual
theorem lay : ∀ f : Fc, (dat f).canLay0 = true
  | mk ws n => by simp [dat, PyData.canLay0, PyData.canLayAll0, lays ws]
theorem lays : ∀ fs : List Fc, PyData.canLayAll0 (dats fs) = true
  | [] => by simp [dats, PyData.canLayAll0]
  | f :: r => by simp [dats, PyData.canLayAll0, lay f, lays r]
end
theorem nat_ev (n m : Nat) : ((n : Int) == (m : Int)) = (compare n m == .eq) := by
  by_cases h : n = m
  · subst h; simp
  · have h2 : ¬ compare n m = .eq := fun z => h (Nat.compare_eq_eq.mp z)
    rw [beq_eq_false_iff_ne.mpr (fun z => h (by omega)), beq_eq_false_iff_ne.mpr h2]
theorem then_ev (a b : Ordering) : (a.then b == .eq) = (a == .eq && b == .eq) := by cases a <;> cases b <;> rfl
mutual
theorem eqv : ∀ f g : Fc, (dat f).eqv (dat g) = (cmp f g == .eq)
  | mk ws n, mk vs m => by
    rw [dat, dat, ev_tup, ev_cons, ev_cons, ev_nil, ev_tup, ev_int, eqvs ws vs, nat_ev, cmp, then_ev, Bool.and_true]
theorem eqvs : ∀ fs gs : List Fc, PyData.eqvAll (dats fs) (dats gs) = (cmps fs gs == .eq)
  | [], [] => by rw [dats, ev_nil, cmps]; rfl
  | [], g :: r => by rw [dats, dats, ev_nilc, cmps]; rfl
  | f :: r, [] => by rw [dats, dats, ev_cnil, cmps]; rfl
  | f :: r, g :: t => by rw [dats, dats, ev_cons, eqv f g, eqvs r t, cmps, then_ev]
end
theorem dats_length : ∀ fs : List Fc, (dats fs).length = fs.length
  | [] => rfl
  | f :: r => by rw [dats, List.length_cons, dats_length r, List.length_cons]
def eF (fs gs : List Fc) (j : Nat) : Bool := match fs[j]?, gs[j]? with | some f, some g => cmp f g == .eq | _, _ => false
def rF (fs gs : List Fc) (j : Nat) : Bool := match fs[j]?, gs[j]? with | some f, some g => lt f g | _, _ => false
theorem firstLt_map (e r : Nat → Bool) (fin : Bool) (g : Nat → Nat) : ∀ l : List Nat, SeqAt.firstLt e r fin (l.map g) = SeqAt.firstLt (fun j => e (g j)) (fun j => r (g j)) fin l
  | [] => by rw [List.map_nil, SeqAt.firstLt.eq_1, SeqAt.firstLt.eq_1]
  | j :: t => by rw [List.map_cons, SeqAt.firstLt.eq_2, SeqAt.firstLt.eq_2, firstLt_map e r fin g t]
theorem then_lt (a b : Ordering) : (a.then b == .lt) = (if (a == .eq) = true then (b == .lt) else (a == .lt)) := by cases a <;> cases b <;> rfl
theorem firstLt_cmps : ∀ fs gs : List Fc, SeqAt.firstLt (eF fs gs) (rF fs gs) (decide (fs.length < gs.length)) (List.range (min fs.length gs.length)) = (cmps fs gs == .lt)
  | [], [] => by simp [SeqAt.firstLt.eq_1, cmps]
  | [], _ :: _ => by simp [SeqAt.firstLt.eq_1, cmps]
  | _ :: _, [] => by simp [SeqAt.firstLt.eq_1, cmps]
  | f :: r, g :: t => by
    have hm : min (f :: r).length (g :: t).length = min r.length t.length + 1 := by simp only [List.length_cons]; omega
    have hd : decide ((f :: r).length < (g :: t).length) = decide (r.length < t.length) := by simp
    rw [hm, hd, List.range_succ_eq_map, SeqAt.firstLt.eq_2, firstLt_map]
    have h1 : (fun j => eF (f :: r) (g :: t) (Nat.succ j)) = eF r t := funext fun j => rfl
    have h2 : (fun j => rF (f :: r) (g :: t) (Nat.succ j)) = rF r t := funext fun j => rfl
    rw [h1, h2, firstLt_cmps r t, cmps, then_lt]
    rfl
theorem tup_inv {h : Heap} {v : Value} {ds : List PyData} {as : List Addr} (r : Reads h v (.tuple ds) as) : ∃ a items, v = .ref a ∧ h.IsTuple a items ∧ ReadsAll h items.toList ds as := by
  cases r with
  | tuple e1 e2 e3 ra => exact ⟨_, _, rfl, ⟨_, e1, e2, _, e3⟩, ra⟩
theorem rc_int {A : Around} {s : Shared} (a : Int) (t : Tok) (b : Int) (u : Tok) : SeqAt.RcLt A s (.int a t) (.int b u) (decide (a < b)) := fun prog w E Q h => lt_int h
theorem reads_at {h : Heap} : ∀ {vs : List Value} {fs : List Fc} {as : List Addr}, ReadsAll h vs (dats fs) as → vs.length = fs.length ∧ ∀ (j : Nat) (hj : j < vs.length), ∃ f bs, fs[j]? = some f ∧ Reads h vs[j] (dat f) bs
  | _, [], _, r => by
    rw [dats] at r
    cases r
    exact ⟨rfl, fun j hj => absurd hj (Nat.not_lt_zero _)⟩
  | _, f :: t, _, r => by
    rw [dats] at r
    cases r with
    | cons r1 r2 =>
      obtain ⟨hl, hr⟩ := reads_at r2
      refine ⟨by simp [hl], fun j hj => ?_⟩
      cases j with
      | zero => exact ⟨f, _, rfl, r1⟩
      | succ j =>
        obtain ⟨g, bs, e, q⟩ := hr j (by simpa using hj)
        exact ⟨g, bs, by simpa using e, q⟩
theorem depth_mem {fs : List Fc} {f : Fc} {j : Nat} (h : fs[j]? = some f) : (dat f).depth ≤ PyData.depthAll (dats fs) := by
  induction fs generalizing j with
  | nil => simp at h
  | cons g r ih =>
    rw [dats]
    simp only [PyData.depthAll]
    cases j with
    | zero => simp at h; subst h; omega
    | succ j => have := ih (j := j) (by simpa using h); omega
mutual
theorem rcLt : ∀ (f g : Fc) {A : Around} {s : Shared} {v u : Value} {as bs : List Addr}, Reads s.heap v (dat f) as → Reads s.heap u (dat g) bs → A.units + (dat f).depth < cLine → SeqAt.RcLt A s v u (lt f g)
  | mk ws n, mk vs m, A, s, v, u, as, bs, rv, ru, hu => by
    rw [dat] at rv ru hu
    simp only [PyData.depth, PyData.depthAll] at hu
    obtain ⟨a, items, rfl, t1, ra⟩ := tup_inv rv
    obtain ⟨b, items2, rfl, t2, rb⟩ := tup_inv ru
    obtain ⟨il⟩ := items
    obtain ⟨il2⟩ := items2
    cases ra with
    | cons r1 r2 => cases r2 with
    | cons r3 r4 => cases r4 with
    | nil => cases rb with
    | cons p1 p2 => cases p2 with
    | cons p3 p4 => cases p4 with
    | nil =>
    cases r3
    cases p3
    have eq0 := SeqAt.eqAt_reads _ _ A.in1 s _ _ _ _ r1 p1 (by simpa [PyData.canLay0] using lays ws) (by simpa [PyData.canLay0] using lays vs) (by show A.units + 1 + _ < cLine; simp only [PyData.depth]; omega)
    rw [ev_tup, eqvs] at eq0
    obtain ⟨a1, w1, rfl, tw, rw1⟩ := tup_inv r1
    obtain ⟨b1, w2, rfl, tv, rv1⟩ := tup_inv p1
    obtain ⟨l1, f1⟩ := reads_at rw1
    obtain ⟨l2, f2⟩ := reads_at rv1
    have lt0 : SeqAt.RcLt A.in1 s (.ref a1) (.ref b1) (cmps ws vs == .lt) := by
      have h := SeqAt.RcLt.tuples (A := A.in1) (s := s) (e := eF ws vs) (r := rF ws vs) tw tv (by show A.units + 1 < cLine; omega) (fun j h1 h2 => ?_) (fun j h1 h2 _ => ?_)
      · have s1 : w1.size = ws.length := by rw [← l1]; simp
        have s2 : w2.size = vs.length := by rw [← l2]; simp
        rw [s1, s2, firstLt_cmps] at h
        exact h
      · obtain ⟨f, as1, e1, q1⟩ := f1 j (by simpa using h1)
        obtain ⟨g, bs1, e2, q2⟩ := f2 j (by simpa using h2)
        have d1 := depth_mem e1
        have := SeqAt.eqAt_reads _ _ A.in1.in1 s _ _ _ _ q1 q2 (lay f) (lay g) (by show A.units + 1 + 1 + _ < cLine; omega)
        rw [eqv f g] at this
        have ef : eF ws vs j = (cmp f g == .eq) := by simp [eF, e1, e2]
        rw [ef]
        simpa using this
      · obtain ⟨f, as1, e1, q1⟩ := f1 j (by simpa using h1)
        obtain ⟨g, bs1, e2, q2⟩ := f2 j (by simpa using h2)
        have := rcLts ws vs (A := A.in1.in1) j e1 q1 q2 (by show A.units + 1 + 1 + _ < cLine; omega)
        have ef : rF ws vs j = lt f g := by simp [rF, e1, e2]
        rw [ef]
        simpa using this
    have h := SeqAt.RcLt.tuples (A := A) (s := s) (e := fun j => if j = 0 then (cmps ws vs == .eq) else ((n : Int) == (m : Int))) (r := fun j => if j = 0 then (cmps ws vs == .lt) else decide ((n : Int) < (m : Int))) t1 t2 (by omega) (fun j h1 h2 => ?_) (fun j h1 h2 _ => ?_)
    · have e : SeqAt.firstLt (fun j => if j = 0 then (cmps ws vs == .eq) else ((n : Int) == (m : Int))) (fun j => if j = 0 then (cmps ws vs == .lt) else decide ((n : Int) < (m : Int))) (decide (2 < 2)) [0, 1] = lt (mk ws n) (mk vs m) := by
        rw [SeqAt.firstLt.eq_2, SeqAt.firstLt.eq_2, SeqAt.firstLt.eq_1, lt, cmp, then_lt]
        have hnm : decide ((n : Int) < (m : Int)) = (compare n m == .lt) := by
          by_cases h : n < m
          · have h2 : compare n m = .lt := Nat.compare_eq_lt.mpr h
            have h3 : ((n : Int) < (m : Int)) := by omega
            simp [h2, h3]
          · have h2 : compare n m ≠ .lt := fun z => h (Nat.compare_eq_lt.mp z)
            have h3 : ¬ ((n : Int) < (m : Int)) := by omega
            simp [h2, h3]
        simp only [hnm, nat_ev]
        generalize cmps ws vs = c
        generalize compare n m = d
        cases c <;> cases d <;> rfl
      rw [← e]
      exact h
    · match j, h1, h2 with
      | 0, _, _ => exact eq0
      | 1, _, _ => exact SeqAt.EqAt.int_int _ _ _ _
      | j + 2, h1, _ => exact absurd h1 (by simp)
    · match j, h1, h2 with
      | 0, _, _ => exact lt0
      | 1, _, _ => exact rc_int _ _ _ _
      | j + 2, h1, _ => exact absurd h1 (by simp)
theorem rcLts : ∀ (fs gs : List Fc) {A : Around} {s : Shared} (j : Nat) {f g : Fc} {v u : Value} {as bs : List Addr}, fs[j]? = some f → Reads s.heap v (dat f) as → Reads s.heap u (dat g) bs → A.units + PyData.depthAll (dats fs) < cLine → SeqAt.RcLt A s v u (lt f g)
  | [], _, _, _, _, _, _, _, _, _, _, h, _, _, _ => by simp at h
  | f0 :: r, gs, A, s, 0, f, g, v, u, as, bs, h, rv, ru, hu => by
    have e : f0 = f := by simpa using h
    subst e
    rw [dats] at hu
    simp only [PyData.depthAll] at hu
    exact rcLt f0 g rv ru (by omega)
  | f0 :: r, gs, A, s, j + 1, f, g, v, u, as, bs, h, rv, ru, hu => by
    rw [dats] at hu
    simp only [PyData.depthAll] at hu
    exact rcLts r gs j (by simpa using h) rv ru (by omega)
end
theorem rcLtW {ws vs : List Fc} {A : Around} {s : Shared} {v u : Value} {as bs : List Addr} (r1 : Reads s.heap v (.tuple (dats ws)) as) (p1 : Reads s.heap u (.tuple (dats vs)) bs) (hu : A.units + (PyData.depthAll (dats ws) + 2) < cLine) : SeqAt.RcLt A s v u (cmps ws vs == .lt) := by
  obtain ⟨a1, w1, rfl, tw, rw1⟩ := tup_inv r1
  obtain ⟨b1, w2, rfl, tv, rv1⟩ := tup_inv p1
  obtain ⟨l1, f1⟩ := reads_at rw1
  obtain ⟨l2, f2⟩ := reads_at rv1
  have h := SeqAt.RcLt.tuples (A := A) (s := s) (e := eF ws vs) (r := rF ws vs) tw tv (by omega) (fun j h1 h2 => ?_) (fun j h1 h2 _ => ?_)
  · have s1 : w1.size = ws.length := by rw [← l1]; simp
    have s2 : w2.size = vs.length := by rw [← l2]; simp
    rw [s1, s2, firstLt_cmps] at h
    exact h
  · obtain ⟨f, as1, e1, q1⟩ := f1 j (by simpa using h1)
    obtain ⟨g, bs1, e2, q2⟩ := f2 j (by simpa using h2)
    have d1 := depth_mem e1
    have := SeqAt.eqAt_reads _ _ A.in1 s _ _ _ _ q1 q2 (lay f) (lay g) (by show A.units + 1 + _ < cLine; omega)
    rw [eqv f g] at this
    have ef : eF ws vs j = (cmp f g == .eq) := by simp [eF, e1, e2]
    rw [ef]
    simpa using this
  · obtain ⟨f, as1, e1, q1⟩ := f1 j (by simpa using h1)
    obtain ⟨g, bs1, e2, q2⟩ := f2 j (by simpa using h2)
    have := rcLts ws vs (A := A.in1) j e1 q1 q2 (by show A.units + 1 + _ < cLine; omega)
    have ef : rF ws vs j = lt f g := by simp [rF, e1, e2]
    rw [ef]
    simpa using this
mutual
theorem keeps {h h' : Heap} (k : ∀ (b : Addr) (o : Obj), o.cls = .type "tuple" → h.get? b = some o → h'.get? b = some o) : ∀ (f : Fc) {v : Value} {as : List Addr}, Reads h v (dat f) as → Reads h' v (dat f) as
  | mk ws n, v, as, r => by
    rw [dat] at r ⊢
    obtain ⟨a, ⟨il⟩, rfl, ⟨o, e1, e2, n1, e3⟩, ra⟩ := tup_inv r
    cases ra with
    | cons r1 r2 => cases r2 with
    | cons r3 r4 =>
      cases r4
      cases r3
      obtain ⟨a2, ⟨il2⟩, rfl, ⟨o2, g1, g2, n2, g3⟩, rb⟩ := tup_inv r1
      exact .tuple (k _ _ e2 e1) e2 e3 (.cons (.tuple (k _ _ g2 g1) g2 g3 (keepsAll k ws rb)) (.cons (.int _ _) .nil))
theorem keepsAll {h h' : Heap} (k : ∀ (b : Addr) (o : Obj), o.cls = .type "tuple" → h.get? b = some o → h'.get? b = some o) : ∀ (fs : List Fc) {vs : List Value} {as : List Addr}, ReadsAll h vs (dats fs) as → ReadsAll h' vs (dats fs) as
  | [], _, _, r => by rw [dats] at r ⊢; cases r; exact .nil
  | f :: t, _, _, r => by
    rw [dats] at r ⊢
    cases r with
    | cons r1 r2 => exact .cons (keeps k f r1) (keepsAll k t r2)
end
theorem nat_ltv (n m : Nat) : decide ((n : Int) < (m : Int)) = (compare n m == .lt) := by
  by_cases h : n < m
  · have h2 : compare n m = .lt := Nat.compare_eq_lt.mpr h
    have h3 : ((n : Int) < (m : Int)) := by omega
    simp [h2, h3]
  · have h2 : compare n m ≠ .lt := fun z => h (Nat.compare_eq_lt.mp z)
    have h3 : ¬ ((n : Int) < (m : Int)) := by omega
    simp [h2, h3]
theorem cmp_self (f : Fc) : cmp f f = .eq := (cmp_eq f f).mpr rfl
theorem dat_inj {f g : Fc} (h : dat f = dat g) : f = g := by
  have a := eqv f g
  have b := eqv f f
  rw [cmp_self] at b
  rw [← h, b] at a
  exact (cmp_eq f g).mp (by simpa using a.symm)
open Classical in
noncomputable def kOf (h : Heap) (v : Value) : Fc := if e : ∃ f as, Reads h v (dat f) as then e.choose else .mk [] 0
theorem kOf_eq {h : Heap} {v : Value} {f : Fc} {as : List Addr} (r : Reads h v (dat f) as) : kOf h v = f := by
  have e : ∃ f as, Reads h v (dat f) as := ⟨f, as, r⟩
  unfold kOf
  rw [dif_pos e]
  obtain ⟨bs, q⟩ := e.choose_spec
  exact dat_inj (SeqAt.Reads.unique _ _ _ _ _ (lay _) q r)
theorem firsts {h : Heap} : ∀ {vs : List Value}, (∀ v ∈ vs, ∃ f as, Reads h v (dat f) as) → ∃ fs, PySem.W.KatTups h vs fs ∧ fs.length = vs.length ∧ ∀ f ∈ fs, ∃ a o, f = Value.ref a ∧ h.get? a = some o ∧ o.cls = .type "tuple"
  | [], _ => ⟨[], by simp only [PySem.W.KatTups], rfl, fun f hf => absurd hf List.not_mem_nil⟩
  | v :: r, hv => by
    obtain ⟨fs, h1, h2, h3⟩ := firsts (vs := r) fun x hx => hv x (List.mem_cons_of_mem _ hx)
    obtain ⟨f, as, rf⟩ := hv v List.mem_cons_self
    obtain ⟨ws, n⟩ := f
    rw [dat] at rf
    obtain ⟨a, ⟨il⟩, rfl, ⟨o, e1, e2, n1, e3⟩, ra⟩ := tup_inv rf
    cases ra with
    | cons r1 r2 =>
      obtain ⟨a2, ⟨il2⟩, rfl, ⟨o2, g1, g2, n2, g3⟩, rb⟩ := tup_inv r1
      refine ⟨.ref a2 :: fs, by simp only [PySem.W.KatTups]; exact ⟨⟨a, o, _, _, rfl, e1, e2, e3, rfl⟩, h1⟩, by simp [h2], fun f hf => ?_⟩
      rcases List.mem_cons.mp hf with rfl | hf
      · exact ⟨a2, o2, rfl, g1, g2⟩
      · exact h3 f hf
theorem cmp_sort {prog : Program} {w : World} {A : Around} {s : Shared} {vs : List Value} {k : Value → Fc} (hp : ∀ v ∈ vs, ∃ as, Reads s.heap v (dat (k v)) as ∧ A.units + ((dat (k v)).depth + 2) < cLine) :
    SrtO.Cmp prog w A s (tuples' false) (fun p => p.fst ∈ vs) (SrtO.lt2 fun v u => lt (k v) (k u)) := by
  intro p q hm hm'
  obtain ⟨as, rf, hu⟩ := hp p.fst hm
  obtain ⟨bs, rg, _⟩ := hp q.fst hm'
  show wpAny (model prog w) A (keyLt' (tuples' false) p.fst q.fst) (fun r s' => s' = s ∧ r = lt (k p.fst) (k q.fst)) (fun x x_1 => False) s
  generalize k p.fst = f at rf hu ⊢
  generalize k q.fst = g at rg ⊢
  obtain ⟨ws, n⟩ := f
  obtain ⟨us, m⟩ := g
  rw [dat] at rf rg hu
  simp only [PyData.depth, PyData.depthAll] at hu
  obtain ⟨a, ⟨il⟩, e0, ⟨o, e1, e2, n1, e3⟩, ra⟩ := tup_inv rf
  obtain ⟨b, ⟨il2⟩, g0, ⟨o2, g1, g2, n2, g3⟩, rb⟩ := tup_inv rg
  rw [e0, g0]
  cases ra with
  | cons r1 r2 => cases r2 with
  | cons r3 r4 =>
    cases r4
    cases r3
    cases rb with
    | cons p1 p2 => cases p2 with
    | cons p3 p4 =>
      cases p4
      cases p3
      have eq0 := SeqAt.eqAt_reads _ _ A s _ _ _ _ r1 p1 (by simpa [PyData.canLay0] using lays ws) (by simpa [PyData.canLay0] using lays us) (by simp only [PyData.depth]; omega)
      rw [ev_tup, eqvs] at eq0
      have lt0 := rcLtW (A := A) r1 p1 (by omega)
      have val : lt (mk ws n) (mk us m) = (if (cmps ws us == .eq) = true then (compare n m == .lt) else (cmps ws us == .lt)) := by rw [lt, cmp, then_lt]
      refine PySem.W.kat_lt e1 e3 g1 g3 (PySem.W.kat_cons (eq0 prog w _ _ (PySem.W.kat_go (fun c1 => PySem.W.kat_yes (PySem.W.kat_cons (SeqAt.EqAt.int_int _ _ _ _ prog w _ _ (PySem.W.kat_go (fun c2 => PySem.W.kat_yes (PySem.W.kat_nil ⟨rfl, ?_⟩)) fun c2 => PySem.W.kat_no (PySem.W.kat_one _ _ (lt_int ⟨rfl, ?_⟩)))))) fun c1 => PySem.W.kat_no (PySem.W.kat_one _ _ (lt0 prog w _ _ ⟨rfl, ?_⟩)))))
      · rw [val, if_pos c1]
        have : n = m := by have := eq_of_beq c2; omega
        subst this; simp
      · rw [val, if_pos c1]; exact nat_ltv n m
      · rw [val, c1]; rfl
theorem sortable {prog : Program} {w : World} {A : Around} {s : Shared} {a : Addr} {vs : List Value} {k : Value → Fc} (h0 : 0 < vs.length) (hp : ∀ v ∈ vs, ∃ as, Reads s.heap v (dat (k v)) as ∧ A.units + ((dat (k v)).depth + 2) < cLine)
    (ha : ∀ o : Obj, s.heap.get? a = some o → o.cls ≠ .type "tuple") : SrtO.SortableO prog w A s a vs (fun v u => lt (k v) (k u)) := by
  intro h' keep
  have kp : ∀ (b : Addr) (o : Obj), o.cls = .type "tuple" → s.heap.get? b = some o → h'.get? b = some o := fun b o c e => keep b o (fun z => by subst z; exact ha o e c) e
  have hp' : ∀ v ∈ vs, ∃ as, Reads h' v (dat (k v)) as ∧ A.units + ((dat (k v)).depth + 2) < cLine := fun v hv => by
    obtain ⟨as, r, u⟩ := hp v hv
    exact ⟨as, keeps kp _ r, u⟩
  obtain ⟨fs, h1, h2, h3⟩ := firsts (h := h') (vs := vs) fun v hv => by
    obtain ⟨as, r, _⟩ := hp' v hv
    exact ⟨_, as, r⟩
  refine ⟨tuples' false, fun Q E hq => PySem.W.kat_kind (T := .type "tuple") h1 (by omega) (fun f hf => ?_) (by decide) ?_, cmp_sort (s := { heap := h', gens := s.gens, drawn := s.drawn, toks := s.toks, os := s.os }) hp'⟩
  · obtain ⟨b, o, rfl, e1, e2⟩ := h3 f hf
    exact fun A Q E s k q => wpAny_typeOf_ref (k b o e1) (by rw [e2]; exact q)
  · have e : ((Value.type "tuple" : Value) != .type "tuple") = false := by decide
    rw [e]; exact hq
theorem sorted_fc {prog : Program} {w : World} {A : Around} {E : Value → Shared → Prop} {s : Shared} {l : Addr} {vs : List Value} {k : Value → Fc} {Q : Value → Shared → Prop} (hl : s.heap.IsList l vs.toArray) (hz : vs.length ≤ sizeLine)
    (hp : ∀ v ∈ vs, ∃ as, Reads s.heap v (dat (k v)) as ∧ A.units + ((dat (k v)).depth + 4) < cLine)
    (h : ∀ (h' : Heap) (d : Addr) (out : List Value), SrtO.Srtd (fun v u => lt (k v) (k u)) out → out.Perm vs → (∀ (b : Addr) (o : Obj), s.heap.get? b = some o → h'.get? b = some o) → s.heap.objs.size ≤ d → (∃ n, h'.get? d = some (seqObj "list" out.toArray n)) →
      Q (.ref d) { heap := h', gens := s.gens, drawn := s.drawn, toks := s.toks, os := s.os }) :
    wpAny (model prog w) A (call (.builtin "sorted") [.ref l]) Q E s := by
  refine SrtO.sorted_ord (ltv := fun v u => lt (k v) (k u)) ⟨fun x y => swo.asym _ _, fun x y z => swo.tr _ _ _⟩ hl hz (fun h2 h₁ a ha kk => ?_) fun out hs hb => ?_
  · refine sortable (s := { heap := h₁, gens := s.gens, drawn := s.drawn, toks := s.toks, os := s.os }) (by omega) (fun v hv => ?_) fun o e => ?_
    · obtain ⟨as, r, u⟩ := hp v hv
      exact ⟨as, keeps (fun b o _ e => (kk b o e).2) _ r, by show A.units + 1 + 1 + _ < cLine; omega⟩
    · have e2 := ha.symm.trans e
      cases e2
      intro z
      exact absurd (Value.type.inj z) (by decide)
  · obtain ⟨n, e⟩ := sortedAll_at s.heap vs out.toArray
    exact h _ _ out hs hb.perm (fun b o e => sortedAll_old e) (Nat.le_succ _) ⟨n, e⟩
/-! ## the one sorted list -/
def ins (f : Fc) : List Fc → List Fc
  | [] => [f]
  | g :: r => if lt g f = true then g :: ins f r else f :: g :: r
def srt : List Fc → List Fc
  | [] => []
  | f :: r => ins f (srt r)
theorem ins_perm (f : Fc) : ∀ l : List Fc, (ins f l).Perm (f :: l)
  | [] => .refl _
  | g :: r => by
    unfold ins
    split
    · exact ((ins_perm f r).cons g).trans (.swap f g r)
    · exact .refl _
theorem srt_perm : ∀ l : List Fc, (srt l).Perm l
  | [] => .refl _
  | f :: r => (ins_perm f (srt r)).trans ((srt_perm r).cons f)
abbrev Ord (l : List Fc) : Prop := l.Pairwise fun x y => lt y x = false
theorem ins_ord (f : Fc) : ∀ l : List Fc, Ord l → Ord (ins f l)
  | [], _ => List.pairwise_singleton _ _
  | g :: r, h => by
    have h' := List.pairwise_cons.mp h
    unfold ins
    split
    · rename_i c
      refine List.pairwise_cons.mpr ⟨fun x hx => ?_, ins_ord f r h'.2⟩
      rcases List.mem_cons.mp ((ins_perm f r).mem_iff.mp hx) with rfl | hx
      · exact swo.asym _ _ c
      · exact h'.1 x hx
    · rename_i c
      have c' : lt g f = false := Bool.eq_false_iff.mpr c
      refine List.pairwise_cons.mpr ⟨fun x hx => ?_, h⟩
      rcases List.mem_cons.mp hx with rfl | hx
      · exact c'
      · exact swo.tr _ _ _ c' (h'.1 x hx)
theorem srt_ord : ∀ l : List Fc, Ord (srt l)
  | [] => List.Pairwise.nil
  | f :: r => ins_ord f _ (srt_ord r)
theorem anti {a b : Fc} (h1 : lt a b = false) (h2 : lt b a = false) : a = b := by
  have h1' : cmp a b ≠ .lt := by simpa [lt] using h1
  have h2' : cmp b a ≠ .lt := by simpa [lt] using h2
  cases e : cmp a b with
  | lt => exact absurd e h1'
  | eq => exact (cmp_eq a b).mp e
  | gt => exact absurd (by rw [cmp_swap a b, e]; rfl) h2'
theorem ord_one : ∀ l m : List Fc, Ord l → Ord m → l.Perm m → l = m
  | [], m, _, _, p => p.nil_eq
  | a :: r, [], _, _, p => absurd p.length_eq (by simp)
  | a :: r, b :: t, h1, h2, p => by
    have g1 := List.pairwise_cons.mp h1
    have g2 := List.pairwise_cons.mp h2
    have e : a = b := by
      have ma : a ∈ b :: t := p.mem_iff.mp List.mem_cons_self
      have mb : b ∈ a :: r := p.mem_iff.mpr List.mem_cons_self
      rcases List.mem_cons.mp ma with h | h
      · exact h
      · rcases List.mem_cons.mp mb with k | k
        · exact k.symm
        · exact anti (g2.1 a h) (g1.1 b k)
    subst e
    rw [ord_one r t g1.2 g2.2 (p.cons_inv)]
/-! ## sorted of factors -/
theorem map_k {h : Heap} : ∀ {vs : List Value} {fs : List Fc} {as : List Addr}, ReadsAll h vs (dats fs) as → vs.map (kOf h) = fs
  | _, [], _, r => by rw [dats] at r; cases r; rfl
  | _, f :: t, _, r => by
    rw [dats] at r
    cases r with
    | cons r1 r2 => rw [List.map_cons, kOf_eq r1, map_k r2]
theorem dq_each {K : PySem.W.Frag} {H : Hp} (f : Value → V) (g : Value → Fc) : ∀ {l : List Value}, DqAll K H (l.map f) (dats (l.map g)) → ∀ v ∈ l, Dq K H (f v) (dat (g v))
  | [], _, v, hv => absurd hv List.not_mem_nil
  | x :: r, h, v, hv => by
    rw [List.map_cons, List.map_cons, dats] at h
    cases h with
    | cons a b =>
      rcases List.mem_cons.mp hv with rfl | hv
      · exact a
      · exact dq_each f g b v hv
theorem dq_all {K : PySem.W.Frag} {H : Hp} (f : Value → V) (g : Value → Fc) : ∀ {l : List Value}, (∀ v ∈ l, Dq K H (f v) (dat (g v))) → DqAll K H (l.map f) (dats (l.map g))
  | [], _ => by rw [List.map_nil, List.map_nil, dats]; exact .nil
  | x :: r, h => by
    rw [List.map_cons, List.map_cons, dats]
    exact .cons (h x List.mem_cons_self) (dq_all f g fun v hv => h v (List.mem_cons_of_mem _ hv))
theorem dq_ref {K : PySem.W.Frag} {H : Hp} {v : V} {f : Fc} (h : Dq K H v (dat f)) : ∃ a, v = .ref a := by
  obtain ⟨ws, n⟩ := f
  rw [dat] at h
  cases h
  exact ⟨_, rfl⟩
theorem dq_refs {K : PySem.W.Frag} {H : Hp} : ∀ {xs : List V} {fs : List Fc}, DqAll K H xs (dats fs) → ∀ x ∈ xs, ∃ a, x = .ref a
  | _, [], h, x, hx => by rw [dats] at h; cases h; exact absurd hx List.not_mem_nil
  | _, f :: r, h, x, hx => by
    rw [dats] at h
    cases h with
    | cons a b =>
      rcases List.mem_cons.mp hx with rfl | hx
      · exact dq_ref a
      · exact dq_refs b x hx
end Fc
def rSortF (K : PySem.W.Frag) : List V → Hp → VK → Prop := fun vs H Q => ∃ a xs fs, vs = [.ref a] ∧ SqL K H a xs ∧ DqAll K H xs (Fc.dats fs) ∧ PyData.depthAll (Fc.dats fs) ≤ 180 ∧
  ∀ ys p, DqAll K H ys (Fc.dats (Fc.srt fs)) → H p = none → Q (.ref p) (upd H p (.lst ys))
theorem call_sortF {X : Cx} (hu : X.A.units + 200 < cLine) : CallR X (.builtin "sorted") (rSortF X.K) := by
  rintro pins s σ H vs us Q I r ⟨a, xs, fs, rfl, hs, hd, hdep, q⟩
  obtain ⟨its, rv, hl, hz⟩ := I.list hs
  cases r with
  | cons r1 r2 =>
    cases r2
    cases r1
    obtain ⟨as, ra, _⟩ := DqAll.reads I hd rv
    obtain ⟨e1, e2⟩ := L2.refs_back rv (Fc.dq_refs hd)
    have hk := Fc.map_k ra
    obtain ⟨hlen, hat⟩ := Fc.reads_at ra
    have hd' : DqAll X.K H (its.map L2.backV) (Fc.dats (its.map (Fc.kOf s.heap))) := by rw [← e1, hk]; exact hd
    have each := Fc.dq_each _ _ hd'
    refine Fc.sorted_fc (k := Fc.kOf s.heap) (PlainL.isList hl) (by rw [← rv.length]; exact hz) (fun v hv => ?_) fun h' d out ho hp kp hsz hn => ?_
    · obtain ⟨j, hj, rfl⟩ := List.getElem_of_mem hv
      obtain ⟨f, bs, ef, rf⟩ := hat j hj
      rw [Fc.kOf_eq rf]
      have := Fc.depth_mem ef
      exact ⟨bs, rf, by omega⟩
    · obtain ⟨n, hn⟩ := hn
      have h3 : ∀ u ∈ out, ∃ a, u = Value.ref a := fun u hu => e2 u (hp.mem_iff.mp hu)
      have es : out.map (Fc.kOf s.heap) = Fc.srt fs := by
        refine Fc.ord_one _ _ (List.pairwise_map.mpr ho) (Fc.srt_ord _) ?_
        have p1 := hp.map (Fc.kOf s.heap)
        rw [hk] at p1
        exact p1.trans (Fc.srt_perm fs).symm
      refine ⟨.ref d, upd H d (.lst (out.map L2.backV)), I.laid kp hsz ⟨?_, out, n, L2.vals_back h3, hn⟩, rfl, q _ d ?_ (HOk.fresh I.hok hsz)⟩
      · rw [List.length_map, hp.length_eq, ← rv.length]; exact hz
      · rw [← es]
        exact Fc.dq_all _ _ fun v hv => each v (hp.mem_iff.mp hv)
end KB
namespace KB
open PySem L2
/-! ## the factors of a kind -/
namespace Fc
theorem srt_congr {l m : List Fc} (p : l.Perm m) : srt l = srt m := ord_one _ _ (srt_ord l) (srt_ord m) ((srt_perm l).trans (p.trans (srt_perm m).symm))
mutual
theorem pure_dat : ∀ f : Fc, pureT (dat f) = true
  | mk ws n => by simp [dat, pureT, pureTs, pure_dats ws]
theorem pure_dats : ∀ l : List Fc, pureTs (dats l) = true
  | [] => by simp [dats, pureTs]
  | f :: r => by simp [dats, pureTs, pure_dat f, pure_dats r]
end
theorem dats_append : ∀ a b : List Fc, dats (a ++ b) = dats a ++ dats b
  | [], b => by rw [dats]; rfl
  | f :: r, b => by rw [List.cons_append, dats, dats_append r b, dats]; rfl
theorem depth_le {B : Nat} : ∀ {l : List Fc}, (∀ f ∈ l, (dat f).depth ≤ B) → PyData.depthAll (dats l) ≤ B
  | [], _ => by rw [dats]; simp [PyData.depthAll]
  | f :: r, h => by
    rw [dats]
    simp only [PyData.depthAll]
    have a := h f List.mem_cons_self
    have b := depth_le (l := r) fun g hg => h g (List.mem_cons_of_mem _ hg)
    omega
theorem depth_of {l : List Fc} {f : Fc} (h : f ∈ l) : (dat f).depth ≤ PyData.depthAll (dats l) := by
  obtain ⟨j, hj, e⟩ := List.getElem_of_mem h
  exact depth_mem (j := j) (by rw [List.getElem?_eq_getElem hj, e])
theorem depth_perm {l m : List Fc} (p : l.Perm m) : PyData.depthAll (dats l) = PyData.depthAll (dats m) :=
  Nat.le_antisymm (depth_le fun f hf => depth_of (p.mem_iff.mp hf)) (depth_le fun f hf => depth_of (p.mem_iff.mpr hf))
theorem depth_srt (l : List Fc) : PyData.depthAll (dats (srt l)) = PyData.depthAll (dats l) := depth_perm (srt_perm l)
theorem depth_append (a b : List Fc) : PyData.depthAll (dats (a ++ b)) = max (PyData.depthAll (dats a)) (PyData.depthAll (dats b)) := by
  refine Nat.le_antisymm (depth_le fun f hf => ?_) (Nat.max_le.mpr ⟨depth_le fun f hf => depth_of (List.mem_append.mpr (.inl hf)), depth_le fun f hf => depth_of (List.mem_append.mpr (.inr hf))⟩)
  rcases List.mem_append.mp hf with h | h
  · have := depth_of h; omega
  · have := depth_of h; omega
end Fc
/-- the factors of a kind, each wanting W besides, in no order -/
def Kd.fac : Kd → List Fc → List Fc
  | .b n, W => [.mk W n]
  | .u, _ => []
  | .p x y, W => x.fac W ++ y.fac W
  | .f x y, W => y.fac (Fc.srt (W ++ Fc.srt (x.fac [])))
def Kd.form (k : Kd) : List Fc := Fc.srt (k.fac [])
/-- how far functions are handed to functions -/
def Kd.rk : Kd → Nat
  | .b _ => 0
  | .u => 0
  | .p x y => max x.rk y.rk
  | .f x y => max (x.rk + 1) y.rk
theorem Kd.fac_depth : ∀ (k : Kd) (W : List Fc), PyData.depthAll (Fc.dats (k.fac W)) ≤ 2 + max (PyData.depthAll (Fc.dats W)) (2 * k.rk)
  | .b n, W => by
    rw [Kd.fac, Fc.dats, Fc.dats, Fc.dat]
    simp only [PyData.depthAll, PyData.depth]
    omega
  | .u, W => by rw [Kd.fac, Fc.dats]; simp [PyData.depthAll]
  | .p x y, W => by
    have a := Kd.fac_depth x W
    have b := Kd.fac_depth y W
    rw [Kd.fac, Fc.depth_append, Kd.rk]
    omega
  | .f x y, W => by
    have a := Kd.fac_depth x []
    have b := Kd.fac_depth y (Fc.srt (W ++ Fc.srt (x.fac [])))
    rw [Fc.depth_srt, Fc.depth_append, Fc.depth_srt] at b
    rw [Fc.dats] at a
    simp only [PyData.depthAll] at a
    rw [Kd.fac, Kd.rk]
    omega
theorem Kd.fac_length : ∀ (k : Kd) (W : List Fc), (k.fac W).length ≤ k.leaves
  | .b n, W => by rw [Kd.fac]; simp [Kd.leaves]
  | .u, W => by rw [Kd.fac]; simp
  | .p x y, W => by have := Kd.fac_length x W; have := Kd.fac_length y W; rw [Kd.fac, List.length_append, Kd.leaves]; omega
  | .f x y, W => by have := Kd.fac_length y (Fc.srt (W ++ Fc.srt (x.fac []))); rw [Kd.fac, Kd.leaves]; omega
theorem Fc.srt_length (l : List Fc) : (Fc.srt l).length = l.length := (Fc.srt_perm l).length_eq
theorem Kd.form_length (k : Kd) : k.form.length ≤ k.leaves := by rw [Kd.form, Fc.srt_length]; exact k.fac_length []
theorem Kd.form_depth (k : Kd) : PyData.depthAll (Fc.dats k.form) ≤ 2 + 2 * k.rk := by
  have := k.fac_depth []
  rw [Kd.form, Fc.depth_srt]
  simp only [Fc.dats, PyData.depthAll] at this
  omega
/-! ## the kind of factors -/
end KB
namespace KB
open PySem L2
/-! ## forms by their parts; what keeps them -/
/-! ## the numbers in factors; bases -/
namespace Fc
mutual
def num : Fc → List Nat
  | mk ws n => n :: nums ws
def nums : List Fc → List Nat
  | [] => []
  | f :: r => num f ++ nums r
end
end Fc
end KB
namespace KB
open PySem PySem.Spec PyProof.Rows L2
/-! ## sorted of a tuple of factors -/
/-! ## rows of a form: it, and what each factor wants, and so on -/
def Fc.ws : Fc → List Fc
  | .mk ws _ => ws
def Fc.n : Fc → Nat
  | .mk _ n => n
mutual
def Fc.rowsF : Fc → List (List Fc)
  | .mk ws _ => ws :: Fc.rowsW ws
def Fc.rowsW : List Fc → List (List Fc)
  | [] => []
  | f :: r => Fc.rowsF f ++ Fc.rowsW r
end
def Fc.rows (l : List Fc) : List (List Fc) := l :: Fc.rowsW l
/-! ## how much there is of a form -/
end KB
namespace KB
open PySem PySem.Spec PyProof.Rows L2
/-- what follows is asked by a name of one's own -/
theorem pss_gen {X : Cx} {S : List Stmt} {t I : TS} (h : PSs X S t) (w : ∀ (D : Ends) (σ : L2.St) (H : Hp), I D σ H → t D σ H) : PSs X S I :=
  ⟨fun pins s σ H D J i => h.run pins s σ H D J (w D σ H i)⟩
end KB
namespace KB
open PySem L2
/-! ## how wide and deep the kind of a form is -/
end KB
namespace KB
open PySem PySem.Spec PyProof.Rows L2
/-! ## kinds so deep; the kind of a form has this form -/
theorem Kd.rk_deep : ∀ k : Kd, k.rk + 1 ≤ k.deep
  | .b _ => by simp [Kd.rk, Kd.deep]
  | .u => by simp [Kd.rk, Kd.deep]
  | .p x y => by have := Kd.rk_deep x; have := Kd.rk_deep y; simp only [Kd.rk, Kd.deep]; omega
  | .f x y => by have := Kd.rk_deep x; have := Kd.rk_deep y; simp only [Kd.rk, Kd.deep]; omega
/-! ## what is read stays, but for tables of code -/
def notab (H : Hp) : Hp := fun b => match H b with | some (.tbl _) => none | o => o
theorem notab_sub (H : Hp) : Same (notab H) H := fun b o e => by
  unfold notab at e
  split at e
  · cases e
  · exact e
theorem notab_at {H : Hp} {b : Addr} {o : HO} (h : H b = some o) (n : ∀ ps, o ≠ .tbl ps) : notab H b = some o := by
  unfold notab
  rw [h]
  split
  · rename_i e
    exact absurd (Option.some.inj e) (n _)
  · rfl
theorem notab_ext {H H' : Hp} (e : LamX.ExtN H H') : Same (notab H) (notab H') := fun b o h => by
  have n : ∀ ps, o ≠ .tbl ps := fun ps z => by
    unfold notab at h
    split at h
    · cases h
    · rename_i hx; exact hx ps (by rw [h, z])
  exact notab_at (e b o (notab_sub H b o h) n) n
theorem notab_seq {K : PySem.W.Frag} {H : Hp} {a : Addr} {xs : List V} (h : SqL K H a xs) : SqL K (notab H) a xs := by
  rcases h with (h | ⟨o, h⟩) | h
  · exact .inl (.inl (notab_at h fun _ z => by cases z))
  · exact .inl (.inr ⟨o, notab_at h fun _ z => by cases z⟩)
  · exact .inr h
theorem notab_tup {K : PySem.W.Frag} {H : Hp} {a : Addr} {xs : List V} (h : SqT K H a xs) : SqT K (notab H) a xs := by
  rcases h with (h | ⟨o, h⟩) | h
  · exact .inl (.inl (notab_at h fun _ z => by cases z))
  · exact .inl (.inr ⟨o, notab_at h fun _ z => by cases z⟩)
  · exact .inr h
mutual
theorem Dq.notab {K : PySem.W.Frag} {H : Hp} : ∀ {d : PyData} {v : V}, Dq K H v d → Dq K (KB.notab H) v d
  | _, _, .non => .non
  | _, _, .bl b => .bl b
  | _, _, .int i => .int i
  | _, _, .str x => .str x
  | _, _, .lst h a => .lst (notab_seq h) (DqAll.notab a)
  | _, _, .tup h a => .tup (notab_tup h) (DqAll.notab a)
  | _, _, .dct h => .dct (notab_at h fun _ z => by cases z)
theorem DqAll.notab {K : PySem.W.Frag} {H : Hp} : ∀ {ds : List PyData} {vs : List V}, DqAll K H vs ds → DqAll K (KB.notab H) vs ds
  | _, _, .nil => .nil
  | _, _, .cons h a => .cons (Dq.notab h) (DqAll.notab a)
end
theorem Dq.extN {K : PySem.W.Frag} {H H' : Hp} {d : PyData} {v : V} (e : LamX.ExtN H H') (h : Dq K H v d) : Dq K H' v d := (h.notab.same (notab_ext e)).same (notab_sub H')
theorem seq_extN {K : PySem.W.Frag} {H H' : Hp} {a : Addr} {xs : List V} (e : LamX.ExtN H H') (h : SqL K H a xs) : SqL K H' a xs := L2.Same.seq (notab_sub H') (L2.Same.seq (notab_ext e) (notab_seq h))
end KB
namespace KB
open PySem PySem.Spec PyProof.Rows L2
/-! ## which of two tuples is greater -/
namespace Fc
def gt (a b : Fc) : Bool := cmp a b == .gt
end Fc
end KB
namespace KB
open PySem PySem.Spec L2
/-! ## data read as factors -/
/-! ## what the law takes for a form -/
end KB
/-! B18: refusals held as values: made, isinstance of them, their fields. -/
namespace KB
open PySem PySem.Spec PySem.Calls PyProof.Rows L2
end KB
/-! B19: a refusal made of its field by name. -/
namespace PySem
end PySem
/-! B20: the class above is asked for its __init__; a refusal made of its field by name, held. -/
namespace KB
open PySem PySem.Spec PySem.Calls PyProof.Rows L2
end KB
/-! B21: truths of a list counted. -/
namespace KB
open PySem PySem.Spec PyProof.Rows L2 PySem.SeqAt
end KB
/-! B22: kinds by sizes: their numbers, and the objects that hold them. -/
namespace KB
open PySem PySem.Spec PyProof.Rows L2
/-- the least number that is too great -/
def tooGreat : Nat := 10 ^ 40
/-- n to the power of t, or what is too great -/
def pw (n t : Nat) : Nat := min (n ^ t) tooGreat
namespace Kd
/-- how many worths, or what is too great -/
def num (s : Nat → Nat) : Kd → Nat
  | b i => s i
  | u => 1
  | p x y => min (x.num s * y.num s) tooGreat
  | f x y => pw (y.num s) (x.num s)
/-- the most that a function in it takes -/
def took (s : Nat → Nat) : Kd → Nat
  | b _ => 0
  | u => 0
  | p x y => max (x.took s) (y.took s)
  | f x y => max (max (x.took s) (y.took s)) (x.num s)
end Kd
/-- the fields of such an object in the order in which they are set -/
def szF (wd : Str) (o t : V) (m k : Nat) : List (Str × V) := [("word", .str wd), ("one", o), ("other", t), ("many", .int m), ("most_taken", .int k)]
/-- at a: an object of the class C with these fields -/
def SzO (H : Hp) (C a : Addr) (wd : Str) (o t : V) (m k : Nat) : Prop := ∃ dx, H a = some (.ins C dx (szF wd o t m k))
/-- v is the kind by sizes -/
def Szd (C : Addr) (s : Nat → Nat) (H : Hp) : Kd → V → Prop
  | .b i, v => ∃ a, v = .ref a ∧ SzO H C a "base" .non .non (s i) 0
  | .u, v => ∃ a, v = .ref a ∧ SzO H C a "unit" .non .non 1 0
  | .p x y, v => ∃ a o t, v = .ref a ∧ SzO H C a "both" o t ((Kd.p x y).num s) ((Kd.p x y).took s) ∧ Szd C s H x o ∧ Szd C s H y t
  | .f x y, v => ∃ a o t, v = .ref a ∧ SzO H C a "from" o t ((Kd.f x y).num s) ((Kd.f x y).took s) ∧ Szd C s H x o ∧ Szd C s H y t
theorem Szd.same {C : Addr} {s : Nat → Nat} {H H' : Hp} (e : Same H H') : ∀ {k : Kd} {v : V}, Szd C s H k v → Szd C s H' k v
  | .b _, _, ⟨a, h, dx, g⟩ => ⟨a, h, dx, e _ _ g⟩
  | .u, _, ⟨a, h, dx, g⟩ => ⟨a, h, dx, e _ _ g⟩
  | .p _ _, _, ⟨a, o, t, h, ⟨dx, g⟩, h1, h2⟩ => ⟨a, o, t, h, ⟨dx, e _ _ g⟩, Szd.same e h1, Szd.same e h2⟩
  | .f _ _, _, ⟨a, o, t, h, ⟨dx, g⟩, h1, h2⟩ => ⟨a, o, t, h, ⟨dx, e _ _ g⟩, Szd.same e h1, Szd.same e h2⟩
/-- what each of them has: its word, its number, the most taken -/
theorem Szd.obj {C : Addr} {s : Nat → Nat} {H : Hp} {k : Kd} {v : V} (h : Szd C s H k v) : ∃ a wd o t, v = .ref a ∧ SzO H C a wd o t (k.num s) (k.took s) := by
  cases k with
  | b i => obtain ⟨a, e, g⟩ := h; exact ⟨a, _, _, _, e, g⟩
  | u => obtain ⟨a, e, g⟩ := h; exact ⟨a, _, _, _, e, g⟩
  | p x y => obtain ⟨a, o, t, e, g, _⟩ := h; exact ⟨a, _, o, t, e, g⟩
  | f x y => obtain ⟨a, o, t, e, g, _⟩ := h; exact ⟨a, _, o, t, e, g⟩
end KB
/-! B23: a whole number that stands in the module. -/
namespace KB
open PySem PySem.Spec PyProof.Rows L2
end KB
/-! B24: the worths of a kind by sizes, in order. -/
namespace KB
open PySem PySem.Spec PyProof.Rows L2
end KB
/-! B25: all(test for x in list); what is known at the end of the tables of several defs. -/
namespace KB
open PySem PySem.Spec PyProof.Rows L2
/-! ## the end where defs of the module hold generator expressions -/
end KB
/-! B26: () + t; t * n for any n from 1 on; list(range(n)). -/
namespace KB
open PySem PySem.Spec PyProof.Rows L2
section
variable {X : Cx}
/-- () + t is t -/
def rCatT0 (K : PySem.W.Frag) : R2 := fun x y H Q => ∃ a b ys, x = .ref a ∧ y = .ref b ∧ SqT K H a [] ∧ SqT K H b ys ∧ Q (.ref b) H
theorem op_catT0 : OpR X (binaryOp .Add) (rCatT0 X.K) := by
  intro pins s σ H x y v u Q I rx ry h
  obtain ⟨a, b, ys, rfl, rfl, ha, hb, q⟩ := h
  cases rx
  cases ry
  obtain ⟨its, r1, p1, _⟩ := I.tuple ha
  obtain ⟨its2, r2, p2, _⟩ := I.tuple hb
  cases r1
  obtain ⟨⟨cls, dd, data, sl⟩, ho, hc, n, hd⟩ := id p1
  obtain ⟨⟨cls2, dd2, data2, sl2⟩, ho2, hc2, n2, hd2⟩ := id p2
  simp only at hc hd hc2 hd2
  subst hc hd hc2 hd2
  exact concat_meets ⟨_, ho, rfl⟩ ⟨_, ho2, rfl⟩ noFill_tuple_add seq_tuple_add PySem.F.slot_tuple_add PySem.F.entry_tuple_add (PySem.F.args_tuple_add_2 _ _)
      (tuple_addW0 a b (List.toArray []) its2.toArray n n2 dd dd2 sl sl2 rfl) ⟨ho, ho2, ⟨.ref b, H, I, rfl, q⟩⟩
def rAddB (K : PySem.W.Frag) : R2 := fun x y H Q => rAddA K x y H Q ∨ rCatT0 K x y H Q
theorem op_addB : OpR X (binaryOp .Add) (rAddB X.K) := op_addA.or op_catT0
end
end KB
/-! B27: sizes as data; what stays where tables of code grow; comprehensions with two walks. -/
namespace KB
open PySem PySem.Spec PyProof.Rows L2
/-! ## sizes -/
theorem DqAll.get {K : PySem.W.Frag} {H : Hp} : ∀ {ds : List PyData} {vs : List V} {i : Nat} {v : V}, DqAll K H vs ds → vs[i]? = some v → ∃ d, ds[i]? = some d ∧ Dq K H v d
  | _, _, i, v, .nil, h => by rw [List.getElem?_nil] at h; cases h
  | _, _, 0, v, .cons (d := d) hd t, h => by
    have e := Option.some.inj h
    exact ⟨d, rfl, e ▸ hd⟩
  | _, _, i + 1, v, .cons hd t, h => DqAll.get (i := i) t h
theorem DqAll.getD {K : PySem.W.Frag} {H : Hp} {ds : List PyData} {vs : List V} {i : Nat} {d : PyData} (a : DqAll K H vs ds) (h : ds[i]? = some d) : ∃ v, vs[i]? = some v ∧ Dq K H v d := by
  have hl := a.length
  have hi : i < vs.length := by rw [hl]; exact (List.getElem?_eq_some_iff.mp h).1
  obtain ⟨d', e, q⟩ := a.get (List.getElem?_eq_getElem hi)
  rw [h] at e
  cases e
  exact ⟨_, List.getElem?_eq_getElem hi, q⟩
/-! ## what stays where tables of code grow -/
structure Stay (P : Addr) (H H' : Hp) : Prop where
  ext : LamX.ExtN H H'
  tab : GxR.TabG H' P
  but : ∀ b o, b ≠ P → H b = some o → H' b = some o
theorem TabG.same {P : Addr} {H H' : Hp} (t : GxR.TabG H P) (s : Same H H') : GxR.TabG H' P := by
  obtain ⟨ps, e, r⟩ := t
  exact ⟨ps, s _ _ e, r⟩
theorem Stay.of_same {P : Addr} {H H' : Hp} (t : GxR.TabG H P) (s : Same H H') : Stay P H H' := ⟨LamX.ExtN.of s, TabG.same t s, fun b o _ e => s b o e⟩
theorem Stay.refl {P : Addr} {H : Hp} (t : GxR.TabG H P) : Stay P H H := .of_same t (Same.refl _)
theorem Stay.trans {P : Addr} {H H1 H2 : Hp} (a : Stay P H H1) (b : Stay P H1 H2) : Stay P H H2 := ⟨a.ext.trans b.ext, b.tab, fun x o n e => b.but x o n (a.but x o n e)⟩
theorem Stay.same {P : Addr} {H H1 H2 : Hp} (a : Stay P H H1) (s : Same H1 H2) : Stay P H H2 := a.trans (.of_same a.tab s)
theorem Tabbed.refl {P : Addr} {H : Hp} (t : GxR.TabG H P) : GxR.Tabbed P H H := ⟨t, fun _ _ => rfl⟩
theorem Stay.at_ {P a : Addr} {H H' : Hp} {xs : List V} (s : Stay P H H') (e : H a = some (.lst xs)) : H' a = some (.lst xs) := s.ext _ _ e fun _ z => by cases z
/-- nothing but a table may stand there -/
def Nw (H : Hp) (p : Addr) : Prop := ∀ o, H p = some o → ∃ ps, o = .tbl ps
theorem Nw.of {H : Hp} {p : Addr} (h : H p = none) : Nw H p := fun o e => by rw [h] at e; cases e
theorem Nw.back {H H' : Hp} {p : Addr} (e : LamX.ExtN H H') (h : Nw H' p) : Nw H p := fun o q => Classical.byContradiction fun c => c (h o (e p o q fun ps z => c ⟨ps, z⟩))
theorem Nw.ne {H : Hp} {p a : Addr} {o : HO} (h : Nw H p) (e : H a = some o) (n : ∀ ps, o ≠ .tbl ps) : a ≠ p := fun z => by
  obtain ⟨ps, r⟩ := h o (z ▸ e)
  exact n ps r
theorem out_extN {w : Addr} {H H' : Hp} (e : LamX.ExtN H H') : LamX.ExtN (out w H) (out w H') := fun b o h n => by
  obtain ⟨c, h⟩ := out_some h
  exact out_at c (e b o h n)
/-- what stood stays also without a new object -/
theorem same_out {D : Addr} {H H' : Hp} (n : H D = none) (s : Same H H') : Same H (out D H') := fun b o e => out_at (ne_of_none e n) (s b o e)
/-! ## walks within comprehensions, one within another -/
theorem DqAll.snoc {K : PySem.W.Frag} {H : Hp} {ds : List PyData} {vs : List V} {d : PyData} {v : V} (a : DqAll K H vs ds) (h : Dq K H v d) : DqAll K H (vs ++ [v]) (ds ++ [d]) := a.append (.cons h .nil)
/-- what is held at D of data that do not hang on D -/
structure Held (K : PySem.W.Frag) (H : Hp) (D : Addr) (ds : List PyData) : Prop where
  ex : ∃ us, H D = some (.lst us) ∧ DqAll K (out D H) us ds
/-- a list of data that do not hang on it, one more being put to it; the new thing t is laid before -/
theorem Held.put {K : PySem.W.Frag} {H : Hp} {D : Addr} {us : List V} {ds : List PyData} {v : V} {d : PyData} (e : H D = some (.lst us)) (a : DqAll K (out D H) us ds) (h : Dq K (out D H) v d) :
    DqAll K (out D (upd H D (.lst (us ++ [v])))) (us ++ [v]) (ds ++ [d]) := (a.same (out_set _)).snoc (h.same (out_set _))
end KB
/-! B28: all worths: their numbers, and lists that are put together of two. -/
namespace KB
open PySem PySem.Spec PyProof.Rows L2
end KB
/-! B29: whether a thing is a worth: rows of things, and how much is left to be looked at. -/
namespace KB
open PySem PySem.Spec PyProof.Rows L2
theorem DqAll.drop {K : PySem.W.Frag} {H : Hp} : ∀ {ds : List PyData} {vs : List V} (n : Nat), DqAll K H vs ds → DqAll K H (vs.drop n) (ds.drop n)
  | _, _, 0, h => h
  | _, _, _ + 1, .nil => .nil
  | _, _, n + 1, .cons _ t => DqAll.drop n t
theorem DqAll.take {K : PySem.W.Frag} {H : Hp} : ∀ {ds : List PyData} {vs : List V} (n : Nat), DqAll K H vs ds → DqAll K H (vs.take n) (ds.take n)
  | _, _, 0, _ => .nil
  | _, _, _ + 1, .nil => .nil
  | _, _, n + 1, .cons h t => .cons h (DqAll.take n t)
end KB
/-! B30: calls by names alone; worths as data; small kinds by small sizes. -/
namespace KB
open PySem PySem.Spec PyProof.Rows L2
/-! ## worths as data -/
theorem deps_of {l : List PyData} {D : Nat} (h : ∀ d ∈ l, d.depth ≤ D) : PyData.depthAll l ≤ D := by
  induction l with
  | nil => simp [PyData.depthAll]
  | cons a r ih =>
    rw [PyData.depthAll]
    exact Nat.max_le.mpr ⟨h a List.mem_cons_self, ih fun d hd => h d (List.mem_cons_of_mem _ hd)⟩
/-! ## small kinds by small sizes -/
end KB
/-! B31: worths hang on no list; how large they are; sizes in a list of numbers. -/
namespace KB
open PySem PySem.Spec PyProof.Rows L2
theorem szs_le {l : List PyData} {B : Nat} (h : ∀ d ∈ l, sz d ≤ B) : szs l ≤ l.length * B := by
  induction l with
  | nil => simp [szs]
  | cons a r ih =>
    have h1 := h a List.mem_cons_self
    have h2 := ih fun d hd => h d (List.mem_cons_of_mem _ hd)
    rw [szs, List.length_cons, Nat.succ_mul]
    omega
/-! ## sizes in a list of numbers -/
/-- what a draw, or what tables make, leaves: all but the well and tables -/
structure AftT (w P : Addr) (H H' : Hp) : Prop where
  ext : LamX.ExtN (out w H) (out w H')
  tab : GxR.TabG H' P
theorem AftT.trans {w P : Addr} {H H1 H2 : Hp} (a : AftT w P H H1) (b : AftT w P H1 H2) : AftT w P H H2 := ⟨a.ext.trans b.ext, b.tab⟩
theorem AftT.refl {w P : Addr} {H : Hp} (t : GxR.TabG H P) : AftT w P H H := ⟨LamX.ExtN.refl _, t⟩
theorem AftT.seq {w P b : Addr} {K : PySem.W.Frag} {H H' : Hp} {xs : List V} (a : AftT w P H H') (h : SqL K (out w H) b xs) : SqL K (out w H') b xs := seq_extN a.ext h
theorem AftT.at_ {w P b : Addr} {H H' : Hp} {xs : List V} (a : AftT w P H H') (n : b ≠ w) (h : H b = some (.lst xs)) : H' b = some (.lst xs) := (out_some (a.ext b _ (out_at n h) fun _ z => by cases z)).2
end KB
/-! B32: what the end knows of a def that holds a generator expression, and of a plain class. -/
namespace KB
open PySem PySem.Spec PyProof.Rows L2
end KB
/-! B33: a clause that catches errors of several classes; numbers that may be too great. -/
namespace KB
open PySem PySem.Spec PyProof.Rows L2
/-! ## what is raised, of any of these classes, is caught by the first clause -/
/-! ## several classes of errors -/
/-! ## numbers that may be too great: None then -/
end KB
/-! B34: what are no sizes. -/
namespace KB
open PySem PySem.Spec PyProof.Rows L2
end KB
/-! B35: a tuple turned about: t[::-1]; the end of a law with tables in which a repr is asked. -/
namespace KB
open PySem PySem.Spec PyProof.Rows L2 HT
/-! ## t + u, two tuples, each perhaps empty -/
def rCatA (K : PySem.W.Frag) : R2 := fun x y H Q => ∃ a b xs ys, x = .ref a ∧ y = .ref b ∧ SqT K H a xs ∧ SqT K H b ys ∧ xs.length + ys.length ≤ 2000000 ∧ (xs = [] → Q (.ref b) H) ∧ (xs ≠ [] → ys = [] → Q (.ref a) H) ∧ (xs ≠ [] → ys ≠ [] → ∀ p, H p = none → Q (.ref p) (upd H p (.tup (xs ++ ys))))
theorem op_catD {X : Cx} : OpR X (binaryOp .Add) (rCatA X.K) := by
  intro pins s σ H x y v u Q I rx ry h
  obtain ⟨a, b, xs, ys, rfl, rfl, ha, hb, hz, q1, q2, q3⟩ := h
  by_cases c : xs = []
  · subst c
    exact op_catT0 pins s σ H _ _ v u Q I rx ry ⟨a, b, ys, rfl, rfl, ha, hb, q1 rfl⟩
  · exact op_addA pins s σ H _ _ v u Q I rx ry (.inr (.inr (.inr ⟨a, b, xs, ys, rfl, rfl, ha, hb, c, fits (by omega), q2 c, fun d => q3 c d⟩)))
end KB
/-! B36: t == () for any tuple t. -/
namespace KB
open PySem PySem.Spec PyProof.Rows L2
end KB
/-! B37: the end of a law that has tables of code and asks for a repr. -/
namespace KB
open PySem PySem.Spec PyProof.Rows L2
end KB
/-! B38: a lambda handed to a def: all but the one table stays as it is. -/
namespace KB
open PySem PySem.Spec PyProof.Rows L2
/-- all but what stands at P -/
def ButP (P : Addr) (H H' : Hp) : Prop := ∀ b o, b ≠ P → H b = some o → H' b = some o
theorem ButP.refl {P : Addr} (H : Hp) : ButP P H H := fun _ _ _ e => e
end KB
/-! B39: repr of things in which lists stand beside an empty dict: a list that is made here is not the dict of modules. -/
namespace KB
open PySem PySem.Spec PyProof.Rows L2
mutual
inductive Far (K : PySem.W.Frag) (H : Hp) : PyData → V → Prop
  | plain {d v} : noL d = true → Dq K H v d → Far K H d v
  | lst {a xs ds} : a ≠ sysModules → SqL K H a xs → FarAll K H ds xs → Far K H (.list ds) (.ref a)
  | tup {a xs ds} : SqT K H a xs → FarAll K H ds xs → Far K H (.tuple ds) (.ref a)
inductive FarAll (K : PySem.W.Frag) (H : Hp) : List PyData → List V → Prop
  | nil : FarAll K H [] []
  | cons {d ds v vs} : Far K H d v → FarAll K H ds vs → FarAll K H (d :: ds) (v :: vs)
end
mutual
theorem Far.reads {X : Cx} {pins : List (Addr × Obj)} {σ : L2.St} {H : Hp} {s : Shared} (I : L2.Inv X pins σ H s) : ∀ {d : PyData} {v : V} {u : Value}, Far X.K H d v → L2.RelV v u → ∃ as, Reads s.heap u d as ∧ sysModules ∉ as
  | _, _, _, .plain n h, r => by
    obtain ⟨as, ra, z⟩ := Dq.reads I h r
    exact ⟨as, ra, z n⟩
  | _, _, _, .lst na h hs, r => by
    cases r
    obtain ⟨its, rv, pl, _⟩ := I.list h
    obtain ⟨o, e1, e2, n, e3⟩ := PlainL.isList pl
    obtain ⟨as, ra, z⟩ := FarAll.reads I hs rv
    exact ⟨_, .list e1 e2 e3 (by simpa using ra), by
      intro m
      rcases List.mem_cons.mp m with m | m
      · exact na m.symm
      · exact z m⟩
  | _, _, _, .tup h hs, r => by
    cases r
    obtain ⟨its, rv, it, _⟩ := I.tuple h
    obtain ⟨o, e1, e2, n, e3⟩ := it
    obtain ⟨as, ra, z⟩ := FarAll.reads I hs rv
    exact ⟨_, .tuple e1 e2 e3 (by simpa using ra), z⟩
theorem FarAll.reads {X : Cx} {pins : List (Addr × Obj)} {σ : L2.St} {H : Hp} {s : Shared} (I : L2.Inv X pins σ H s) : ∀ {ds : List PyData} {vs : List V} {us : List Value}, FarAll X.K H ds vs → Vals vs us → ∃ as, ReadsAll s.heap us ds as ∧ sysModules ∉ as
  | _, _, _, .nil, r => by cases r; exact ⟨[], .nil, List.not_mem_nil⟩
  | _, _, _, .cons h hs, r => by
    cases r with
    | cons r1 r2 =>
      obtain ⟨as, ra, za⟩ := Far.reads I h r1
      obtain ⟨bs, rb, zb⟩ := FarAll.reads I hs r2
      refine ⟨_, .cons ra rb, fun m => ?_⟩
      rcases List.mem_append.mp m with m | m
      · exact za m
      · exact zb m
end
end KB
/-! B40: rests of powers: what numbers share no part with a divisor, reckoned as the program does; powers that come again; math.isqrt. -/
namespace KB
open PySem PySem.Spec PyProof.Rows L2
/-! ## a divisor without its parts, as the program does it -/
def wo : Nat → Nat → Nat → Nat
  | 0, n, _ => n
  | k + 1, n, p => if n % p = 0 then wo k (n / p) p else n
def tr : Nat → Nat → Nat → Nat → Nat × Nat
  | 0, _, f, l => (f, l)
  | k + 1, p, f, l => if l % p = 0 then (if p * p > wo 64 l p then (f - f / p, wo 64 l p) else tr k (p + 2) (f - f / p) (wo 64 l p)) else tr k (p + 2) f l
/-- all powers by a divisor come again with this step, at the latest from it on -/
def Eul (m f : Nat) : Prop := 1 ≤ f ∧ ∀ b : Nat, b ^ f * b ^ f % m = b ^ f % m
/-! ## the number of worths, however great -/
theorem ixLi {K : PySem.W.Frag} {W : World} {a : Addr} {xs : List V} {j : Nat} {x : V} {H : Hp} {Q : VK} (hT : SqL K H a xs) (hj : xs[j]? = some x) (q : Q x H) : rIxB K W (.ref a) (.int (j : Nat)) H Q := .inl (.inl ⟨a, xs, (j : Int), x, rfl, rfl, hT, atI_nat hj, q⟩)
end KB
/-! B41: repr of any data, where the dict of modules is known to stand: a list is not that dict. -/
namespace KB
open PySem PySem.Spec PyProof.Rows L2
end KB
/-! B42: how many worths, by the form. -/
namespace KB
open PySem PySem.Spec PyProof.Rows L2
end KB
/-! B43: powers come again by the number of what shares no part: for all divisors up to a million, as the program reckons it. -/
namespace KB
open PySem
namespace Nt
/-! ## products -/
def pr (f : Nat → Nat) : Nat → Nat
  | 0 => 1
  | n + 1 => pr f n * f n
/-! ## pigeons -/
/-! ## primes -/
def Pm (p : Nat) : Prop := 2 ≤ p ∧ ∀ d, d ∣ p → d = 1 ∨ d = p
theorem Pm.cop {p b : Nat} (hp : Pm p) (h : ¬ p ∣ b) : Nat.Coprime p b := by
  rcases hp.2 (Nat.gcd p b) (Nat.gcd_dvd_left p b) with e | e
  · exact e
  · exact absurd (e ▸ Nat.gcd_dvd_right p b) h
theorem Pm.dvd_mul {p a b : Nat} (hp : Pm p) (h : p ∣ a * b) : p ∣ a ∨ p ∣ b := by
  by_cases c : p ∣ a
  · exact .inl c
  · exact .inr ((hp.cop c).dvd_of_dvd_mul_left h)
theorem Pm.fact {p : Nat} (hp : Pm p) : ∀ n, n < p → ¬ p ∣ pr (fun i => i + 1) n
  | 0, _, h => by
    have h1 : p ∣ 1 := h
    have := Nat.le_of_dvd (by decide) h1
    have := hp.1
    omega
  | n + 1, hn, h => by
    rcases hp.dvd_mul h with h | h
    · exact fact hp n (by omega) h
    · have h1 : p ∣ n + 1 := h
      have := Nat.le_of_dvd (by omega) h1
      omega
/-! ## powers of a prime -/
/-! ## products of divisors -/
/-! ## a prime taken out -/
/-- what is done, and what is left -/
structure St (n f l : Nat) : Prop where
  ex : ∃ m g, n = m * l ∧ Nat.Coprime m l ∧ f = g * l ∧ Eul m g ∧ g ≤ m ∧ (m ≠ 1 → g < m)
  l1 : 1 ≤ l
/-! ## roots -/
end Nt
end KB
/-! B44: primes and parts of divisors up to 10 ** 9, as the program looks for them. -/
namespace KB
open PySem
end KB
/-! a set of whole numbers made by two walks, one within the other, without tests: {e for t in a for u in b} -/
namespace KB
open PySem PySem.Spec PyProof.Rows L2
end KB
/-! things as terms: their kinds by what is given, what they want, the rows in which they are read -/
namespace KB
open PySem PySem.Spec PyProof.Rows L2
inductive Trm where
  | giv (x : PyData) | fst (t : Trm) | snd (t : Trm) | mk (k : Kd) (t : Trm) | doo (a b : Trm) | both (a b : Trm) | unit | bad (d : PyData)
namespace Trm
def dat : Trm → PyData
  | giv x => .tuple [.str "given", x]
  | fst t => .tuple [.str "first", t.dat]
  | snd t => .tuple [.str "second", t.dat]
  | mk k t => .tuple [.str "make", k.dat, t.dat]
  | doo a b => .tuple [.str "do", a.dat, b.dat]
  | both a b => .tuple [.str "both", a.dat, b.dat]
  | unit => .tuple [.str "unit"]
  | bad d => d
end Trm
def giv (x : PyData) (ks : List Kd) : Option Kd := match x with
  | .int n => if 0 ≤ n ∧ n < (ks.length : Nat) then ks[n.toNat]? else none
  | _ => none
namespace Trm
/-- how many functions are made within one another -/
def md : Trm → Nat
  | fst t | snd t => t.md
  | mk _ t => t.md + 1
  | doo a b | both a b => max a.md b.md
  | _ => 0
def ht : Trm → Nat
  | fst t | snd t | mk _ t => t.ht + 1
  | doo a b | both a b => max a.ht b.ht + 1
  | _ => 0
end Trm
end KB
/-! tables of sets of up to three hundred things: each search for what is new ends at a slot that is free -/
namespace KB
open PySem PySem.Spec PyProof.Rows L2
def Msk (m : Nat) : Prop := m = 7 ∨ m = 31 ∨ m = 127 ∨ m = 511
/-- so many turns of x to 5 x + 1 -/
def orb (m : Nat) : Nat → Nat → List Nat
  | 0, _ => []
  | n + 1, x => x :: orb m n ((x * 5 + 1) % (m + 1))
theorem orb_at (m : Nat) : ∀ (n k j : Nat), j ∈ orb m n (lcgN m k) → ∃ b, b < k + n ∧ lcgN m b = j
  | 0, _, _, z => by cases z
  | n + 1, k, j, z => by
    rcases List.mem_cons.mp z with z | z
    · exact ⟨k, by omega, z.symm⟩
    · obtain ⟨b, lt, e⟩ := orb_at m n (k + 1) j z
      exact ⟨b, by omega, e⟩
def marks : List Nat → Nat → Nat
  | [], a => a
  | x :: r, a => marks r (a ||| 2 ^ x)
theorem marks_bit : ∀ (l : List Nat) (a j : Nat), (marks l a).testBit j = true → a.testBit j = true ∨ j ∈ l
  | [], a, j, z => .inl z
  | x :: r, a, j, z => by
    rcases marks_bit r _ j z with z | z
    · rw [Nat.testBit_or, Bool.or_eq_true, Nat.testBit_two_pow, decide_eq_true_eq] at z
      rcases z with z | z
      · exact .inl z
      · exact .inr (by rw [z]; exact List.mem_cons_self)
    · exact .inr (List.mem_cons_of_mem _ z)
theorem orb_full {m : Nat} (M : Msk m) : marks (orb m (m + 1) 0) 0 = 2 ^ (m + 1) - 1 := by
  rcases M with rfl | rfl | rfl | rfl <;> decide +kernel
theorem cyc {m : Nat} (M : Msk m) {j : Nat} (lt : j ≤ m) : ∃ b, b ≤ m ∧ lcgN m b = j := by
  have z : (marks (orb m (m + 1) 0) 0).testBit j = true := by
    rw [orb_full M, Nat.testBit_two_pow_sub_one, decide_eq_true_eq]; omega
  rcases marks_bit _ _ _ z with z | z
  · simp at z
  · obtain ⟨b, h1, h2⟩ := orb_at m (m + 1) 0 j z
    exact ⟨b, by omega, h2⟩
theorem cyc_back {m : Nat} (M : Msk m) : ∀ k, lcgN m (m + 1 + k) = lcgN m k
  | 0 => by rcases M with rfl | rfl | rfl | rfl <;> decide +kernel
  | k + 1 => by
    have e := cyc_back M k
    show (lcgN m (m + 1 + k) * 5 + 1) % (m + 1) = _
    rw [e]; rfl
theorem cyc_from {m : Nat} (M : Msk m) {i j : Nat} (li : i ≤ m) (lj : j ≤ m) : ∃ k, k ≤ m ∧ lcgI m i k = j := by
  obtain ⟨x, hx, rfl⟩ := cyc M li
  obtain ⟨y, hy, rfl⟩ := cyc M lj
  by_cases c : x ≤ y
  · exact ⟨y - x, by omega, by rw [lcgN_add, Nat.add_sub_cancel' c]⟩
  · refine ⟨m + 1 + y - x, by omega, ?_⟩
    rw [lcgN_add, ← cyc_back M y]
    congr 1
    omega
theorem meets_run {m : Nat} (M : Msk m) (h : Int) {j : Nat} (lj : j ≤ m) : ∃ n, n ≤ m + 12 ∧ runI m (SetTable.bits h) n = j := by
  obtain ⟨k, lk, e⟩ := cyc_from M (runI_le m (SetTable.bits h) 12) lj
  refine ⟨12 + k, by omega, ?_⟩
  rw [runI_tail (bits_lt h), e]
theorem meets_way {m : Nat} (M : Msk m) (h : Int) {j : Nat} (lj : j ≤ m) : ∃ k, k < 10 * SetTable.turns m ∧ way m h k = j := by
  obtain ⟨n, ln, e⟩ := meets_run M h lj
  obtain ⟨k, lk, e2⟩ := run_nth m (SetTable.bits h) n
  exact ⟨k, by unfold SetTable.turns; omega, (congrArg SetTable.Probe.j e2).trans e⟩
/-- a table of so many things, without dummies -/
structure Tb (t : SetTable) (n : Nat) : Prop where
  up : Ris t.place.toList
  dm : t.dummies = #[]
  num : t.place.size = n
  msk : Msk t.mask
  top : ∀ x ∈ t.place.toList, x ≤ t.mask
section
variable {t : SetTable} {n : Nat}
theorem Tb.free (T : Tb t n) (l : n ≤ t.mask) (h : Int) : ∃ K, K < 10 * SetTable.turns t.mask ∧ way t.mask h K ∉ t.place.toList ∧ ∀ k, k < K → way t.mask h k ∈ t.place.toList := by
  obtain ⟨j, lj, nj⟩ := st_missing t.place.toList (t.mask + 1) (by have := T.num; rw [Array.length_toList]; omega)
  obtain ⟨k, lk, e⟩ := meets_way T.msk h (j := j) (by omega)
  obtain ⟨K, a1, a2, a3⟩ := st_least (p := fun z => way t.mask h z ∉ t.place.toList) k (by rw [e]; exact nj)
  exact ⟨K, by omega, a2, fun q hq => Classical.byContradiction fun z => a3 q hq z⟩
theorem Tb.put (T : Tb t n) {j : Nat} (nj : j ∉ t.place.toList) (lj : j ≤ t.mask) : SetTable.below t.place j ≤ n ∧ Tb (t.put j).1 (n + 1) ∧ (t.put j).1.fill = n + 1 := by
  have c := (below_cut T.up j).1
  have hn := T.num
  have no : t.place[SetTable.below t.place j]? ≠ some j := fun e => nj (List.mem_of_getElem? (i := SetTable.below t.place j) (by rw [Array.getElem?_toList]; exact e))
  have e := put_place t j
  have z : (t.put j).1.place.size = n + 1 := by
    have q := congrArg List.length e
    rw [Array.length_toList, len_ins _ (by rw [Array.length_toList]; exact c), Array.length_toList, hn] at q
    exact q
  have d := put_dm T.dm j
  refine ⟨by omega, ⟨ris_insert T.up no, d, z, T.msk, fun x hx => ?_⟩, ?_⟩
  · rw [e] at hx
    rcases mem_ins.1 hx with q | q
    · rw [q]; exact lj
    · exact T.top x q
  · show (t.put j).1.place.size + (t.put j).1.dummies.size = n + 1
    rw [z, d]; rfl
end
end KB
/-! whole numbers, and tuples of such nested, as things of sets -/
namespace KB
open PySem PySem.Spec PyProof.Rows L2
mutual
def numK : NestedKey → Bool
  | .num _ => true
  | .tup ks => numKs ks
  | _ => false
def numKs : List NestedKey → Bool
  | [] => true
  | k :: r => numK k && numKs r
end
section
variable {P : Program} {w : World}
/-- its hash is told by its worth alone, and it is of no class statement -/
def HashAt (P : Program) (w : World) (n : Nat) (s : Shared) (v : Value) : Prop := (∀ (A : Around) (E : Value → Shared → Prop) (Q : Bool → Shared → Prop), Q true s → wpAny (model P w) A (hashByValue n v) Q E s) ∧
  ∀ (A : Around) (E : Value → Shared → Prop) (Q : Bool → Shared → Prop), Q false s → wpAny (model P w) A (ofAClassStatement n v) Q E s
theorem HashAt.tup {n : Nat} {s : Shared} {a : Addr} {o : Obj} {vs : Array Value} {m : Nat} (ho : s.heap.get? a = some o) (hc : o.cls = .type "tuple") (hd : o.data = .seq vs m) (all : ∀ v ∈ vs.toList, HashAt P w n s v) : HashAt P w (n + 1) s (.ref a) := by
  have ty : s.TypeIs (.ref a) "tuple" := ⟨o, ho, hc⟩
  refine ⟨fun A E Q q => ?_, fun A E Q q => ?_⟩
  · unfold hashByValue
    refine wpAny_bind (wpAny_specialOf ty F.slot_tuple_hash.lookup ?_)
    show wpAny _ _ (seqItems? (.ref a) >>= _) _ _ s
    refine wpAny_bind (wpAny_seqItems ho hd (wpAny_bind ?_))
    show wpAny _ _ (forIn vs _ _) _ _ s
    rw [← Array.forIn_toList]
    refine wpAny_forIn_list _ (fun left r z => r.1 = none ∧ z = s ∧ ∀ v ∈ left, HashAt P w n s v) _ ?_ ?_ _ _ ⟨rfl, rfl, all⟩
    · rintro v left r z ⟨e, rfl, every⟩
      refine wpAny_bind ((every v List.mem_cons_self).1 _ _ _ ?_)
      simp only [Bool.not_true, Bool.false_eq_true, if_false]
      exact wpAny_pure ⟨rfl, rfl, fun u hu => every u (List.mem_cons_of_mem _ hu)⟩
    · rintro ⟨r1, r2⟩ z ⟨e, rfl, _⟩
      simp only at e
      subst e
      exact wpAny_pure q
  · unfold ofAClassStatement
    refine wpAny_bind (wpAny_typeOf ty ?_)
    dsimp only
    have tt : (("tuple" : String) == "tuple") = true := by decide
    simp only [tt, if_true, Bool.not_true, Bool.false_eq_true, if_false]
    try refine wpAny_bind (wpAny_pure ?_)
    try simp only [Bool.not_true, Bool.false_eq_true, if_false]
    show wpAny _ _ (seqItems? (.ref a) >>= _) _ _ s
    refine wpAny_bind (wpAny_seqItems ho hd ?_)
    dsimp only
    refine wpAny_bind ?_
    show wpAny _ _ (forIn vs _ _) _ _ s
    rw [← Array.forIn_toList]
    refine wpAny_forIn_list _ (fun left r z => r.1 = none ∧ z = s ∧ ∀ v ∈ left, HashAt P w n s v) _ ?_ ?_ _ _ ⟨rfl, rfl, all⟩
    · rintro v left r z ⟨e, rfl, every⟩
      refine wpAny_bind ((every v List.mem_cons_self).2 _ _ _ ?_)
      simp only [Bool.false_eq_true, if_false]
      exact wpAny_pure ⟨rfl, rfl, fun u hu => every u (List.mem_cons_of_mem _ hu)⟩
    · rintro ⟨r1, r2⟩ z ⟨e, rfl, _⟩
      simp only at e
      subst e
      exact wpAny_pure q
/-- the tuple at an address is a thing of the sets that are told of here -/
structure Thg (h : Heap) (k : NestedKey) (a : Addr) : Prop where
  is : NestedIs h k (.ref a)
  num : numK k = true
  low : k.depth ≤ 8
theorem Thg.k {h : Heap} {k : NestedKey} {a : Addr} (x : Thg h k a) : (nestedKind P w).is h k a := ⟨x.is, x.low⟩
theorem Thg.keep {h h' : Heap} {k : NestedKey} {a : Addr} (x : Thg h k a) (q : ∀ b o, h.get? b = some o → h'.get? b = some o) : Thg h' k a := ⟨NestedIs.at (fun b o _ _ e _ => q b o e) k _ x.is, x.num, x.low⟩
theorem Thg.but {h h' : Heap} {k : NestedKey} {a d : Addr} {o : Obj} {es : Array (Int × Value)} {ep : Nat} {t : SetTable} (x : Thg h k a) (ho : h.get? d = some o) (hd : o.data = .set es ep t) (sb : Heap.SameBut d h h') : Thg h' k a := by
  refine ⟨NestedIs.at (fun b u vs n e z => ?_) k _ x.is, x.num, x.low⟩
  have ne : b ≠ d := fun q => by
    rw [q, ho] at e
    rw [← Option.some.inj e, hd] at z
    cases z
  exact (sb.2 b ne).trans e
end
end KB
/-! a set made of a list of tuples of which no two are equal -/
namespace KB
open PySem PySem.Spec PyProof.Rows L2
def rowsV (w : World) (L : List (Addr × NestedKey)) : List (Int × Value) := L.map fun p => (p.2.hash w, Value.ref p.1)
structure SetV (w : World) (h : Heap) (a : Addr) (L : List (Addr × NestedKey)) (es : Array (Int × Value)) (ep : Nat) (t : SetTable) : Prop where
  ob : ∃ o, h.get? a = some o ∧ o.ExactSet ∧ o.data = .set es ep t
  rows : es.toList = rowsV w L
  tab : Tb t L.length
  nd : (L.map (·.2)).Nodup
  thg : ∀ p ∈ L, Thg h p.2 p.1
  plain : t.plain = true
  led : w.params.followText "set-order" = true ∨ t.led = true
  room : L.length * 5 < t.mask * 3
  few : L.length ≤ 300
section
variable {P : Program} {w : World} {A : Around} {E : Value → Shared → Prop} {s : Shared} {a : Addr} {L : List (Addr × NestedKey)} {es : Array (Int × Value)} {ep : Nat} {t : SetTable}
theorem SetV.num (R : SetV w s.heap a L es ep t) : es.size = L.length := by
  have q := congrArg List.length R.rows
  rwa [Array.length_toList, rowsV, List.length_map] at q
theorem SetV.at (R : SetV w s.heap a L es ep t) {i : Nat} {p : Addr × NestedKey} (e : L[i]? = some p) : es[i]? = some (p.2.hash w, Value.ref p.1) := by
  rw [← Array.getElem?_toList, R.rows, rowsV, List.getElem?_map, e]; rfl
end
end KB
/-! a set grown thing by thing; len of it -/
namespace KB
open PySem PySem.Spec PyProof.Rows L2
section
variable {P : Program} {w : World} {A : Around} {E : Value → Shared → Prop} {s : Shared} {a : Addr} {L : List (Addr × NestedKey)} {es : Array (Int × Value)} {ep : Nat} {t : SetTable}
theorem SetV.keep {h h' : Heap} (R : SetV w h a L es ep t) (ha : ∀ o, h.get? a = some o → h'.get? a = some o) (ht : ∀ p ∈ L, Thg h' p.2 p.1) : SetV w h' a L es ep t := by
  obtain ⟨o, ho, r⟩ := R.ob
  exact ⟨⟨o, ha o ho, r⟩, R.rows, R.tab, R.nd, ht, R.plain, R.led, R.room, R.few⟩
end
end KB
/-! set(a list of tuples nested of which no two are equal) -/
namespace KB
open PySem PySem.Spec PyProof.Rows L2
section
variable {P : Program} {w : World} {A : Around} {E : Value → Shared → Prop} {s : Shared}
/-- what has been laid when so many have been looked at -/
def Laid (w : World) (S : Addr) (ks : List (Addr × NestedKey)) (i : Nat) (h : Heap) : Prop := ∃ L es ep t, SetV w h S L es ep t ∧ L.Perm (ks.take i)
theorem Laid.keep {S : Addr} {ks : List (Addr × NestedKey)} {i : Nat} {h0 h h' : Heap} (g : Laid w S ks i h) (thg : ∀ p ∈ ks, Thg h0 p.2 p.1) (k : ∀ b o, h0.get? b = some o → h'.get? b = some o) (ha : ∀ o, h.get? S = some o → h'.get? S = some o) : Laid w S ks i h' := by
  obtain ⟨L, es, ep, t, R, pm⟩ := g
  exact ⟨L, es, ep, t, R.keep ha fun p hp => (thg p (List.mem_of_mem_take (pm.mem_iff.mp hp))).keep k, pm⟩
end
end KB
/-! len(set(a list of worths)); the worths of a kind: none twice, the last one -/
namespace KB
open PySem PySem.Spec PyProof.Rows L2
/-! ## the worths of a kind -/
namespace Kd
/-- the last worth -/
def lst (s : Nat → Nat) : Kd → PyData
  | b i => .int ((s i : Int) - 1)
  | u => .tuple []
  | p x y => .tuple [x.lst s, y.lst s]
  | f x y => .tuple (List.replicate (x.num s) (y.lst s))
end Kd
end KB
/-! sorted of data that can be compared; sorted(set(..)) -/
namespace KB
open PySem PySem.Spec PyProof.Rows L2
/-- what can be sorted -/
def SrtD (ds : List PyData) : Prop := PySem.W.AllAlike ds ∧ (PySem.W.Sortable ds ∨ (ds.length ≤ 1 ∧ ∀ d ∈ ds, d ≠ .none)) ∧ PyData.depthAll ds ≤ 180
theorem SrtD.perm {ds es : List PyData} (h : SrtD ds) (p : es.Perm ds) : SrtD es := by
  have m : ∀ d, d ∈ es → d ∈ ds := fun d => p.mem_iff.mp
  refine ⟨fun d hd e he => h.1 d (m d hd) e (m e he), ?_, deps_of fun d hd => ?_⟩
  · rcases h.2.1 with (k | k) | k
    · exact .inl (.inl fun d hd => k d (m d hd))
    · exact .inl (.inr fun d hd => k d (m d hd))
    · exact .inr ⟨by rw [p.length_eq]; exact k.1, fun d hd => k.2 d (m d hd)⟩
  · have : ∀ (l : List PyData) (d : PyData), d ∈ l → d.depth ≤ PyData.depthAll l := fun l => by
      induction l with
      | nil => intro d z; cases z
      | cons a r ih =>
        intro d z
        rw [PyData.depthAll]
        rcases List.mem_cons.mp z with z | z
        · rw [z]; omega
        · have := ih d z; omega
    exact Nat.le_trans (this ds d (m d hd)) h.2.2
end KB
/-! sorted, sorted(set(..)), < as rules; the worths of a kind stand in order -/
namespace KB
open PySem PySem.Spec PyProof.Rows L2
/-! ## worths stand in order -/
end KB
/-! lambdas as values: what they captured is known, also when their maker has ended -/
namespace KB
open PySem PySem.Spec PyProof.Rows L2
/-- a captured cell, known with its object -/
def CellF (c : Addr) (o : Obj) : HO := .frz o (.own c)
/-- these addresses are cells that are known -/
def Fz (L : List Addr) (H : Hp) : Prop := ∀ c ∈ L, ∃ o v, H c = some (CellF c o) ∧ o.data = .cell v
def offL (L : List Addr) (H : Hp) : Hp := fun b => if b ∈ L then none else H b
def onL (L : List Addr) (H H' : Hp) : Hp := fun b => if b ∈ L then H b else H' b
section
variable {P : Program} {w : World} {H H' : Hp} {h h' : Heap} {L : List Addr} {fs : List Addr}
theorem offL_in {b : Addr} (m : b ∈ L) : offL L H b = none := if_pos m
theorem offL_out {b : Addr} (m : b ∉ L) : offL L H b = H b := if_neg m
theorem onL_in {b : Addr} (m : b ∈ L) : onL L H H' b = H b := if_pos m
theorem onL_out {b : Addr} (m : b ∉ L) : onL L H H' b = H' b := if_neg m
theorem offL_some {b : Addr} {o : HO} (e : offL L H b = some o) : b ∉ L ∧ H b = some o := by
  by_cases m : b ∈ L
  · rw [offL_in m] at e; cases e
  · rw [offL_out m] at e; exact ⟨m, e⟩
theorem Fz.not {o : HO} (z : Fz L H) {b : Addr} (e : H b = some o) (n : ∀ u, o ≠ CellF b u) : b ∉ L := fun m => by
  obtain ⟨u, _, e2, _⟩ := z b m
  rw [e] at e2
  exact n u (Option.some.inj e2)
theorem hok_off (x : HOk P w H h) (z : Fz L H) : HOk P w (offL L H) h := fun a o e => by
  obtain ⟨m, e⟩ := offL_some e
  refine (x a o e).stay (fun b u _ q => q) (fun b q => ?_) fun b xs q => ?_
  · rw [offL_out (z.not q fun u y => by unfold CellF at y; cases y)]; exact q
  · rw [offL_out (z.not q fun u y => by unfold CellF at y; cases y)]; exact q
theorem env0_off {K : PySem.W.Frag} {mg : Str → Option Value} {base : Heap} {A : Around} {outer : List Env} {s : Shared} (e : Env0 P w K mg base A outer s H) (z : Fz L H) : Env0 P w K mg base A outer s (offL L H) := by
  have no : ∀ b, H b = none → offL L H b = none := fun b q => by
    unfold offL; split
    · rfl
    · exact q
  exact ⟨e.frames, e.mod, fun b o q => ⟨(e.bs b o q).1, no b (e.bs b o q).2⟩, e.bsz, e.funs, fun b q => no b (e.frf b q), hok_off e.hok z, e.bare⟩
/-- what was put aside is as it was -/
theorem kept_on (z : Fz L H) (x : HOk P w H h) (nf : ∀ b ∈ fs, H b = none) {c : Addr} (m : c ∈ L) (keep : ∀ b o, h.get? b = some o → offL L H b = none → b ∉ fs → h'.get? b = some o) (free : ∀ b o, h.get? b = some o → offL L H b = none → H' b = none) :
    ∃ o v, H c = some (CellF c o) ∧ o.data = .cell v ∧ h.get? c = some o ∧ h'.get? c = some o ∧ H' c = none := by
  obtain ⟨o, v, e, d⟩ := z c m
  obtain ⟨g, _⟩ := x c _ e
  exact ⟨o, v, e, d, g, keep c o g (offL_in m) (fun y => by have := nf c y; rw [e] at this; cases this), free c o g (offL_in m)⟩
theorem hok_on {B : Heap} (z : Fz L H) (y : HOk P w H' B) (k : ∀ c ∈ L, ∃ o v, H c = some (CellF c o) ∧ o.data = .cell v ∧ B.get? c = some o ∧ H' c = none) : HOk P w (onL L H H') B := fun a o e => by
  by_cases m : a ∈ L
  · rw [onL_in m] at e
    obtain ⟨u, v, e2, _, g, _⟩ := k a m
    rw [e] at e2
    rw [Option.some.inj e2]
    exact ⟨g, ⟨u, g⟩⟩
  · rw [onL_out m] at e
    have off : ∀ b q, H' b = some q → b ∉ L := fun b q e3 m3 => by
      obtain ⟨_, _, _, _, _, n⟩ := k b m3
      rw [n] at e3; cases e3
    exact (y a o e).stay (fun b u _ q => q) (fun b q => by rw [onL_out (off b _ q)]; exact q) fun b xs q => by rw [onL_out (off b _ q)]; exact q
theorem un_on (z : Fz L H) (x : HOk P w H h) (nf : ∀ b ∈ fs, H b = none) (u : Un fs [] (offL L H) H' h h') (y : HOk P w H' h') : Un fs [] H (onL L H H') h h' ∧ HOk P w (onL L H H') h' := by
  have k : ∀ c ∈ L, ∃ o v, H c = some (CellF c o) ∧ o.data = .cell v ∧ h.get? c = some o ∧ h'.get? c = some o ∧ H' c = none := fun c m => kept_on z x nf m (fun b o e n q => u.keep b o e n q (by simp)) (fun b o e n => u.free b o e n (by simp))
  have no : ∀ b, H b = none → offL L H b = none := fun b q => by
    unfold offL; split
    · rfl
    · exact q
  have nl : ∀ b, H b = none → b ∉ L := fun b q m => by
    obtain ⟨_, _, e, _⟩ := z b m
    rw [q] at e; cases e
  refine ⟨⟨fun b o e n q r => u.keep b o e (no b n) q r, fun b o e n q r => u.slot b o e (no b n) q r, fun b o e n r => by rw [onL_out (nl b n)]; exact u.free b o e (no b n) r, u.there, fun b xs e => ?_, fun b o v e => ?_, fun b ps e => ?_⟩, hok_on z y fun c m => let ⟨o, v, a1, a2, _, a4, a5⟩ := k c m; ⟨o, v, a1, a2, a4, a5⟩⟩
  · have m := z.not e fun u y => by unfold CellF at y; cases y
    rw [onL_out m]
    exact u.tups b xs (by rw [offL_out m]; exact e)
  · by_cases m : b ∈ L
    · rw [onL_in m]; exact e
    · rw [onL_out m]
      exact u.frzs b o v (by rw [offL_out m]; exact e)
  · have m := z.not e fun u y => by unfold CellF at y; cases y
    rw [onL_out m]
    exact u.tbls b ps (by rw [offL_out m]; exact e)
/-- a call's end, the cells known again -/
theorem cr_on {outer : List Env} {s s' : Shared} {Q : VK} {E : XK} {r : Result} (z : Fz L H) (x : HOk P w H s.heap) (nf : ∀ b ∈ frs outer, H b = none)
    (c : CR (L2.CX P w) outer P w (offL L H) s (fun v H' => Q v (onL L H H')) (fun cls d H' => E cls d (onL L H H')) r s') : CR (L2.CX P w) outer P w H s Q E r s' := by
  match r, c with
  | .ok (.ret u), ⟨v, H', os, bare, un, hok, rv, q⟩ =>
    obtain ⟨u1, h1⟩ := un_on z x nf un hok
    exact ⟨v, _, os, bare, u1, h1, rv, q⟩
  | .error e, ⟨a, B, H', cls, d, ea, fly, hok, ub, na, os, bare, q⟩ =>
    have k : ∀ c ∈ L, ∃ o v, H c = some (CellF c o) ∧ o.data = .cell v ∧ s.heap.get? c = some o ∧ B.get? c = some o ∧ H' c = none := fun c m => kept_on z x nf m ub.keep ub.free
    have no : ∀ b, H b = none → offL L H b = none := fun b q => by
      unfold offL; split
      · rfl
      · exact q
    have nl : ∀ b, H b = none → b ∉ L := fun b q m => by
      obtain ⟨_, _, e, _⟩ := z b m
      rw [q] at e; cases e
    refine ⟨a, B, onL L H H', cls, d, ea, fly, hok_on z hok fun c m => let ⟨o, v, a1, a2, _, a4, a5⟩ := k c m; ⟨o, v, a1, a2, a4, a5⟩, ⟨fun b o e n q => ub.keep b o e (no b n) q, ub.slot, fun b o e n => by rw [onL_out (nl b n)]; exact ub.free b o e (no b n), ub.there, fun b xs e => ?_, fun b o v e => ?_, fun b ps e => ?_⟩, ?_, os, bare, q⟩
    · have m := z.not e fun u y => by unfold CellF at y; cases y
      rw [onL_out m]
      exact ub.tups b xs (by rw [offL_out m]; exact e)
    · by_cases m : b ∈ L
      · rw [onL_in m]; exact e
      · rw [onL_out m]
        exact ub.frzs b o v (by rw [offL_out m]; exact e)
    · have m := z.not e fun u y => by unfold CellF at y; cases y
      rw [onL_out m]
      exact ub.tbls b ps (by rw [offL_out m]; exact e)
    · have m : a ∉ L := fun m => by
        obtain ⟨o, v, _, _, _, g, _⟩ := k a m
        have := fly.2.1
        rw [g] at this; cases this
      rw [onL_out m]
      exact na
end
end KB
/-! a lambda made, held as a value, called -/
namespace KB
open PySem PySem.Spec PyProof.Rows L2
/-- the object at f is a lambda of this body -/
def LamO (f : Addr) (F : NdefX.NF) (b : Expr) : HO := .ext fun h => ∃ pm ctv : Value, h.get? f = some (PySem.W.kla_obj "<lambda>" F.qual F.params b F.scope F.cl pm F.c ctv)
theorem lamO_ne {f : Addr} {F : NdefX.NF} {b : Expr} (ps : Array Value) : LamO f F b ≠ .tbl ps := fun z => by
  unfold LamO at z
  cases z
section
variable {P : Program} {w : World} {K : PySem.W.Frag} {mg : Str → Option Value} {base : Heap}
/-- what a lambda promises -/
structure LOk (P : Program) (w : World) (K : PySem.W.Frag) (mg : Str → Option Value) (base : Heap) (k : Nat) (f : Addr) (F : NdefX.NF) (b : Expr) (fr : List Str) (sp : List (Option V) → Hp → VK → XK → Prop) : Prop where
  run : ∀ (A : Around) (outer : List Env) (s : Shared) (H : Hp) (ws : List (Option V)) (Q : VK) (E : XK), Room k A → Env0 P w K mg base A outer s H → H f = some (LamO f F b) → H F.c = some (LamX.CodeO F.c F.qual) → NdefX.CellsAt F.cl fr ws s.heap H → sp ws H Q E →
    codeAny (model P w) A (.call (.ref f) ⟨[], []⟩) (CR (L2.CX P w) outer P w H s Q E) s
theorem LOk.mono {j k : Nat} {f : Addr} {F : NdefX.NF} {b : Expr} {fr : List Str} {sp : List (Option V) → Hp → VK → XK → Prop} (o : LOk P w K mg base j f F b fr sp) (h : j ≤ k) : LOk P w K mg base k f F b fr sp := ⟨fun A outer s H ws Q E hr => o.run A outer s H ws Q E (hr.mono h)⟩
theorem lok_of {k : Nat} {f : Addr} {F : NdefX.NF} {b : Expr} {fr : List Str} {sp : List (Option V) → Hp → VK → XK → Prop} (S : NdefX.NScope fr [] fr F.scope) (bind : ∀ pm ctv : Value, bindArgs (PySem.W.kla_fn "<lambda>" F.qual F.params b F.scope F.cl pm (.ref F.c) ctv) ⟨[], []⟩ = pure [])
    (body : ∀ (A : Around) (outer : List Env) (s : Shared) (H : Hp) (ws : List (Option V)) (Q : VK) (E : XK), Room k (A.deeper (NdefX.envF F f s.heap.objs.size)) → ws.length = fr.length → sp ws H Q E →
      ∃ t, PE (NdefX.ncx (L2.CX P w) P w K mg base fr F f A outer s H E) b t ∧ t (NdefX.startF fr [] ws) H Q) : LOk P w K mg base (k + 1) f F b fr sp := by
  refine ⟨fun A outer s H ws Q E hr e0 hf hc C hsp => ?_⟩
  have lim : s.heap.NoLimit := e0.mod.nolimit.keeps fun b o e => (e0.bs b o e).1
  obtain ⟨⟨pm, ctv, ho⟩, _, _⟩ := e0.hok f _ hf
  refine PySem.W.kla_callFunE hr.depth ho rfl S.co S.gen rfl (NdefX.codeO_at e0.hok hc) ?_
  rw [bind]
  refine wpAny_pure (wpAny_newFunctionEnv S.nocell (fun y hy => absurd hy (by simp)) (fun h1 ns sb => ⟨lim.fresh _ sb, ?_⟩) S.kind)
  show codeAny _ _ (.expr b (NdefX.envF F f s.heap.objs.size)) _ _
  obtain ⟨t, ht, hq⟩ := body A outer s H ws Q E (hr.deeper _) C.len hsp
  have old : ∀ b o, s.heap.get? b = some o → h1.get? b = some o := fun b o e => sb.extBut b o (Nat.ne_of_lt (Heap.lt_size e)) (Heap.get?_push_of_some _ e)
  have I : L2.Inv (NdefX.ncx (L2.CX P w) P w K mg base fr F f A outer s H E) [] (NdefX.startF fr [] ws) H { s with heap := h1, toks := s.toks + ([] : List (Str × Value)).length } := NdefX.inv_startN (us := []) S hr.hd e0 rfl .nil C ns old
  refine PySem.W.kla_codeExpr (wpAny_mono (ht.run [] _ _ H Q I hq) (fun v s' z => ?_) fun e s' z => z)
  obtain ⟨v', H', J, rv, q⟩ := z
  exact ⟨v', H', J.os, J.bare, J.base, J.hok, rv, q⟩
/-- what is known of captured cells -/
structure CellsF (cl : List (Str × Addr)) (fr : List Str) (ws : List (Option V)) (H : Hp) : Prop where
  len : ws.length = fr.length
  fz : Fz (cl.map (·.2)) H
  inj : ∀ x y c, cl.lookup x = some c → cl.lookup y = some c → x = y
  has : ∀ (i : Nat) (y : Str), fr[i]? = some y → ∃ c, cl.lookup y = some c ∧ ∀ v, ws[i]? = some (some v) → ∃ o u, L2.RelV v u ∧ H c = some (CellF c o) ∧ o.data = .cell (some u)
theorem look_in {cl : List (Str × Addr)} {y : Str} {c : Addr} (e : cl.lookup y = some c) : c ∈ cl.map (·.2) := List.mem_map.mpr ⟨(y, c), PySem.mem_of_lookup e, rfl⟩
theorem CellsF.at_ {cl : List (Str × Addr)} {fr : List Str} {ws : List (Option V)} {H : Hp} {h : Heap} (C : CellsF cl fr ws H) (x : HOk P w H h) : NdefX.CellsAt cl fr ws h (offL (cl.map (·.2)) H) := by
  refine ⟨C.len, fun y c e => ?_, C.inj, fun i y e => ?_⟩
  · obtain ⟨o, v, e2, d⟩ := C.fz c (look_in e)
    obtain ⟨g, _⟩ := x c _ e2
    exact ⟨offL_in (look_in e), v, o, g, d⟩
  · obtain ⟨c, hc, hv⟩ := C.has i y e
    refine ⟨c, hc, fun v ev => ?_⟩
    obtain ⟨o, u, rv, e2, d⟩ := hv v ev
    obtain ⟨g, _⟩ := x c _ e2
    exact ⟨u, rv, o, g, d⟩
theorem CellsF.ext {cl : List (Str × Addr)} {fr : List Str} {ws : List (Option V)} {H H' : Hp} (C : CellsF cl fr ws H) (e : LamX.ExtN H H') : CellsF cl fr ws H' := by
  have k : ∀ c o, H c = some (CellF c o) → H' c = some (CellF c o) := fun c o q => e c _ q fun ps y => by unfold CellF at y; cases y
  refine ⟨C.len, fun c m => ?_, C.inj, fun i y q => ?_⟩
  · obtain ⟨o, v, e2, d⟩ := C.fz c m
    exact ⟨o, v, k c o e2, d⟩
  · obtain ⟨c, hc, hv⟩ := C.has i y q
    refine ⟨c, hc, fun v ev => ?_⟩
    obtain ⟨o, u, rv, e2, d⟩ := hv v ev
    exact ⟨o, u, rv, k c o e2, d⟩
/-- v() is wanted to end so -/
def Asks (P : Program) (w : World) (K : PySem.W.Frag) (mg : Str → Option Value) (base : Heap) (k : Nat) (H : Hp) (v : V) (Q : VK) (E : XK) : Prop :=
  ∃ (f : Addr) (F : NdefX.NF) (b : Expr) (fr : List Str) (ws : List (Option V)) (sp : List (Option V) → Hp → VK → XK → Prop), v = .ref f ∧ H f = some (LamO f F b) ∧ H F.c = some (LamX.CodeO F.c F.qual) ∧ CellsF F.cl fr ws H ∧ LOk P w K mg base k f F b fr sp ∧
    sp ws (offL (F.cl.map (·.2)) H) (fun u H' => Q u (onL (F.cl.map (·.2)) H H')) (fun cls d H' => E cls d (onL (F.cl.map (·.2)) H H'))
end
end KB
/-! lambdas made as values; a def that returns them -/
namespace KB
open PySem PySem.Spec PyProof.Rows L2 LamX
section
variable {X : Cx} {pins : List (Addr × Obj)} {σ : L2.St} {H : Hp} {s : Shared}
/-- a lambda just made is known from now on -/
theorem inv_lam {F : NdefX.NF} {b : Expr} {t' : Nat} {h' : Heap} {pm ctv : Value} (I : Inv X pins σ H { s with heap := h', toks := t' }) :
    Inv X pins σ (upd H h'.objs.size (LamO h'.objs.size F b)) { s with heap := h'.push (PySem.W.kla_obj "<lambda>" F.qual F.params b F.scope F.cl pm F.c ctv), toks := t' } := by
  refine Inv.laid (s := { s with heap := h', toks := t' }) (a := h'.objs.size) I (fun b u e => Heap.get?_push_of_some _ e) (Nat.le_refl _) ?_
  have e : (h'.push (PySem.W.kla_obj "<lambda>" F.qual F.params b F.scope F.cl pm F.c ctv)).get? h'.objs.size = some (PySem.W.kla_obj "<lambda>" F.qual F.params b F.scope F.cl pm F.c ctv) := Heap.get?_push_size _ rfl
  exact ⟨⟨pm, ctv, e⟩, ⟨_, e⟩, fun h1 h2 ⟨p, t, z⟩ st => ⟨p, t, st _ z⟩⟩
/-- a lambda that the running frame made: its object, its code, how its cells lie to the frame's -/
structure LamAt (X : Cx) (f : Addr) (F : NdefX.NF) (b : Expr) (fr : List Str) (js : List Nat) (H : Hp) : Prop where
  obj : H f = some (LamO f F b)
  code : H F.c = some (CodeO F.c F.qual)
  caps : NdefX.Caps X F.cl fr js
  sub : ∀ p ∈ F.cl, X.env.cells.lookup p.1 = some p.2
theorem LamAt.ext {f : Addr} {F : NdefX.NF} {b : Expr} {fr : List Str} {js : List Nat} {H H' : Hp} (l : LamAt X f F b fr js H) (e : ExtN H H') : LamAt X f F b fr js H' :=
  ⟨e _ _ l.obj fun ps => lamO_ne ps, e _ _ l.code fun ps => codeO_ne ps, l.caps, l.sub⟩
theorem lam_mk {T : List (Addr × Str)} {c P : Addr} {params : Arguments} {body : Expr} {scope : Scope} {pos : Pos} {E : Value → Shared → Prop} {Q : Value → Shared → Prop} (I : Inv X pins σ H s) (TB : TabB X.base X.mg c P) (hcode : X.env.code = .ref c)
    (hm : (P, X.env.qual ++ "<lambda>") ∈ T) (hu : ∀ p ∈ T, p.1 = P → p.2 = X.env.qual ++ "<lambda>") (hT : Tabs T H) (hdef : defaultsOf params X.env = ([], [])) (hfree : ∀ y ∈ scope.names, y.2 = .free → ∃ c, X.env.cells.lookup y.1 = some c)
    (h : ∀ (f c' : Addr) (H1 : Hp) (s' : Shared), Inv X pins σ H1 s' → ExtN H H1 → Tabs T H1 → H f = none → H1 f = some (LamO f ⟨"<lambda>", X.env.qual ++ "<lambda>", params, [], scope, cloFrom X.env.cells scope.names [], c'⟩ body) → H1 c' = some (CodeO c' (X.env.qual ++ "<lambda>")) → Q (.ref f) s') :
    wpAny (model X.prog X.w) X.A (eval (.Lambda params body scope pos) X.env) Q E s := by
  obtain ⟨ps, hP, ht, ha⟩ := hT _ hm
  refine PySem.W.kla_eval hdef ?_
  have bP : s.heap.BuiltinsAt X.mg P := TB.bm.keeps I.bk
  have hP' : s.heap.get? P = some { cls := .none, data := .fields ps } := I.hok P _ hP
  cases hc : codeAmong pos ps.toList with
  | none =>
    refine PySem.W.kla_makeFunction (mg := X.mg) (c := c) (P := P) (ps := ps) (closure_ok hfree) I.ok.glob (I.mod.glob.keeps I.bk) hcode (TB.code.keeps I.bk) hP' ht hc TB.gP bP fun c' ctv h' tk hx hge hlt hrec htb => ?_
    obtain ⟨c2, oc, vs, t, e2, hoc, hd, hv⟩ := hrec
    cases e2
    have nC : H c' = none := I.hok.fresh hge
    have I1 := inv_table (t' := tk) (more := #[rawInt pos.line, rawInt pos.col, .ref c']) (h' := h') I hP hx htb hge ⟨oc, vs, t, hoc, hd, hv⟩
    have hE : ExtN H (upd (upd H P (.tbl (ps ++ #[rawInt pos.line, rawInt pos.col, .ref c']))) c' (CodeO c' (X.env.qual ++ "<lambda>"))) := fun b o e n => by
      rw [upd_ne (ne_of_none e nC), upd_ne (fun z => n ps (Option.some.inj (e.symm.trans (by rw [z]; exact hP))))]
      exact e
    have eL : (ps ++ #[rawInt pos.line, rawInt pos.col, .ref c']).toList = ps.toList ++ [rawInt pos.line, rawInt pos.col, .ref c'] := by simp
    have T1 : Tabs T (upd (upd H P (.tbl (ps ++ #[rawInt pos.line, rawInt pos.col, .ref c']))) c' (CodeO c' (X.env.qual ++ "<lambda>"))) := fun p hp => by
      by_cases hb : p.1 = P
      · rw [hu p hp hb, hb]
        refine ⟨_, by rw [upd_ne (ne_of_none hP nC), upd_same], by rw [eL]; exact PySem.TriplesOk_snoc _ _ _ _ ht, fun p' cv hcv => ?_⟩
        rw [eL] at hcv
        rcases among_app _ ht hcv with z | z
        · obtain ⟨c0, e1, e2⟩ := ha p' cv z
          exact ⟨c0, e1, hE _ _ e2 codeO_ne⟩
        · exact ⟨c', z, upd_same⟩
      · obtain ⟨ps', a1, a2, a3⟩ := hT p hp
        refine ⟨ps', by rw [upd_ne (ne_of_none a1 nC), upd_ne hb]; exact a1, a2, fun p' cv hcv => ?_⟩
        obtain ⟨c0, e1, e2⟩ := a3 p' cv hcv
        exact ⟨c0, e1, hE _ _ e2 codeO_ne⟩
    have nF := I1.hok.fresh (Nat.le_refl h'.objs.size)
    have I2 := inv_lam (F := ⟨"<lambda>", X.env.qual ++ "<lambda>", params, [], scope, cloFrom X.env.cells scope.names [], c'⟩) (b := body) (pm := (X.mg "__name__").getD .none) (ctv := ctv) I1
    refine h h'.objs.size c' _ _ I2 (fun b o e n => ?_) (T1.ext fun b o e => ?_) (I.hok.fresh (Nat.le_trans hge (Nat.le_of_lt hlt))) upd_same ?_
    · have e1 := hE b o e n
      exact (upd_ne (ne_of_none e1 nF)).trans e1
    · exact (upd_ne (ne_of_none e nF)).trans e
    · exact (upd_ne (Nat.ne_of_lt hlt)).trans upd_same
  | some cv =>
    obtain ⟨c', e, hco⟩ := ha pos cv hc
    subst e
    refine PySem.W.kla_makeFunctionHit (mg := X.mg) (c := c) (P := P) (ps := ps) (closure_ok hfree) I.ok.glob (I.mod.glob.keeps I.bk) hcode (TB.code.keeps I.bk) hP' ht hc bP fun ctv h' tk hx hsz => ?_
    have I1 : Inv X pins σ H { s with heap := h', toks := tk } := I.kept hx
    have nF : H h'.objs.size = none := I1.hok.fresh (Nat.le_refl _)
    have I2 := inv_lam (F := ⟨"<lambda>", X.env.qual ++ "<lambda>", params, [], scope, cloFrom X.env.cells scope.names [], c'⟩) (b := body) (pm := (X.mg "__name__").getD .none) (ctv := ctv) I1
    refine h h'.objs.size c' _ _ I2 (fun b o e n => ?_) (hT.ext fun b o e => ?_) nF upd_same ?_
    · exact (upd_ne (ne_of_none e nF)).trans e
    · exact (upd_ne (ne_of_none e nF)).trans e
    · exact (upd_ne (ne_of_none hco nF)).trans hco
theorem lam_ok {P : Program} {w : World} {K : PySem.W.Frag} {mg : Str → Option Value} {base : Heap} {k : Nat} {q : Str} {params : Arguments} {scope : Scope} {b : Expr} {fr : List Str} {sp : List (Option V) → Hp → VK → XK → Prop} (hs : NdefX.nscB fr [] fr scope = true)
    (bind : ∀ (cl : List (Str × Addr)) (c' : Addr) (pm ctv : Value), bindArgs (PySem.W.kla_fn "<lambda>" q params b scope cl pm (.ref c') ctv) ⟨[], []⟩ = pure [])
    (body : ∀ (f : Addr) (cl : List (Str × Addr)) (c' : Addr) (A : Around) (outer : List Env) (s : Shared) (H : Hp) (ws : List (Option V)) (Q : VK) (E : XK), Room k (A.deeper (NdefX.envF ⟨"<lambda>", q, params, [], scope, cl, c'⟩ f s.heap.objs.size)) → sp ws H Q E →
      ∃ t, PE (NdefX.ncx (L2.CX P w) P w K mg base fr ⟨"<lambda>", q, params, [], scope, cl, c'⟩ f A outer s H E) b t ∧ t (NdefX.startF fr [] ws) H Q) (f : Addr) (cl : List (Str × Addr)) (c' : Addr) : LOk P w K mg base (k + 1) f ⟨"<lambda>", q, params, [], scope, cl, c'⟩ b fr sp :=
  lok_of (F := ⟨"<lambda>", q, params, [], scope, cl, c'⟩) (NdefX.nscope_by hs) (bind cl c') fun A outer s H ws Q E hr hl h => body f cl c' A outer s H ws Q E hr h
/-- the reading of a lambda as a value -/
def tLamV (X : Cx) (T : List (Addr × Str)) (k : Nat) (fr : List Str) (js : List Nat) (sp : List (Option V) → Hp → VK → XK → Prop) : TE := fun σ H Q => Tabs T H ∧ ∀ (f : Addr) (F : NdefX.NF) (b : Expr) (H1 : Hp), ExtN H H1 → Tabs T H1 → H f = none → LamAt X f F b fr js H1 → LOk X.prog X.w X.K X.mg X.base k f F b fr sp → Q (.ref f) H1
theorem pe_lamV {T : List (Addr × Str)} {c P : Addr} {params : Arguments} {body : Expr} {scope : Scope} {pos : Pos} {k : Nat} {fr : List Str} {js : List Nat} {sp : List (Option V) → Hp → VK → XK → Prop} (TB : TabB X.base X.mg c P) (hcode : X.env.code = .ref c)
    (hm : (P, X.env.qual ++ "<lambda>") ∈ T) (hu : ∀ p ∈ T, p.1 = P → p.2 = X.env.qual ++ "<lambda>") {sc : Scope} (hsc : X.env.scope = sc) (hb : NdefX.ndefB sc scope fr = true) (hjs : js.map (fun j => X.N[j]?) = fr.map some)
    (ok : ∀ f cl c', LOk X.prog X.w X.K X.mg X.base k f ⟨"<lambda>", X.env.qual ++ "<lambda>", params, [], scope, cl, c'⟩ body fr sp) (hdef : defaultsOf params X.env = ([], []) := by rfl) :
    PE X (.Lambda params body scope pos) (tLamV X T k fr js sp) := by
  subst hsc
  refine ⟨fun pins s σ H Q I h => ?_⟩
  obtain ⟨hT, h⟩ := h
  have hf : ∀ y ∈ scope.names, y.2 = .free → ∃ c, X.env.cells.lookup y.1 = some c := fun y hy e => (NdefX.ndef_free hb y hy e).elim (fun z => I.ok.has _ (.inl z)) fun z => I.ok.has _ (.inr z)
  refine lam_mk I TB hcode hm hu hT hdef hf fun f c' H1 s' I1 eN T1 f0 f1 c1 => ⟨V.ref f, _, I1, rfl, h f _ _ H1 eN T1 f0 ⟨f1, c1, NdefX.Caps.made I.ok (NdefX.ndef_free hb) (NdefX.ndef_fr hb) hjs, fun p hp => ?_⟩ (ok f _ c')⟩
  rcases cloFrom_mem (n := p.1) (c := p.2) hp with z | ⟨h1, h2⟩
  · cases z
  · obtain ⟨c2, hc⟩ := hf _ h1 rfl
    have hc : X.env.cells.lookup p.1 = some c2 := hc
    rw [h2, hc] <;> rfl
end
/-! ### a def that ends with its cells known -/
/-- its cells are known besides -/
structure Trk (X : Cx) (σ : L2.St) (H H' : Hp) : Prop where
  out : ∀ b, (∀ x, X.env.cells.lookup x ≠ some b) → H' b = H b
  in_ : ∀ x c, X.env.cells.lookup x = some c → ∃ o v, H' c = some (CellF c o) ∧ o.data = .cell v
  non : ∀ x c, X.env.cells.lookup x = some c → H c = none
  inj : ∀ x y c, X.env.cells.lookup x = some c → X.env.cells.lookup y = some c → x = y
  has : ∀ x, X.env.scope.names.lookup x = some .cell ∨ X.env.scope.names.lookup x = some .free → ∃ c, X.env.cells.lookup x = some c
  val : ∀ (i : Nat) (x : Str) (v : V), X.N[i]? = some x → σ[i]? = some (some v) → (X.env.scope.names.lookup x = some .cell ∨ X.env.scope.names.lookup x = some .free) → ∃ c o u, X.env.cells.lookup x = some c ∧ L2.RelV v u ∧ H' c = some (CellF c o) ∧ o.data = .cell (some u)
theorem Trk.sub {X : Cx} {σ : L2.St} {H H' : Hp} (t : Trk X σ H H') : Same H H' := fun b o e => by
  rw [t.out b fun x z => by rw [t.non x b z] at e; cases e]; exact e
section
variable {X : Cx} {pins : List (Addr × Obj)} {σ : L2.St} {H : Hp} {s : Shared}
open Classical in
theorem trk_gen {h : Heap} (ok : X.Ok) (non : ∀ x c, X.env.cells.lookup x = some c → H c = none) (cel : ∀ x c, X.env.cells.lookup x = some c → ∃ v, h.IsCell c v)
    (val : ∀ (i : Nat) (x : Str) (v : V), X.N[i]? = some x → σ[i]? = some (some v) → (X.env.scope.names.lookup x = some .cell ∨ X.env.scope.names.lookup x = some .free) → ∃ u c, L2.RelV v u ∧ X.env.cells.lookup x = some c ∧ h.IsCell c (some u)) (hok : HOk X.prog X.w H h) : ∃ H', Trk X σ H H' ∧ HOk X.prog X.w H' h := by
  let H' : Hp := fun b => if ∃ x, X.env.cells.lookup x = some b then (match h.get? b with | some o => some (CellF b o) | none => none) else H b
  have at_ : ∀ x c o, X.env.cells.lookup x = some c → h.get? c = some o → H' c = some (CellF c o) := fun x c o e g => by
    show (if ∃ x, X.env.cells.lookup x = some c then (match h.get? c with | some o => some (CellF c o) | none => none) else H c) = _
    rw [if_pos ⟨x, e⟩, g]
  have out : ∀ b, (∀ x, X.env.cells.lookup x ≠ some b) → H' b = H b := fun b n => if_neg fun ⟨x, e⟩ => n x e
  have t : Trk X σ H H' := by
    refine ⟨out, fun x c e => ?_, non, ok.inj, fun x k => k.elim (fun z => ok.has x (.inl z)) fun z => ok.has x (.inr z), fun i x v e1 e2 k => ?_⟩
    · obtain ⟨v, o, g, d⟩ := cel x c e
      exact ⟨o, v, at_ x c o e g, d⟩
    · obtain ⟨u, c, r, hc, o, g, d⟩ := val i x v e1 e2 k
      exact ⟨c, o, u, hc, r, at_ x c o hc g, d⟩
  refine ⟨H', t, fun b o e => ?_⟩
  by_cases m : ∃ x, X.env.cells.lookup x = some b
  · obtain ⟨x, hx⟩ := m
    obtain ⟨v, u, g, d⟩ := cel x b hx
    rw [at_ x b u hx g] at e
    rw [← Option.some.inj e]
    exact ⟨g, ⟨u, g⟩⟩
  · rw [out b fun x z => m ⟨x, z⟩] at e
    exact (hok b o e).stay (fun c u _ q => q) (fun c q => t.sub _ _ q) fun c xs q => t.sub _ _ q
theorem Inv.cellV (I : Inv X pins σ H s) {i : Nat} {x : Str} {v : V} (e1 : X.N[i]? = some x) (e2 : σ[i]? = some (some v)) (k : X.env.scope.names.lookup x = some .cell ∨ X.env.scope.names.lookup x = some .free) : ∃ u c, L2.RelV v u ∧ X.env.cells.lookup x = some c ∧ s.heap.IsCell c (some u) := by
  obtain ⟨m, hn, hl⟩ := I.loc
  obtain ⟨u, r, l⟩ := hl i x v e1 e2 (k.elim (fun z => .inr (.inl z)) fun z => .inr (.inr z))
  rcases l with ⟨z, _⟩ | ⟨_, c, hc, q⟩
  · have z' : X.env.scope.names.lookup x = some .local := z
    rcases k with k | k <;> rw [k] at z' <;> cases z'
  · exact ⟨u, c, r, hc, q⟩
theorem trk_of (I : Inv X pins σ H s) : ∃ H', Trk X σ H H' ∧ HOk X.prog X.w H' s.heap :=
  trk_gen I.ok I.freeC I.cell (fun i x v e1 e2 k => KB.Inv.cellV I e1 e2 k) I.hok
/-- .. of the cells that a lambda captured -/
theorem LamAt.cells {f : Addr} {F : NdefX.NF} {b : Expr} {fr : List Str} {js : List Nat} {H1 H' : Hp} (l : LamAt X f F b fr js H1) (t : Trk X σ H H') : CellsF F.cl fr (js.map (NdefX.slotAt σ)) H' := by
  refine ⟨?_, fun c m => ?_, fun x y c e1 e2 => t.inj x y c (l.caps.sub x c e1) (l.caps.sub y c e2), fun i y e => ?_⟩
  · have q := congrArg List.length l.caps.at_
    rw [List.length_map, List.length_map] at q
    rw [List.length_map]; exact q
  · obtain ⟨p, hp, rfl⟩ := List.mem_map.mp m
    exact t.in_ _ _ (l.sub p hp)
  · have e2 : (js.map fun j => X.N[j]?)[i]? = some (some y) := by
      rw [l.caps.at_, List.getElem?_map, e] <;> rfl
    rw [List.getElem?_map] at e2
    cases ej : js[i]? with
    | none => rw [ej] at e2; cases e2
    | some j =>
      rw [ej] at e2
      have hj : X.N[j]? = some y := Option.some.inj (show some (X.N[j]?) = some (some y) from e2)
      have k := l.caps.kin y (List.mem_of_getElem? e)
      obtain ⟨c, hc⟩ := t.has y k
      refine ⟨c, l.caps.sup y (List.mem_of_getElem? e) c hc, fun v ev => ?_⟩
      rw [List.getElem?_map, ej] at ev
      have ev2 : σ[j]? = some (some v) := NdefX.slotAt_some (Option.some.inj (show some (NdefX.slotAt σ j) = some (some v) from ev))
      obtain ⟨c2, o, u, h1, r, h2, d⟩ := t.val j y v hj ev2 k
      rw [hc] at h1
      cases h1
      exact ⟨o, u, r, h2, d⟩
theorem LamAt.ne {f : Addr} {F : NdefX.NF} {b : Expr} {fr : List Str} {js : List Nat} {H1 H' : Hp} (l : LamAt X f F b fr js H1) (t : Trk X σ H1 H') : H' f = some (LamO f F b) ∧ H' F.c = some (CodeO F.c F.qual) := ⟨t.sub _ _ l.obj, t.sub _ _ l.code⟩
/-- a call that can only be refused with the class at C -/
def Raises (P : Program) (w : World) (K : PySem.W.Frag) (mg : Str → Option Value) (base : Heap) (k : Nat) (C : Addr) (H : Hp) (v : V) : Prop :=
  ∀ H', ExtN H H' → ∀ (Q : VK) (E : XK), (∀ H'', Same H' H'' → E (.ref C) none H'') → Asks P w K mg base k H' v Q E
theorem Raises.ext {P : Program} {w : World} {K : PySem.W.Frag} {mg : Str → Option Value} {base : Heap} {k : Nat} {C : Addr} {H H' : Hp} {v : V} (r : Raises P w K mg base k C H v) (e : ExtN H H') : Raises P w K mg base k C H' v := fun H2 e2 => r H2 (e.trans e2)
/-- .. of a lambda of the running frame, once the cells are known -/
def Made (X : Cx) (σ : L2.St) (k : Nat) (C : Addr) (H : Hp) (v : V) : Prop :=
  ∃ (f : Addr) (F : NdefX.NF) (b : Expr) (fr : List Str) (js : List Nat) (sp : List (Option V) → Hp → VK → XK → Prop), v = .ref f ∧ LamAt X f F b fr js H ∧ LOk X.prog X.w X.K X.mg X.base k f F b fr sp ∧
    ∀ H', ExtN H H' → ∀ (Q : VK) (E : XK), (∀ H'', Same H' H'' → E (.ref C) none H'') → sp (js.map (NdefX.slotAt σ)) H' Q E
theorem Made.ext {k : Nat} {C : Addr} {H H' : Hp} {v : V} (m : Made X σ k C H v) (e : ExtN H H') : Made X σ k C H' v := by
  obtain ⟨f, F, b, fr, js, sp, h1, h2, h3, h4⟩ := m
  exact ⟨f, F, b, fr, js, sp, h1, h2.ext e, h3, fun H2 e2 => h4 H2 (e.trans e2)⟩
theorem Made.raises {k : Nat} {C : Addr} {H H' : Hp} {v : V} (m : Made X σ k C H v) (t : Trk X σ H H') : Raises X.prog X.w X.K X.mg X.base k C H' v := by
  obtain ⟨f, F, b, fr, js, sp, rfl, l, ok, ref⟩ := m
  intro H2 e2 Q E hE
  have cs := l.cells t
  have C2 := cs.ext e2
  refine ⟨f, F, b, fr, _, sp, rfl, e2 _ _ (l.ne t).1 fun ps => lamO_ne ps, e2 _ _ (l.ne t).2 fun ps => codeO_ne ps, C2, ok, ?_⟩
  have off : ∀ c, c ∈ F.cl.map (·.2) → H c = none := fun c m => by
    obtain ⟨p, hp, rfl⟩ := List.mem_map.mp m
    exact t.non _ _ (l.sub p hp)
  refine ref _ (fun b o e n => ?_) _ _ fun H'' s => ?_
  · rw [offL_out fun m => by rw [off b m] at e; cases e]
    exact e2 _ _ (t.sub _ _ e) n
  · refine hE _ fun b o e => ?_
    by_cases m : b ∈ F.cl.map (·.2)
    · rw [onL_in m]; exact e
    · rw [onL_out m]
      exact s _ _ (by rw [offL_out m]; exact e)
end
end KB
/-! a def that returns, its names known at the end; a call while the running frame's cells are known -/
namespace KB
open PySem PySem.Spec PyProof.Rows L2 LamX
/-- a body that ends with a return: R is told the names' values too -/
structure PSc (X : Cx) (st : List Stmt) (t : (V → L2.St → Hp → Prop) → L2.St → Hp → Prop) : Prop where
  run : ∀ (pins : List (Addr × Obj)) (s : Shared) (σ : L2.St) (H : Hp) (R : V → L2.St → Hp → Prop), Inv X pins σ H s → t R σ H →
    wpAny (model X.prog X.w) X.A (execs st X.env) (fun f s' => ∃ u v σ' H', f = .ret u ∧ Inv X pins σ' H' s' ∧ L2.RelV v u ∧ R v σ' H') X.xe s
section
variable {X : Cx} {st : Stmt} {rest : List Stmt} {t : TS} {u : (V → L2.St → Hp → Prop) → L2.St → Hp → Prop} {e : Expr} {te : TE} {pos : Pos}
def tSeqC (t : TS) (u : (V → L2.St → Hp → Prop) → L2.St → Hp → Prop) : (V → L2.St → Hp → Prop) → L2.St → Hp → Prop := fun R σ H => t { nx := u R, rt := fun _ _ => False } σ H
theorem psc_cons (h1 : PS X st t) (h2 : PSc X rest u) : PSc X (st :: rest) (tSeqC t u) := by
  refine ⟨fun pins s σ H R I h => ?_⟩
  refine wpAny_execs_cons (thn (h1.run pins s σ H _ I h) fun f s1 q => ?_)
  cases f with
  | next =>
    obtain ⟨σ', H', I', q⟩ := q
    exact h2.run pins s1 σ' H' R I' q
  | ret v =>
    obtain ⟨_, _, _, _, _, q⟩ := q
    exact False.elim q
  | brk =>
    obtain ⟨_, _, _, q⟩ := q
    exact False.elim q
  | cont =>
    obtain ⟨_, _, _, q⟩ := q
    exact False.elim q
theorem psc_ret (he : PE X e te) : PSc X [.Return (some e) pos] (fun R σ H => te σ H fun v H1 => R v σ H1) := by
  refine ⟨fun pins s σ H R I h => ?_⟩
  refine wpAny_execs_cons (wpAny_Return_some (thn (he.run pins s σ H _ I h) fun v s1 ⟨x, H1, I1, r1, q1⟩ => ?_))
  exact ⟨v, x, σ, H1, rfl, I1, r1, q1⟩
theorem psc_gen {S : List Stmt} {t I : (V → L2.St → Hp → Prop) → L2.St → Hp → Prop} (h : PSc X S t) (w : ∀ R σ H, I R σ H → t R σ H) : PSc X S I :=
  ⟨fun pins s σ H R J i => h.run pins s σ H R J (w R σ H i)⟩
end
/-- a def by such a body: what it tells of its end it tells of the heap in which its cells are known besides -/
theorem fn_ofC {P : Program} {w : World} {K : PySem.W.Frag} {mg : Str → Option Value} {base : Heap} {k : Nat} {f : Addr} {name qual : Str} {params : Arguments} {body : List Stmt} {scope : Scope} {dV kV doc pm cdv ct oc : Value} {an od : Option Addr}
    {osl : Array (Option Value)} {N ps : List Str} {sp : Sp} (lk : K.lookup f = some ⟨oc, od, .func (PySem.W.fnOf name qual params body scope dV kV doc pm an cdv ct), osl⟩) (hcd : PySem.W.codeIn K cdv qual = true) (S : FnScope N ps scope)
    (len : ∀ vs H Q E, sp vs H Q E → vs.length = ps.length)
    (hbody : ∀ (A : Around) (outer : List Env) (s : Shared) (H : Hp) (vs : List V) (Q : VK) (E : XK), Room k (A.deeper (envOfC qual scope s.heap.objs.size f cdv)) → sp vs H Q E →
      ∃ t, PSc (cxOf (L2.CX P w) P w K mg base N qual scope f cdv A outer s H E) body t ∧ t (fun v σ' H' => ∀ H'', Trk (cxOf (L2.CX P w) P w K mg base N qual scope f cdv A outer s H E) σ' H' H'' → Q v H'') (start N vs) H) :
    FnOk P w K mg base (L2.CX P w) (k + 1) f (PySem.W.fnOf name qual params body scope dV kV doc pm an cdv ct) ps sp := by
  refine ⟨len, fun A outer s H args us vs Q E hr e0 hb r hsp => ?_⟩
  have hl := len _ _ _ _ hsp
  have KX : K.In s.heap := e0.mod.kin.keeps fun b o e => (e0.bs b o e).1
  have lim : s.heap.NoLimit := e0.mod.nolimit.keeps fun b o e => (e0.bs b o e).1
  have hkind : ∀ y ∈ ps.zip us, scope.names.lookup y.1 = some .local ∨ (scope.names.lookup y.1 = some .cell ∧ ((cellsFrom (s.heap.objs.size + 1) scope.names []).lookup y.1).isSome = true) := fun ⟨n, v⟩ hy => by
    rcases S.par n (List.of_mem_zip hy).1 with q | q
    · exact .inl q
    · exact .inr ⟨q, PySem.W.cellsFrom_some _ _ _ (.inl q)⟩
  refine codeAny_call_function hr.depth (KX _ _ lk) rfl S.co S.gen rfl (PySem.W.codeRec_of KX hcd) (hb _ _ _ _ ?_)
  refine wpAny_newFunctionEnv_cells S.kind hkind fun env he s1 x => ?_
  subst he
  refine ⟨lim.keeps x.toInCall.keep, codeAny_func ?_⟩
  obtain ⟨t, ht, hq⟩ := hbody A outer s H vs Q E (hr.deeper _) hsp
  have I : Inv (cxOf (L2.CX P w) P w K mg base N qual scope f cdv A outer s H E) [] (start N vs) H s1 := inv_start S hr.hd e0 hl r x
  refine wpAny_mono (ht.run [] s1 (start N vs) H _ I hq) (fun fl s' hs => ?_) fun e s' hs => hs
  obtain ⟨u, v, σ', H', rfl, J, rv, q⟩ := hs
  obtain ⟨H'', T, ok⟩ := trk_of J
  have cab : ∀ b o, s.heap.get? b = some o → ∀ x, (envOfC qual scope s.heap.objs.size f cdv).cells.lookup x ≠ some b := fun b o e x z => by
    have h1 : s.heap.objs.size ≤ b := J.ok.cab x b rfl z
    exact absurd (Nat.lt_of_lt_of_le (Heap.lt_size e) h1) (Nat.lt_irrefl _)
  have un : Un (frs outer) [] H H' s.heap s'.heap := J.base
  have nn : ∀ b o, H' b = some o → H'' b = some o := fun b o e => T.sub b o e
  exact ⟨v, H'', J.os, J.bare, ⟨un.keep, un.slot, fun b o e n m => by rw [T.out b (cab b o e)]; exact un.free b o e n m, un.there, fun b xs e => nn _ _ (un.tups b xs e), fun b o u e => nn _ _ (un.frzs b o u e), fun b ps e => let ⟨m, z⟩ := un.tbls b ps e; ⟨m, nn _ _ z⟩⟩, ok, rv, q H'' T⟩
end KB
/-! a call that is made with the running frame's cells known; [f(x) for x in y] so -/
namespace KB
open PySem PySem.Spec PyProof.Rows L2 LamX
section
variable {P : Program} {w : World} {H H1 : Hp} {h h' : Heap} {L : List Addr} {fs : List Addr}
theorem fz_later {fs : List Addr} {h h' : Heap} {H' : Hp} (z : Fz L H1) (u : ∀ b o v, H1 b = some (.frz o v) → H' b = some (.frz o v)) : Fz L H' := fun c m => by
  obtain ⟨o, v, e, d⟩ := z c m
  exact ⟨o, v, u _ _ _ e, d⟩
theorem cr_off {outer : List Env} {s s' : Shared} {Q : VK} {E : XK} {r : Result} (out : ∀ b, b ∉ L → H1 b = H b) (non : ∀ c ∈ L, H c = none) (z : Fz L H1) (x : HOk P w H1 s.heap)
    (c : CR (L2.CX P w) outer P w H1 s (fun v H' => Q v (offL L H')) (fun cls d H' => E cls d (offL L H')) r s') : CR (L2.CX P w) outer P w H s Q E r s' := by
  have nl : ∀ b o, H b = some o → b ∉ L := fun b o q m => by rw [non b m] at q; cases q
  have old : ∀ (B : Heap) (H' : Hp), Fz L H' → HOk P w H' B → (∀ b o v, H1 b = some (.frz o v) → H' b = some (.frz o v)) → ∀ b o, s.heap.get? b = some o → b ∈ L → B.get? b = some o := fun B H' z2 ok fr b o e m => by
    obtain ⟨u, v, e1, _⟩ := z b m
    obtain ⟨g, _⟩ := x b _ e1
    rw [e] at g
    cases g
    exact (ok b _ (fr _ _ _ e1)).1
  match r, c with
  | .ok (.ret u), ⟨v, H', os, bare, un, hok, rv, q⟩ =>
    have z2 : Fz L H' := fz_later (fs := []) (h := s.heap) (h' := s.heap) z un.frzs
    refine ⟨v, offL L H', os, bare, ⟨fun b o e n q r => ?_, fun b o e n q r => ?_, fun b o e n r => ?_, un.there, fun b xs e => ?_, fun b o v e => ?_, fun b ps e => ?_⟩, hok_off hok z2, rv, q⟩
    · by_cases m : b ∈ L
      · exact old _ _ z2 hok un.frzs b o e m
      · exact un.keep b o e (by rw [out b m]; exact n) q r
    · by_cases m : b ∈ L
      · exact ⟨o.slots, old _ _ z2 hok un.frzs b o e m⟩
      · exact un.slot b o e (by rw [out b m]; exact n) q r
    · by_cases m : b ∈ L
      · exact offL_in m
      · rw [offL_out m]; exact un.free b o e (by rw [out b m]; exact n) r
    · rw [offL_out (nl _ _ e)]; exact un.tups b xs (by rw [out b (nl _ _ e)]; exact e)
    · rw [offL_out (nl _ _ e)]; exact un.frzs b o v (by rw [out b (nl _ _ e)]; exact e)
    · rw [offL_out (nl _ _ e)]; exact un.tbls b ps (by rw [out b (nl _ _ e)]; exact e)
  | .error e, ⟨a, B, H', cls, d, ea, fly, hok, ub, na, os, bare, q⟩ =>
    have z2 : Fz L H' := fz_later (fs := []) (h := s.heap) (h' := s.heap) z ub.frzs
    refine ⟨a, B, offL L H', cls, d, ea, fly, hok_off hok z2, ⟨fun b o e n q => ?_, ub.slot, fun b o e n => ?_, ub.there, fun b xs e => ?_, fun b o v e => ?_, fun b ps e => ?_⟩, ?_, os, bare, q⟩
    · by_cases m : b ∈ L
      · exact old _ _ z2 hok ub.frzs b o e m
      · exact ub.keep b o e (by rw [out b m]; exact n) q
    · by_cases m : b ∈ L
      · exact offL_in m
      · rw [offL_out m]; exact ub.free b o e (by rw [out b m]; exact n)
    · rw [offL_out (nl _ _ e)]; exact ub.tups b xs (by rw [out b (nl _ _ e)]; exact e)
    · rw [offL_out (nl _ _ e)]; exact ub.frzs b o v (by rw [out b (nl _ _ e)]; exact e)
    · rw [offL_out (nl _ _ e)]; exact ub.tbls b ps (by rw [out b (nl _ _ e)]; exact e)
    · by_cases m : a ∈ L
      · exact offL_in m
      · rw [offL_out m]; exact na
end
section
variable {X : Cx}
/-- [elt for target in iter]: what the element reads may rest on the entry -/
theorem pe_lcI {elt tg iter : Expr} {scope : Scope} {own : List (Str × Nat)} {pos : Pos} {wi : TI} {g : TG} {te : L2.St → TE} (hc : X.calm = true) (hN : X.N.Nodup) (hi : PI X tg iter wi) (ok : BlkOk X.N X.env.scope scope own)
    (hg : ∀ (s : Shared) (H : Hp) (C : Addr) (cl : List (Str × Addr)) (fp : List Addr), PG (X.blk s H scope (compEnvC scope cl C X.env) fp) tg g)
    (he : ∀ (pins : List (Addr × Obj)) (σ : L2.St) (s : Shared) (H : Hp) (C : Addr) (cl : List (Str × Addr)) (fp : List Addr), Inv X pins σ H s → (∀ b ∈ fp, FpOk X pins H b) → PE (X.blk s H scope (compEnvC scope cl C X.env) fp) elt (te σ)) (hs : ∀ x, foldedSetIterable iter X.env x = pure x := by intro _; rfl) :
    PE X (.ListComp elt [⟨tg, iter, [], 0⟩] scope pos) (fun σ => tLc wi g tYes (te σ) (own.map (·.2)) σ) := by
  refine ⟨fun pins s σ H Q I h => ?_⟩
  rw [eval_ListComp]
  have cls : ∀ y ∈ scope.names, y.2 = .free → ∃ c, X.env.cells.lookup y.1 = some c := fun y hy e => (ok.free y hy e).elim (fun k => I.ok.has _ (.inl k)) fun k => I.ok.has _ (.inr k)
  refine wpAny_comprehension_free (use := none) rfl hs (closure_ok cls) ok.kind (fun y hy e => by rw [ok.uniq y hy, e]) (thn (hi.run pins s σ H _ I h) fun _ _ hx => thn hx fun _ s1 h1 => ?_)
  obtain ⟨it, fp, tn, J, H1, rfl, I1, T, st1, f1, q⟩ := h1
  refine wpAny_newObj_type (newEnv_comp ?_) (Nat.zero_le _)
  have hn : H1 s1.heap.objs.size = none := I1.hok.fresh (Nat.le_refl _)
  obtain ⟨W, ⟨m0, w0⟩, turn⟩ := q _ hn
  obtain ⟨s2, e2⟩ : ∃ s2 : Shared, s2 = { s1 with heap := s1.heap.push { cls := .type "list", data := .seq ([] : List Value).toArray } } := ⟨_, rfl⟩
  obtain ⟨D, eD⟩ : ∃ D, D = s1.heap.objs.size := ⟨_, rfl⟩
  rw [← e2, ← eD]
  rw [← eD] at w0 turn hn
  have g2 : s2.heap.get? D = some { cls := .type "list", data := .seq ([] : List Value).toArray } := by rw [e2, eD]; exact Heap.get?_push_size _ rfl
  have k2 : ∀ b o, s1.heap.get? b = some o → s2.heap.get? b = some o := fun b o e => by rw [e2]; exact Heap.get?_push_of_some _ e
  have I2 : Inv X pins σ (upd H1 D (.lst [])) s2 := by
    rw [e2] at g2 k2 ⊢
    exact I1.laid (t' := s1.toks) k2 (Nat.le_of_eq eD.symm) ⟨Nat.zero_le _, [], 0, .nil, g2⟩
  have f2 : ∀ b ∈ fp, FpOk X pins (upd H1 D (.lst [])) b ∧ b < s2.heap.objs.size := fun b hb => by
    obtain ⟨o, e, _⟩ := T.obj _ _ st1 b hb
    have lt := Heap.lt_size e
    exact ⟨⟨by rw [upd_ne (by rw [eD]; exact Nat.ne_of_lt lt)]; exact (f1 b hb).1, (f1 b hb).2⟩, Heap.lt_size (k2 b o e)⟩
  have st2 : tn 0 s2.heap := T.keep _ _ _ st1 fun b _ o e => k2 b o e
  obtain ⟨H2, eH⟩ : ∃ H2, H2 = upd H1 D (.lst []) := ⟨_, rfl⟩
  rw [← eH] at I2 f2 w0
  have I3 := block_start I2 ok hN f2
  obtain ⟨ce, ece⟩ : ∃ ce, ce = compEnvC scope (cellsFrom (s2.heap.objs.size + 1) scope.names (cloFrom X.env.cells scope.names [])) s2.heap.objs.size X.env := ⟨_, rfl⟩
  have pe : PE (X.blk s2 H2 scope ce fp) elt (te σ) := by rw [ece]; exact he pins σ s2 H2 _ _ fp I2 fun b hb => (f2 b hb).1
  have pg : PG (X.blk s2 H2 scope ce fp) tg g := by rw [ece]; exact hg s2 H2 _ _ fp
  have eL : ce.locals = s2.heap.objs.size := by rw [ece]; rfl
  show codeAny _ _ (.compStart (.ListComp elt [⟨tg, iter, [], 0⟩] scope pos) 0 (.ref it) (.ref D) (compEnvC scope (cellsFrom (s2.heap.objs.size + 1) scope.names (cloFrom X.env.cells scope.names [])) s2.heap.objs.size X.env)) (compPost (model X.prog X.w) X.A X.xe none _ (.ref D) s2.heap.objs.size) { s2 with heap := pushCells (s2.heap.push { cls := .type "dict", data := .dict #[] }) scope.names }
  rw [← ece] at I3 ⊢
  have st3 : tn 0 (pushCells (s2.heap.push { cls := .type "dict", data := .dict #[] }) scope.names) := T.keep _ _ _ st2 fun b _ o e => pushCells_keeps _ _ _ _ (Heap.get?_push_of_some _ e)
  have fpo : ∀ {σ' : L2.St} {H' : Hp} {s' : Shared}, Inv (X.blk s2 H2 scope ce fp) [] σ' H' s' → (∀ b ∈ fp, H' b = none) → ∀ b ∈ fp, FpOk (X.blk s2 H2 scope ce fp) [] H' b := fun {σ' H' s'} J' hn b hb =>
    ⟨hn b hb, (J'.ok.exf b hb).1, J'.ok.exfs b hb, .inl hb, (J'.ok.exf b hb).2, fun p hp => absurd (show p ∈ ([] : List (Addr × Obj)) ++ [] from hp) (by simp)⟩
  have run : codeAny (model X.prog X.w) X.A (.compLoop (.ListComp elt [⟨tg, iter, [], 0⟩] scope pos) 0 (.ref it) (.ref D) ce) (compPost (model X.prog X.w) X.A X.xe none (fun v s' => EP X pins σ Q v s') (.ref D) s2.heap.objs.size) { s2 with heap := pushCells (s2.heap.push { cls := .type "dict", data := .dict #[] }) scope.names } := by
    refine compLoop_any (fun n s' => ∃ i H', Inv (X.blk s2 H2 scope ce fp) [] (wipe σ (own.map (·.2))) H' s' ∧ tn i s'.heap ∧ (∀ b ∈ fp, H' b = none) ∧ W i n H') (fun n s5 ⟨i, H5, I5, st5, n5, w5⟩ => ?_) m0 ⟨0, H2, I3, st3, fun b hb => (f2 b hb).1.1, w0⟩
    rcases turn i n H5 w5 with ⟨stop, qq⟩ | ⟨go, Nx, hNx, step⟩
    · refine thnF (T.done (X.blk s2 H2 scope ce fp) rfl rfl rfl hc i [] s5 _ H5 (fun _ _ => False) I5 (fpo I5 n5) st5 stop) fun r s6 ⟨hr, I6⟩ => ?_
      subst hr
      have back : Inv X pins σ H5 s6 := I2.call' (ch := fp) I6.os I6.base I6.hok I6.bare fun b hb => ⟨(f2 b hb).1.2.2.2.1, (f2 b hb).1.2.1, (f2 b hb).1.2.2.2.2.1, (f2 b hb).1.2.2.2.2.2⟩
      have nC : H5 s2.heap.objs.size = none := by rw [← eL]; exact I6.free
      obtain ⟨m, hm, _⟩ := I6.loc
      have hm : s6.heap.Ns s2.heap.objs.size m := by rw [← eL]; exact hm
      obtain ⟨f0, f1, f2, f3, f4, f5⟩ := I2.fpOk (Nat.le_refl _) nC
      exact ⟨m, hm, fun h'' sb => ⟨.ref D, H5, back.turned (t' := s6.toks) (fun b o hb e => (sb.2 b hb).trans e) f0 f1 f3 f4 f5, rfl, qq⟩⟩
    · refine thnF (T.item (X.blk s2 H2 scope ce fp) rfl rfl rfl hc i [] s5 _ H5 (fun _ _ => False) I5 (fpo I5 n5) st5 go) fun r s6 ⟨u, hr, h6⟩ => ?_
      subst hr
      refine thnF h6 fun _ s7 ⟨x, H7, I7, r7, y7, st7, n7⟩ => ?_
      refine thnF (pg.run _ s7 _ H7 x u _ (I7.pinned (fpo I7 n7) (T.obj _ _ st7)) r7 (step x H7 y7)) fun _ s8 ⟨σ8, H8, I8, hw, q8⟩ => ?_
      refine wpAny_tests_nil ?_
      show wpAny _ _ _ _ _ _
      have q8 : te σ σ8 H8 fun y H4 => ∃ acc, H4 D = some (.lst acc) ∧ acc.length < sizeLine ∧ Nx (upd H4 D (.lst (acc ++ [y]))) := q8
      refine thnF (pe.run _ s8 σ8 H8 _ I8 q8) fun z s9 ⟨yv, H9, I9, r9, acc, hD, hz, nx⟩ => ?_
      refine app_ok (X := X.blk s2 H2 scope ce fp) I9 hD hz r9 fun s10 I10 => ?_
      obtain ⟨m', hm, w'⟩ := hNx _ nx
      have pin' : ∀ b ∈ fp, ∀ o, s7.heap.get? b = some o → s10.heap.get? b = some o ∧ (upd H9 D (.lst (acc ++ [yv]))) b = none := fun b hb o e =>
        let z := I10.pin (b, o) (List.mem_append_right _ (List.mem_append_right _ (mem_pinsAt hb e)))
        ⟨z.1, z.2.1⟩
      refine ⟨m', hm, i + 1, _, (I10.unpinned (pins := [])).weak (by rw [← hw, wipe_length]) (fun j v e => ?_), T.keep _ _ _ st7 fun b hb o e => (pin' b hb o e).1, fun b hb => ?_, w'⟩
      · rw [← hw] at e
        exact (wipe_some e).1
      · obtain ⟨o, e, _⟩ := T.obj _ _ st7 b hb
        exact (pin' b hb o e).2
  exact codeAny_compStart_list run (T.self X.A 0 _ _ _ st3 run)
end
end KB
/-! a call out of a comprehension, the maker's cells known -/
namespace KB
open PySem PySem.Spec PyProof.Rows L2 LamX
/-- the cells of a frame -/
def cellsL (X : Cx) : List Addr := X.env.cells.filterMap fun p => X.env.cells.lookup p.1
theorem cellsL_mem {X : Cx} {b : Addr} : b ∈ cellsL X ↔ ∃ x, X.env.cells.lookup x = some b := by
  unfold cellsL
  rw [List.mem_filterMap]
  constructor
  · rintro ⟨p, _, e⟩; exact ⟨p.1, e⟩
  · rintro ⟨x, e⟩; exact ⟨(x, b), PySem.mem_of_lookup e, e⟩
theorem Trk.fz {X : Cx} {σ : L2.St} {H H' : Hp} (t : Trk X σ H H') : Fz (cellsL X) H' := fun c m => by
  obtain ⟨x, e⟩ := cellsL_mem.mp m
  exact t.in_ x c e
section
variable {X : Cx} {pins : List (Addr × Obj)} {σ : L2.St} {H : Hp} {s : Shared} {scope : Scope} {cl : List (Str × Addr)} {C : Addr} {fp : List Addr}
theorem pe_live {k : Nat} {x : Str} {ps : List Str} {sp : Sp} {p pos : Pos} {e : Expr} {es : List Expr} {t : TA} (I0 : Inv X pins σ H s) (hfn : ∀ x, X.fn x = true) (hfp : ∀ b ∈ fp, FpOk X pins H b)
    (Cl : Cal X.prog X.w X.K X.mg X.base (L2.CX X.prog X.w) k x ps sp) (hr : Room k X.A) (ha : PA (X.blk s H scope (compEnvC scope cl C X.env) fp) (e :: es) t) (hg : Gl (X.blk s H scope (compEnvC scope cl C X.env) fp) x := by rfl) (hdb : (x == ("__debug__" : Str)) = false := by decide)
    (he : starEach (e :: es) (compEnvC scope cl C X.env) = (false, eval e (compEnvC scope cl C X.env)) :: starEach es (compEnvC scope cl C X.env) := by rfl) (hpl : (backTo pos (starEach es (compEnvC scope cl C X.env))).any (·.1) = false := by rfl) :
    PE (X.blk s H scope (compEnvC scope cl C X.env) fp) (.Call (.Name x p) (e :: es) [] pos) (fun σ' H' Q => t σ' H' fun vs H1 => ∀ H2, Trk X σ H1 H2 → sp vs H2 (fun v H3 => Q v (offL (cellsL X) H3)) fun _ _ _ => False) := by
  obtain ⟨f, fd, F, b, kp, m⟩ := Cl
  refine ⟨fun pins' s' σ' H' Q I h => ?_⟩
  refine wpAny_Call_Name_kw (ld_glob I hg m ?_ hdb)
  refine PySem.W.callWith_K (h₀ := X.base) I.ok.mod.kin kp (thn (ha.run pos pins' s' σ' H' _ I h) fun us s1 ⟨vs, H1, I1, r, q⟩ => ⟨I1.kIn, ?_⟩) he hpl
  have ge : ∀ y c, X.env.cells.lookup y = some c → X.s_0.heap.objs.size ≤ c := fun y c e => I0.ok.cab y c (hfn y) e
  have nfr : ∀ y c, X.env.cells.lookup y = some c → c ∉ frs X.stack := fun y c e m => by
    rcases List.mem_cons.mp (I0.stkSub c m) with z | z
    · exact I0.cne y c e z
    · obtain ⟨_, o, ho, _⟩ := I0.ok.funs.mem z
      exact absurd (Nat.lt_of_lt_of_le (Heap.lt_size ho) (ge y c e)) (Nat.lt_irrefl _)
  have nfp : ∀ y c, X.env.cells.lookup y = some c → c ∉ fp := fun y c e m => (hfp c m).2.2.2.2.1 y c e rfl
  have un : Un (frs X.stack) fp H H1 s.heap s1.heap := I1.base
  have kc : ∀ y c v, X.env.cells.lookup y = some c → s.heap.IsCell c v → s1.heap.IsCell c v := fun y c v e ⟨o, g, d⟩ => ⟨o, un.keep c o g (I0.freeC y c e) (nfr y c e) (nfp y c e), d⟩
  have fc : ∀ y c, X.env.cells.lookup y = some c → H1 c = none := fun y c e => by
    obtain ⟨v, o, g, d⟩ := I0.cell y c e
    exact un.free c o g (I0.freeC y c e) (nfp y c e)
  obtain ⟨H2, T, ok⟩ := trk_gen (σ := σ) (h := s1.heap) (H := H1) I0.ok fc (fun y c e => let ⟨v, z⟩ := I0.cell y c e; ⟨v, kc y c v e z⟩) (fun i y v e1 e2 kd => let ⟨u, c, r, hc, z⟩ := KB.Inv.cellV I0 e1 e2 kd; ⟨u, c, r, hc, kc y c _ hc z⟩) I1.hok
  have out : ∀ b, b ∉ cellsL X → H2 b = H1 b := fun b n => T.out b fun y e => n (cellsL_mem.mpr ⟨y, e⟩)
  have non : ∀ c ∈ cellsL X, H1 c = none := fun c m => let ⟨y, e⟩ := cellsL_mem.mp m; fc y c e
  have e0 : Env0 X.prog X.w X.K X.mg X.base X.A X.stack s1 H1 := I1.env0
  have e2 : Env0 X.prog X.w X.K X.mg X.base X.A X.stack s1 H2 := by
    refine ⟨e0.frames, e0.mod, fun b o g => ⟨(e0.bs b o g).1, ?_⟩, e0.bsz, e0.funs, fun b m => ?_, ok, e0.bare⟩
    · rw [out b fun m => ?_]
      · exact (e0.bs b o g).2
      · obtain ⟨y, e⟩ := cellsL_mem.mp m
        exact absurd (Nat.lt_of_lt_of_le (Heap.lt_size g) (Nat.le_trans I0.ok.bsz (ge y b e))) (Nat.lt_irrefl _)
    · rw [out b fun m2 => ?_]
      · exact e0.frf b m
      · obtain ⟨y, e⟩ := cellsL_mem.mp m2
        exact nfr y b e m
  have q2 := q H2 T
  have hl : us.length = ps.length := by rw [← r.length]; exact F.len _ _ _ _ q2
  have bt : BindsTo s1 fd ⟨us, []⟩ (ps.zip us) := by
    have := b s1 us I1.kIn (by rw [List.append_nil]; exact hl)
    rw [List.append_nil] at this; exact this
  refine wpAny_call (codeAny_mono (F.run X.A X.stack s1 H2 ⟨us, []⟩ us vs _ _ hr e2 bt r q2) fun rr s2 hq => ?_)
  have z := cr_off (Q := Q) (E := fun _ _ _ => False) out non T.fz ok hq
  match rr, z with
  | .error e, ⟨_, _, _, _, _, _, _, _, _, _, _, _, z⟩ => exact z.elim
  | .ok (.ret u), z => exact I1.after z
end
end KB
/-! B61: try .. except X as e: .. except Y: ..; what is raised is caught by the first, or by the second clause -/
namespace KB
open PySem PySem.Spec PyProof.Rows L2
def wMix (K : PySem.W.Frag) (S : Addr → Prop) (c c2 : Value) (i : Nat) (ts ts2 : Addr → Addr → TS) (D : Ends) : WX := fun cls d σ H =>
  ∃ C, cls = .ref C ∧ d = none ∧ ((S C ∧ PySem.W.exmOne K (.ref C) c = some true ∧ ∀ a, H a = none → ts C a { nx := fun z H' => D.nx (z.set i none) H', rt := D.rt, bk := fun z H' => D.bk (z.set i none) H', ct := fun z H' => D.ct (z.set i none) H' } (σ.set i (some (.ref a))) H) ∨
    (PySem.W.exmOne K (.ref C) c = some false ∧ PySem.W.exmOne K (.ref C) c2 = some true ∧ ∀ a, H a = none → ts2 C a D σ H))
theorem ps_try_mix {X : Cx} {x x2 n : Str} {c c2 : Value} {i : Nat} {body suite suite2 : List Stmt} {b₀ b2 : Stmt} {np np2 pos' pos2 pos : Pos} {hds : List ExceptHandler} {tb : WX → TS} {ts ts2 : Addr → Addr → TS} {S : Addr → Prop}
    (hs : X.stack = X.env :: X.outer) (hf : X.env.frame = some X.env.locals) (hN : X.N.Nodup) (hi : X.N[i]? = some n) (hln : X.env.kindOf n = some .local) (hc : Names X x c) (hc2 : Names X x2 c2)
    (hb : ∀ (W : WX) (pn : List (Addr × Obj)) (xe : Value → Shared → Prop), Takes (X.tr pn xe) W → PassesOwn (model X.prog X.w) X.A X.env xe → PSs (X.tr pn xe) body (tb W))
    (hsu : ∀ (C : Addr), S C → ∀ (a : Addr) (oe : Obj) (pn : List (Addr × Obj)), Zc (.ref C) none oe → (∃ vs, oe.data = .fields vs) → PSs (X.suite a ((a, oe) :: pn)) (b₀ :: suite) (ts C a))
    (hsu2 : ∀ (C : Addr) (a : Addr) (oe : Obj) (pn : List (Addr × Obj)), Zc (.ref C) none oe → (∃ vs, oe.data = .fields vs) → PSs (X.suite a ((a, oe) :: pn)) (b2 :: suite2) (ts2 C a)) :
    PS X (.Try body (.ExceptHandler (some (.Name x np)) (some n) (b₀ :: suite) pos' :: .ExceptHandler (some (.Name x2 np2)) none (b2 :: suite2) pos2 :: hds) [] [] pos) (fun D σ H => tb (wMix X.K S c c2 i ts ts2 D) D σ H) := by
  refine ⟨fun pins s σ H D I h => ?_⟩
  have ok := I.ok
  have hfr : X.A.frames = some (X.env :: X.outer) := by rw [ok.frames, hs]
  refine wpAny_Try_except (wpAny_mono ((hb (wMix X.K S c c2 i ts ts2 D) (X.pn ++ pins) _ (fun u s' xx => ?take) PassesOwn.looking).run [] s σ H D (Inv.toTry I _) h) (fun f s1 hsp => ?_) fun e s1 he => he)
  case take =>
    obtain ⟨a, B, sI, pins', σ', H', cls, d, rfl, J', nb, up, sky, na, os, ag, C, rfl, rfl, way⟩ := xx
    have J := Inv.ofTry J' ok
    have sky2 : Sky B (X.env :: X.outer) a (Zc (.ref C) none) X.env.locals s'.heap := hs ▸ sky
    refine Sky.land Zc.steady hfr hf sky2 fun h3 fl3 up3 => ?_
    have J3 := Inv.landed (s' := { heap := h3, gens := s'.gens, drawn := s'.drawn, toks := s'.toks, os := s'.os }) J nb fl3.left (up.trans up3) os ag
    obtain ⟨oe3, vs3, he3, hz3, hd3⟩ := HandSPX.FlyingZ.there fl3
    have far : a ∉ List.filterMap (fun y : Env => y.frame) (X.env :: X.outer) := fun hm => by
      obtain ⟨_, o', e', hnf⟩ := Heap.FunFrames.mem fl3.2.2.1 hm
      rw [he3] at e'
      cases e'
      exact hnf vs3 hd3
    have nL : a ≠ X.env.locals := fun z => far (List.mem_filterMap.mpr ⟨X.env, List.mem_cons_self, by rw [hf, z]⟩)
    have nF : a ∉ X.fs := fun hm => by
      obtain ⟨y, hy, q⟩ := List.mem_filterMap.mp hm
      exact far (List.mem_filterMap.mpr ⟨y, List.mem_cons_of_mem _ hy, q⟩)
    have S3 := Inv.suite J3 he3 hd3 na nL nF
    have LT : PySem.W.Looks (model X.prog X.w) h3 (typeOf (.ref a)) (.ref C) := fun A Q E s k q => wpAny_typeOf_ref (k a oe3 he3) (by rw [hz3.1]; exact q)
    have test : ∀ {y : Str} {p : Pos} {cy : Value} {Q : Value → Shared → Prop} {E : Value → Shared → Prop}, Names X y cy → Q cy { heap := h3, gens := s'.gens, drawn := s'.drawn, toks := s'.toks, os := s'.os } →
        wpAny (model X.prog X.w) (X.A.mark (some (.ref a))) (eval (.Name y p) X.env) Q E { heap := h3, gens := s'.gens, drawn := s'.drawn, toks := s'.toks, os := s'.os } := fun hcy q => by
      obtain ⟨hg, hdbg, hm | ⟨hm, hv, hnn⟩⟩ := hcy
      · exact ld_glob S3 hg hm q hdbg
      · exact ld_blt S3 hg hm hv q hnn hdbg
    refine wpAny_handleBy_cons (codeAny_handlers_test ?_) (fun z => nomatch z)
    rcases way with ⟨hC, hit, yes⟩ | ⟨miss, hit, yes⟩
    · refine test hc (PySem.W.Looks.here (PySem.W.exm_one J3.kIn LT hit) ?_)
      refine codeAny_handlers_suite_as (HandSPX.lands_againZ fl3 fun h4 fl4 up4 => ?_)
      have J4 := Inv.landed (s' := { heap := h4, gens := s'.gens, drawn := s'.drawn, toks := s'.toks, os := s'.os }) J nb fl4.left ((up.trans up3).trans up4) os ag
      obtain ⟨oe4, vs4, he4, hz4, hd4⟩ := HandSPX.FlyingZ.there fl4
      have S4 := Inv.suite J4 he4 hd4 na nL nF
      refine store_ok (X := X.suite a ((a, oe4) :: (X.pn ++ pins))) S4 hN hi (.inl hln) (v := .ref a) rfl (fun s5 S5 => ?_) (.inr hln)
      refine wpAny_mono ((hsu C hC a oe4 (X.pn ++ pins) hz4 ⟨vs4, hd4⟩).run [] s5 _ H' _ S5 (yes a na)) (fun f s6 hsp => ?_) fun _ _ z => False.elim z
      cases f with
      | next => obtain ⟨σ6, H6, S6, q6⟩ := hsp; exact gone_ok (Inv.unsuite S6 ok) hN hi hln fun s7 J7 => ⟨_, H6, J7, q6⟩
      | brk => obtain ⟨σ6, H6, S6, q6⟩ := hsp; exact gone_ok (Inv.unsuite S6 ok) hN hi hln fun s7 J7 => ⟨_, H6, J7, q6⟩
      | cont => obtain ⟨σ6, H6, S6, q6⟩ := hsp; exact gone_ok (Inv.unsuite S6 ok) hN hi hln fun s7 J7 => ⟨_, H6, J7, q6⟩
      | ret u => obtain ⟨v6, σ6, H6, S6, r6, q6⟩ := hsp; exact gone_ok (Inv.unsuite S6 ok) hN hi hln fun s7 J7 => ⟨v6, _, H6, J7, r6, q6⟩
    · refine test hc (PySem.W.Looks.here (PySem.W.exm_one J3.kIn LT miss) ?_)
      show wpAny _ X.A (handleBy (.ref a) X.env (.ExceptHandler (some (.Name x2 np2)) none (b2 :: suite2) pos2 :: hds)) _ _ _
      refine wpAny_handleBy_cons (codeAny_handlers_test ?_) (fun z => nomatch z)
      refine test hc2 (PySem.W.Looks.here (PySem.W.exm_one J3.kIn LT hit) ?_)
      refine codeAny_handlers_suite (HandSPX.lands_againZ fl3 fun h4 fl4 up4 => ?_)
      have J4 := Inv.landed (s' := { heap := h4, gens := s'.gens, drawn := s'.drawn, toks := s'.toks, os := s'.os }) J nb fl4.left ((up.trans up3).trans up4) os ag
      obtain ⟨oe4, vs4, he4, hz4, hd4⟩ := HandSPX.FlyingZ.there fl4
      have S4 := Inv.suite J4 he4 hd4 na nL nF
      refine wpAny_mono ((hsu2 C a oe4 (X.pn ++ pins) hz4 ⟨vs4, hd4⟩).run [] _ _ H' _ S4 (yes a na)) (fun f s6 hsp => ?_) fun _ _ z => False.elim z
      cases f with
      | next => obtain ⟨σ6, H6, S6, q6⟩ := hsp; exact ⟨_, _, S6.unsuite ok, q6⟩
      | brk => obtain ⟨σ6, H6, S6, q6⟩ := hsp; exact ⟨_, _, S6.unsuite ok, q6⟩
      | cont => obtain ⟨σ6, H6, S6, q6⟩ := hsp; exact ⟨_, _, S6.unsuite ok, q6⟩
      | ret u => obtain ⟨v6, σ6, H6, S6, r6, q6⟩ := hsp; exact ⟨_, _, _, S6.unsuite ok, r6, q6⟩
  · cases f with
    | next => obtain ⟨σ', H', J', q⟩ := hsp; exact wpAny_execs_nil ⟨σ', H', Inv.ofTry J' ok, q⟩
    | brk => obtain ⟨σ', H', J', q⟩ := hsp; exact ⟨σ', H', Inv.ofTry J' ok, q⟩
    | cont => obtain ⟨σ', H', J', q⟩ := hsp; exact ⟨σ', H', Inv.ofTry J' ok, q⟩
    | ret u => obtain ⟨v, σ', H', J', r, q⟩ := hsp; exact ⟨v, σ', H', Inv.ofTry J' ok, r, q⟩
section
variable {X : Cx}
/-- x() within a try, x a name that holds a lambda -/
def tAskS (P : Program) (w : World) (K : PySem.W.Frag) (mg : Str → Option Value) (base : Heap) (k i : Nat) (E : L2.St → XK) : TE := fun σ H Q => ∃ v, σ[i]? = some (some v) ∧ Asks P w K mg base k H v Q (E σ)
theorem pe_askS {P : Program} {w : World} {K : PySem.W.Frag} {mg : Str → Option Value} {base : Heap} {i k : Nat} {x : Str} {p pos : Pos} {E : L2.St → XK} (e1 : X.prog = P) (e2 : X.w = w) (e3 : X.K = K) (e4 : X.mg = mg) (e5 : X.base = base) (hr : Room k X.A) (hx : ∀ σ : L2.St, PassesAt (L2.CX X.prog X.w) X σ (E σ)) (hN : X.N[i]? = some x) (hv : Vis X.env.scope x) (hd : (x == ("__debug__" : Str)) = false := by decide) (hcd : (x == ("__classdict__" : Str)) = false := by decide) :
    PE X (.Call (.Name x p) [] [] pos) (tAskS P w K mg base k i E) := by
  subst e1 e2 e3 e4 e5
  refine ⟨fun pins s σ H Q I h => ?_⟩
  obtain ⟨_, hs, f, F, b, fr, ws, sp, rfl, hf, hc, C, ok, q⟩ := h
  refine wpAny_Call_Name_kw (thn ((pe_var (pos := p) hN hv hd hcd).run pins s σ H (fun v H1 => v = .ref f ∧ H1 = H) I ⟨.ref f, hs, rfl, rfl⟩) fun u s1 ⟨v, H1, I1, r1, q1⟩ => ?_)
  obtain ⟨rfl, rfl⟩ := q1
  obtain rfl : u = Value.ref f := r1
  obtain ⟨⟨pm, ctv, ho⟩, _, _⟩ := I1.hok f _ hf
  refine PySem.W.callWith_F0 (first := []) ⟨_, _, _, _, ho⟩ ?_
  have o1 : offL (F.cl.map (·.2)) H1 f = some (LamO f F b) := by rw [offL_out (C.fz.not hf fun u y => by unfold LamO CellF at y; cases y)]; exact hf
  have o2 : offL (F.cl.map (·.2)) H1 F.c = some (LamX.CodeO F.c F.qual) := by rw [offL_out (C.fz.not hc fun u y => by unfold LamX.CodeO CellF at y; cases y)]; exact hc
  have run := ok.run X.A X.stack s1 (offL (F.cl.map (·.2)) H1) ws _ _ hr (env0_off I1.env0 C.fz) o1 o2 (C.at_ I1.hok) q
  refine wpAny_call (codeAny_mono run fun r s' z => ?_)
  have z := cr_on C.fz I1.hok I1.stkFree z
  match r, z with
  | .error e, z => exact hx σ pins H1 s1 e s' I1 z
  | .ok (.ret u), z => exact I1.after z
end
end KB
/-! B62: the end of a law of a large program: the top by one kernel run, facts by a Hook -/
namespace KB
open PySem PySem.Spec PyProof.Rows L2 He
section
variable {K : PySem.W.Frag} {h : Heap} {mg : Str → Option Value} {fa : List Fa} {fn : List DefD} {x y : Str} {st : Stmt} {w : World}
theorem fun_ofD {f : Addr} {fd : FuncData} (F : FunD K x x (defArgs st) (defBody st) (defScope st) [] [] f fd) : Fun K x x st f fd := by
  obtain ⟨oc, od, dV, kV, doc, pm, an, cdv, ct, osl, e, lk, hc, hd, _⟩ := F.ex
  rcases hd with ⟨_, rfl⟩ | ⟨z, _⟩
  · exact ⟨⟨oc, od, kV, doc, pm, an, cdv, ct, osl, e, lk, hc⟩, F.kp⟩
  · exact absurd rfl z
theorem at_d (X : K.In h) (G : h.Ns mainGlobals mg) (c : SaysD fa fn K) (i : Nat) (j : Nat) (hd : fn[i]? = some (dd x st) := by rfl) (hg : fa[j]? = some (.glo x) := by rfl) : At K mg x st := by
  obtain ⟨fd, F⟩ := c.def_ i hd
  exact ⟨_, fd, fun_ofD F, glo_ok X G (c.fact j hg)⟩
theorem exc_d (X : K.In h) (G : h.Ns mainGlobals mg) (c : excB K x = true) : ExcF K mg x (ga K x) := by
  obtain ⟨c0, c⟩ := ba c
  obtain ⟨c1, c⟩ := ba c
  obtain ⟨c2, c⟩ := ba c
  obtain ⟨c3, c⟩ := ba c
  obtain ⟨c4, c⟩ := ba c
  obtain ⟨c5, c6⟩ := ba c
  exact ⟨PySem.W.mg_of X G (eqO_ok c0), c1, c2, of_decide_eq_true c3, of_decide_eq_true c4, c5, of_decide_eq_true c6⟩
theorem excC_d (c : excCB K x = true) : ExcC K (ga K x) := by
  obtain ⟨c1, c⟩ := ba c
  obtain ⟨c2, c⟩ := ba c
  obtain ⟨c3, c⟩ := ba c
  obtain ⟨c4, c⟩ := ba c
  obtain ⟨c5, c⟩ := ba c
  obtain ⟨c6, c⟩ := ba c
  obtain ⟨c7, c8⟩ := ba c
  exact ⟨eqO_ok c1, eqO_ok c2, of_decide_eq_true c3, c4, eqO_ok c5, eqO_ok c6, of_decide_eq_true c7, of_decide_eq_true c8⟩
theorem kit_d {b : Bool} (c : kitN K x y b = true) : PySem.W.kitOne K (.ref (ga K x)) (.ref (ga K y)) = some b := of_decide_eq_true c
theorem exm_d {b : Bool} (c : exmN K x y b = true) : PySem.W.exmOne K (.ref (ga K x)) (.ref (ga K y)) = some b := of_decide_eq_true c
theorem entsB_ok : ∀ {kvs : List (Str × V)} {es : List DictEntry}, entsB kvs es = true → Ents kvs es
  | [], [], _ => .nil
  | [], _ :: _, h => by cases h
  | _ :: _, [], h => by cases h
  | (k, v) :: r, ⟨hs, kv, u⟩ :: es, h => by
    obtain ⟨h1, h2⟩ := ba (show (keyB kv k && (relB v u && entsB r es)) = true from h)
    obtain ⟨h3, h4⟩ := ba h2
    cases kv with
    | str z t =>
      have e : z = k := of_decide_eq_true h1
      subst e
      exact .cons (relB_ok h3) (entsB_ok h4)
    | _ => cases h1
theorem dct_d {ts : List Tab} {kvs : List (Str × V)} (X : K.In h) (G : h.Ns mainGlobals mg) (c : SaysT fa fn ts w K) (i : Nat) {ks : List Str} (hi : ts[i]? = some ((fun K => ga K x), ks)) (e : dctB K x kvs = true) : ∃ d, mg x = some (.ref d) ∧ DictS K w d kvs := by
  obtain ⟨es, n, D⟩ := c.tab i hi
  obtain ⟨e0, e1⟩ := ba e
  have lk : K.lookup (ga K x) = some ⟨.type "dict", none, .dict es n, #[]⟩ := D.at_
  rw [lk] at e1
  exact ⟨ga K x, PySem.W.mg_of X G (eqO_ok e0), es, n, lk, D.lit, D.low, entsB_ok e1⟩
/-- a def with a table of code of its own -/
theorem own_d {ts : List Tab} {tf : List Defn} {ex : PySem.W.Frag → Bool} (X : K.In h) (G : h.Ns mainGlobals mg) (c : SaysX fa fn ts tf ex w h K) (i j : Nat) (hd : fn[i]? = some (dd x st) := by rfl) (hg : fa[j]? = some (.glo x) := by rfl) :
    ∃ f fd, Fun K x x st f fd ∧ mg x = some (.ref f) ∧ fd.code = .ref (cT K (x, none)).1 := by
  obtain ⟨fd, F⟩ := c.t.d.def_ i hd
  have F2 : Fun K x x st (ga K x) fd := fun_ofD F
  refine ⟨_, fd, F2, glo_ok X G (c.t.d.fact j hg), ?_⟩
  obtain ⟨oc, od, kV, doc, pm, an, cdv, ct, osl, rfl, lk, hcd⟩ := F2.ex
  obtain ⟨cc, rfl⟩ := codeIn_ref hcd
  have e : codeOf K (x, none) = cc := codeOf_eq (p := (x, none)) lk rfl
  show Value.ref cc = .ref (codeOf K (x, none))
  rw [e]
end
end KB
namespace KW
open PySem PySem.Spec PyProof.Rows L2 KB
structure Txt (K : PySem.W.Frag) (mg : Str → Option Value) (w : World) (CN CT : Addr) : Prop where
  z_len : mg "len" = none
  z_int : mg "int" = none
  z_tuple : mg "tuple" = none
  z_list : mg "list" = none
  z_type : mg "type" = none
  z_range : mg "range" = none
  z_str : mg "str" = none
  z_all : mg "all" = none
  z_isinstance : mg "isinstance" = none
  z_enumerate : mg "enumerate" = none
  z_sorted : mg "sorted" = none
  g_BASE_LETTERS : ∃ t, mg "BASE_LETTERS" = some (.str "abcdefgh" t)
  g_UNIT_TEXT : ∃ t, mg "UNIT_TEXT" = some (.str "1" t)
  g_SIGN_OF_WORD : ∃ d, mg "SIGN_OF_WORD" = some (.ref d) ∧ DictS K w d [("both", .str "*"), ("from", .str ">")]
  g_WORD_OF_SIGN : ∃ d, mg "WORD_OF_SIGN" = some (.ref d) ∧ DictS K w d [("*", .str "both"), (">", .str "from")]
  e_NoKind : ExcF K mg "NoKind" CN
  e_NoText : ExcF K mg "NoText" CT
/-- the refusal of what is no library -/
structure TxL (K : PySem.W.Frag) (mg : Str → Option Value) (CL : Addr) : Prop where
  z_len : mg "len" = none
  z_all : mg "all" = none
  z_list : mg "list" = none
  z_type : mg "type" = none
  z_str : mg "str" = none
  z_tuple : mg "tuple" = none
  e_NoLibrary : ExcF K mg "NoLibrary" CL
/-! ## draws -/
def Well (H : Hp) (w : Addr) : Prop := ∃ x y z : Int, H w = some (.lst [.int x, .int y, .int z])
/-- what a draw leaves: all but the well, and the well one -/
structure Aft (w : Addr) (H H' : Hp) : Prop where
  well : Well H' w
  but : Same (out w H) (out w H')
theorem Aft.refl {w : Addr} {H : Hp} (h : Well H w) : Aft w H H := ⟨h, Same.refl _⟩
theorem Aft.trans {w : Addr} {H H1 H2 : Hp} (a : Aft w H H1) (b : Aft w H1 H2) : Aft w H H2 := ⟨b.well, a.but.trans b.but⟩
theorem Well.new {w p : Addr} {H : Hp} (h : Well H w) (n : H p = none) (o : HO) : Well (upd H p o) w := by
  obtain ⟨x, y, z, e⟩ := h
  exact ⟨x, y, z, by rw [upd_ne (ne_of_none e n)]; exact e⟩
theorem Aft.new {w p : Addr} {H H' : Hp} (a : Aft w H H') (n : H' p = none) (o : HO) : Aft w H (upd H' p o) := ⟨a.well.new n o, a.but.trans (out_new n o)⟩
theorem Aft.at_ {w p : Addr} {H H' : Hp} {o : HO} (a : Aft w H H') (n : p ≠ w) (h : H p = some o) : H' p = some o := (out_some (a.but p o (out_at n h))).2
theorem Well.ne {w p : Addr} {H : Hp} (h : Well H w) (n : H p = none) : p ≠ w := by
  obtain ⟨x, y, z, e⟩ := h
  exact (ne_of_none e n).symm
theorem Well.laid {w p : Addr} {H : Hp} (h : Well H w) (n : H p = none) (o : HO) : out w (upd H p o) p = some o := out_at (h.ne n) upd_same
def spWell : Sp := fun vs H Q _ => ∃ (c : Int), vs = [.int c] ∧ ∀ (p : Addr) (x y z : Int), H p = none → Q (.ref p) (upd H p (.lst [.int x, .int y, .int z]))
def spDraw : Sp := fun vs H Q _ => ∃ (w : Addr) (n : Int), vs = [.ref w, .int n] ∧ Well H w ∧ 0 < n ∧ n < 1073741824 ∧ ∀ (d : Int) (H' : Hp), 0 ≤ d → d < n → Aft w H H' → Q (.int d) H'
abbrev s_law_well : Stmt := top 130
theorem sc_law_well : FnScope ["cell"] ["cell"] (defScope s_law_well) := ⟨rfl, rfl, rfl, by decide +kernel, rfl, by decide +kernel, by decide +kernel⟩
abbrev s_law_draw : Stmt := top 131
theorem sc_law_draw : FnScope ["well", "width", "digit_told", "low"] ["well", "width"] (defScope s_law_draw) := ⟨rfl, rfl, rfl, by decide +kernel, rfl, by decide +kernel, by decide +kernel⟩
section
variable {P : Program} {w : World} {K : PySem.W.Frag} {mg : Str → Option Value} {base : Heap} {CN CT : Addr}
theorem ok_well (A : At K mg "_law_well" s_law_well) (T : Txt K mg w CN CT) : Cal P w K mg base CX0 1 "_law_well" ["cell"] spWell := by
  obtain ⟨f, fd, F, m⟩ := A
  refine ⟨f, fd, F.ok sc_law_well (fun vs H Q E h => ?_) (fun cdv A outer s H vs Q E hr h => ?_), F.binds (ps := ["cell"]) (fun _ _ _ _ _ _ us hl => match us, hl with | [_], _ => rfl), F.kp, m⟩
  · obtain ⟨c, rfl, _⟩ := h; rfl
  obtain ⟨c, rfl, q⟩ := h
  refine ⟨_, (pss_one (ps_ret (pe_lst (pa_cons (pe_op op_mulA (pv 0) (pe_callTy call_int1 (by rfl) T.z_int (by decide +kernel) (pa_cons (pe_cmpR op_ge (pv 0) (pe_op op_pow pe_int pe_int) (nomark _)) pa_nil))) (pa_cons (pv 0) (pa_cons pe_int pa_nil)))))), ?_⟩
  refine ⟨_, rfl, _, rfl, _, _, rfl, rfl, ⟨by decide, by decide, by decide⟩, _, _, rfl, rfl, .inr ⟨_, rfl, .inl ⟨_, _, rfl, rfl, .inr ?_, ?_⟩⟩⟩
  · split <;> decide
  · exact ⟨_, rfl, (by show 3 ≤ sizeLine; decide), fun p hp => q p _ _ _ hp⟩
theorem Well.ix0 {K : PySem.W.Frag} {w : Addr} {H : Hp} {W : World} {Q : VK} {x y z : Int} (e : H w = some (.lst [.int x, .int y, .int z])) (q : Q (.int x) H) : rIxB K W (.ref w) (.int 0) H Q := .inl (.inl ⟨w, _, 0, _, rfl, rfl, .of e, rfl, q⟩)
theorem Well.ix1 {K : PySem.W.Frag} {w : Addr} {H : Hp} {W : World} {Q : VK} {x y z : Int} (e : H w = some (.lst [.int x, .int y, .int z])) (q : Q (.int y) H) : rIxB K W (.ref w) (.int 1) H Q := .inl (.inl ⟨w, _, 1, _, rfl, rfl, .of e, rfl, q⟩)
theorem Well.ix2 {K : PySem.W.Frag} {w : Addr} {H : Hp} {W : World} {Q : VK} {x y z : Int} (e : H w = some (.lst [.int x, .int y, .int z])) (q : Q (.int z) H) : rIxB K W (.ref w) (.int 2) H Q := .inl (.inl ⟨w, _, 2, _, rfl, rfl, .of e, rfl, q⟩)
theorem ok_draw (A : At K mg "_law_draw" s_law_draw) (T : Txt K mg w CN CT) : Cal P w K mg base CX0 1 "_law_draw" ["well", "width"] spDraw := by
  obtain ⟨f, fd, F, m⟩ := A
  refine ⟨f, fd, F.ok sc_law_draw (fun vs H Q E h => ?_) (fun cdv A outer s H vs Q E hr h => ?_), F.binds (ps := ["well", "width"]) (fun _ _ _ _ _ _ us hl => match us, hl with | [_, _], _ => rfl), F.kp, m⟩
  · obtain ⟨w, n, rfl, _⟩ := h; rfl
  obtain ⟨wl, n, rfl, ⟨x, y, z, e⟩, n0, n1, q⟩ := h
  refine ⟨_, (pss_cons (ps_if (pt_cmpR op_gt (pe_ix ix_B (pv 0) pe_int (fun _ _ => rfl)) pe_int (nomark _))
   (pss_cons (ps_set (i := 2) sc_law_draw.nd rfl (by first | exact Or.inl rfl | exact Or.inr rfl) (pe_op op_mod (pe_ix ix_B (pv 0) pe_int (fun _ _ => rfl)) (pv 1)))
  (pss_cons (ps_asg (pe_op op_fdiv (pe_ix ix_B (pv 0) pe_int (fun _ _ => rfl)) (pv 1)) (pg_sub (pv 0) pe_int set_list))
  (pss_one (ps_ret (pv 2)))))
   pss_nil)
  (pss_cons (ps_asg (pe_op op_addA (pe_ix ix_B (pv 0) pe_int (fun _ _ => rfl)) pe_int) (pg_sub (pv 0) pe_int set_list))
  (pss_cons (ps_set (i := 3) sc_law_draw.nd rfl (by first | exact Or.inl rfl | exact Or.inr rfl) (pe_op op_addA (pe_op op_mod (pe_ix ix_B (pv 0) pe_int (fun _ _ => rfl)) pe_int) (pe_op op_mulA (pe_op op_fdivW (pe_ix ix_B (pv 0) pe_int (fun _ _ => rfl)) pe_int) pe_int)))
  (pss_cons (ps_set (i := 3) sc_law_draw.nd rfl (by first | exact Or.inl rfl | exact Or.inr rfl) (pe_op op_mod (pe_op op_mulA (pe_op op_addA (pe_op op_addA (pv 3) (pe_op op_mulA pe_int (pe_ix ix_B (pv 0) pe_int (fun _ _ => rfl)))) pe_int) pe_int) pe_int))
  (pss_cons (ps_set (i := 3) sc_law_draw.nd rfl (by first | exact Or.inl rfl | exact Or.inr rfl) (pe_op op_mod (pe_op op_mulA (pv 3) (pe_op op_addA (pe_op op_addA (pe_op op_fdiv (pv 3) pe_int) pe_int) (pe_ix ix_B (pv 0) pe_int (fun _ _ => rfl)))) pe_int))
  (pss_one (ps_ret (pe_op op_mod (pe_op op_mod (pe_op op_mulA (pv 3) (pe_op op_addA (pe_op op_fdiv (pv 3) pe_int) pe_int)) pe_int) (pv 1))))))))), ?_⟩
  refine ⟨_, rfl, Well.ix0 e ⟨_, _, rfl, rfl, _, rfl, ?_⟩⟩
  refine ite2 (fun c => ?_) (fun c => ?_)
  · refine ⟨_, rfl, Well.ix0 e ⟨_, rfl, _, _, rfl, rfl, n0, ?_⟩⟩
    refine ⟨_, rfl, Well.ix0 e ⟨_, rfl, _, _, rfl, rfl, ⟨n0, n1⟩, _, rfl, wl, _, 0, 0, rfl, rfl, e, rfl, ?_⟩⟩
    refine ⟨_, rfl, q _ _ (Int.emod_nonneg _ (by omega)) (Int.emod_lt_of_pos _ n0) ⟨⟨_, _, _, upd_same⟩, out_set _⟩⟩
  · refine ⟨_, rfl, Well.ix2 e (.inl ⟨_, _, rfl, rfl, _, rfl, wl, _, 2, 2, rfl, rfl, e, rfl, ?_⟩)⟩
    have e1 : upd H wl (.lst ([V.int x, V.int y, V.int z].set 2 (.int (z + 1)))) wl = some (.lst [.int x, .int y, .int (z + 1)]) := upd_same
    refine ⟨_, rfl, Well.ix1 e1 ⟨_, _, rfl, rfl, (by show (0 : Int) < 2147483629; decide), _, rfl, Well.ix1 e1 ⟨_, _, rfl, rfl, wide_div (b := 40) (by decide) (by decide) (by decide) (by decide), .inl ⟨_, _, rfl, rfl, .inr (by decide), .inl ⟨_, _, rfl, rfl, ?_⟩⟩⟩⟩⟩
    refine ⟨_, rfl, _, rfl, Well.ix2 e1 (.inl ⟨_, _, rfl, rfl, .inl (by decide), .inl ⟨_, _, rfl, rfl, .inl ⟨_, _, rfl, rfl, .inl ⟨_, _, rfl, rfl, .inr (by decide), _, _, rfl, rfl, (by show (0 : Int) < 2147483647; decide), ?_⟩⟩⟩⟩)⟩
    generalize hM : ((y % 2147483629 + y / 2147483629 * 30013 + 69623 * (z + 1) + 1) * 48271) % 2147483647 = M
    have m0 : 0 ≤ M := by rw [← hM]; exact Int.emod_nonneg _ (by decide)
    have m1 : M < 2147483647 := by rw [← hM]; exact Int.emod_lt_of_pos _ (by decide)
    refine ⟨_, rfl, _, rfl, _, _, rfl, rfl, ⟨by decide, by decide⟩, .inl ⟨_, _, rfl, rfl, _, rfl, Well.ix2 e1 (.inl ⟨_, _, rfl, rfl, .inl ⟨_, _, rfl, rfl, .inl ⟨by omega, by omega⟩, _, _, rfl, rfl, (by show (0 : Int) < 2147483629; decide), ?_⟩⟩)⟩⟩
    generalize hN : M * (M / 1013 + 69621 + (z + 1)) % 2147483629 = N
    have k0 : 0 ≤ N := by rw [← hN]; exact Int.emod_nonneg _ (by decide)
    have k1 : N < 2147483629 := by rw [← hN]; exact Int.emod_lt_of_pos _ (by decide)
    refine ⟨_, rfl, _, rfl, _, _, rfl, rfl, ⟨by decide, by decide⟩, .inl ⟨_, _, rfl, rfl, .inl ⟨_, _, rfl, rfl, .inl ⟨by omega, by omega⟩, _, _, rfl, rfl, (by show (0 : Int) < 2147483399; decide), _, rfl, _, _, rfl, rfl, n0, ?_⟩⟩⟩
    exact q _ _ (Int.emod_nonneg _ (by omega)) (Int.emod_lt_of_pos _ n0) ⟨⟨_, _, _, e1⟩, out_set _⟩
end
/-! ## kinds: is_base_number, is_kind -/
theorem letters8 : ("abcdefgh" : Str).length = 8 := by decide +kernel
theorem letters_fit : ("abcdefgh" : Str).length ≤ sizeLine := by rw [letters8]; decide
def spBn (K : PySem.W.Frag) : Sp := fun vs H Q _ => ∃ v d, vs = [v] ∧ Dq K H v d ∧ Q (.bl (isBn d)) H
def spShp (K : PySem.W.Frag) : Sp := fun vs H Q _ => ∃ v d, vs = [v] ∧ Dq K H v d ∧ Q (.bl (shp d)) H
def spIsKd (K : PySem.W.Frag) : Sp := fun vs H Q _ => ∃ v d, vs = [v] ∧ Dq K H v d ∧ sz d ≤ 1000000 ∧ ∀ H', Same H H' → Q (.bl (isKd d)) H'
abbrev s_is_base_number : Stmt := top 18
theorem sc_is_base_number : FnScope ["thing"] ["thing"] (defScope s_is_base_number) := ⟨rfl, rfl, rfl, by decide +kernel, rfl, by decide +kernel, by decide +kernel⟩
abbrev s_is_kind_but_for_parts : Stmt := top 20
theorem sc_is_kind_but_for_parts : FnScope ["thing", "word"] ["thing"] (defScope s_is_kind_but_for_parts) := ⟨rfl, rfl, rfl, by decide +kernel, rfl, by decide +kernel, by decide +kernel⟩
abbrev s_is_kind : Stmt := top 19
theorem sc_is_kind : FnScope ["thing", "left", "part"] ["thing"] (defScope s_is_kind) := ⟨rfl, rfl, rfl, by decide +kernel, rfl, by decide +kernel, by decide +kernel⟩
section
variable {P : Program} {w : World} {K : PySem.W.Frag} {mg : Str → Option Value} {base : Heap} {CN CT : Addr}
theorem ok_is_base_number (A : At K mg "is_base_number" s_is_base_number) (T : Txt K mg w CN CT) : Cal P w K mg base CX0 1 "is_base_number" ["thing"] (spBn K) := by
  obtain ⟨f, fd, F, m⟩ := A
  refine ⟨f, fd, F.ok sc_is_base_number (fun vs H Q E h => ?_) (fun cdv A outer s H vs Q E hr h => ?_), F.binds (ps := ["thing"]) (fun _ _ _ _ _ _ us hl => match us, hl with | [_], _ => rfl), F.kp, m⟩
  · obtain ⟨v, d, rfl, _⟩ := h; rfl
  obtain ⟨v, d, rfl, hd, q⟩ := h
  refine ⟨_, (pss_one (ps_ret (pe_and (pe_cmpR op_isTyB (pe_callTy call_type1 (by rfl) T.z_type (by decide +kernel) (pa_cons (pv 0) pa_nil)) (pe_bltn (v := .ty "int") (by rfl) T.z_int (by decide +kernel) rfl) (nomark _)) (pe_one (pe_chain op_le op_lt pe_int (pv 0) (pe_callB call_len (by rfl) T.z_len (by decide +kernel) (pa_cons (pe_globS (by rfl) T.g_BASE_LETTERS) pa_nil))))))), ?_⟩
  refine ⟨_, rfl, _, _, rfl, hd.ty, _, _, rfl, rfl, _, rfl, ?_⟩
  refine ite2 (fun c => ?_) (fun c => ?_)
  · have c' := of_decide_eq_true c
    cases hd <;> simp [tyN] at c'
    rename_i n
    refine ⟨_, rfl, _, _, rfl, rfl, _, rfl, ?_⟩
    have q' : Q (.bl (decide (0 ≤ n) && decide (n < 8))) H := q
    refine ite2 (fun c2 => ?_) (fun c2 => ?_)
    · refine ⟨_, _, rfl, ⟨letters_fit, rfl⟩, _, _, rfl, rfl, ?_⟩
      rw [letters8]
      rw [c2, Bool.true_and] at q'
      exact q'
    · rw [Bool.eq_false_iff.mpr c2, Bool.false_and] at q'
      exact q'
  · have c' := of_decide_eq_false (Bool.eq_false_iff.mpr c)
    have e : isBn d = false := by cases d <;> first | rfl | (simp [tyN] at c')
    rw [e] at q
    exact q
/-- the words of SIGN_OF_WORD -/
theorem sow (w : Str) : ([(("both" : Str), V.str "*"), ("from", .str ">")].lookup w).isSome = (decide (w = "both") || decide (w = "from")) := by
  by_cases h : w = "both"
  · subst h; rfl
  · by_cases h2 : w = "from"
    · subst h2; rfl
    · have e1 : (w == ("both" : Str)) = false := beq_eq_false_iff_ne.mpr h
      have e2 : (w == ("from" : Str)) = false := beq_eq_false_iff_ne.mpr h2
      simp [List.lookup, e1, e2, h, h2]
theorem ok_is_kind_but_for_parts (A : At K mg "_is_kind_but_for_parts" s_is_kind_but_for_parts) (T : Txt K mg w CN CT) (C_is_base_number : Cal P w K mg base CX0 1 "is_base_number" ["thing"] (spBn K)) : Cal P w K mg base CX0 2 "_is_kind_but_for_parts" ["thing"] (spShp K) := by
  obtain ⟨f, fd, F, m⟩ := A
  refine ⟨f, fd, F.ok sc_is_kind_but_for_parts (fun vs H Q E h => ?_) (fun cdv A outer s H vs Q E hr h => ?_), F.binds (ps := ["thing"]) (fun _ _ _ _ _ _ us hl => match us, hl with | [_], _ => rfl), F.kp, m⟩
  · obtain ⟨v, d, rfl, _⟩ := h; rfl
  obtain ⟨v, d, rfl, hd, q⟩ := h
  refine ⟨_, (pss_cons (ps_if (PW.pt (pw_or (pt_cmpR op_notTyB (pe_callTy call_type1 (by rfl) T.z_type (by decide +kernel) (pa_cons (pv 0) pa_nil)) (pe_bltn (v := .ty "tuple") (by rfl) T.z_tuple (by decide +kernel) rfl) (nomark _)) (pw_or1 (pt_cmpR (op_eqA (room200 hr)) (pe_callB call_len (by rfl) T.z_len (by decide +kernel) (pa_cons (pv 0) pa_nil)) pe_int (nomark _)))))
   (pss_one (ps_ret pe_bl))
   pss_nil)
  (pss_cons (ps_set (i := 1) sc_is_kind_but_for_parts.nd rfl (by first | exact Or.inl rfl | exact Or.inr rfl) (pe_ix ix_B (pv 0) pe_int (fun _ _ => rfl)))
  (pss_cons (ps_if (pt_cmpR op_notTyB (pe_callTy call_type1 (by rfl) T.z_type (by decide +kernel) (pa_cons (pv 1) pa_nil)) (pe_bltn (v := .ty "str") (by rfl) T.z_str (by decide +kernel) rfl) (nomark _))
   (pss_one (ps_ret pe_bl))
   pss_nil)
  (pss_cons (ps_if (pt_cmpR (op_eqA (room200 hr)) (pv 1) pe_str (nomark _))
   (pss_one (ps_ret (pe_and (pe_cmpR (op_eqA (room200 hr)) (pe_callB call_len (by rfl) T.z_len (by decide +kernel) (pa_cons (pv 0) pa_nil)) pe_int (nomark _)) (pe_one (pe_calC C_is_base_number (hr.mono (by first | decide | omega)) pass0 (pa_cons (pe_ix ix_B (pv 0) pe_int (fun _ _ => rfl)) pa_nil))))))
   pss_nil)
  (pss_cons (ps_if (pt_cmpR (op_eqA (room200 hr)) (pv 1) pe_str (nomark _))
   (pss_one (ps_ret (pe_cmpR (op_eqA (room200 hr)) (pe_callB call_len (by rfl) T.z_len (by decide +kernel) (pa_cons (pv 0) pa_nil)) pe_int (nomark _))))
   pss_nil)
  (pss_one (ps_ret (pe_and (pe_cmpR op_in_DS (pv 1) (pe_globD (by rfl) T.g_SIGN_OF_WORD) rfl) (pe_one (pe_cmpR (op_eqA (room200 hr)) (pe_callB call_len (by rfl) T.z_len (by decide +kernel) (pa_cons (pv 0) pa_nil)) pe_int (nomark _))))))))))), ?_⟩
  refine ⟨_, rfl, _, _, rfl, hd.ty, _, _, rfl, rfl, _, rfl, ?_⟩
  by_cases ht : tyN d = "tuple"
  · rw [ht]
    refine iteF ?_
    cases hd <;> simp [tyN] at ht
    rename_i a xs ds hs ha
    have hlen := ha.length
    refine ⟨_, rfl, _, _, rfl, .inr ⟨_, hs, rfl⟩, .inl ⟨rfl, _, rfl, ?_⟩⟩
    cases ha with
    | nil => exact iteT q
    | cons h1 h2 =>
      rename_i v1 vs1 d1 ds1
      have hlen1 := h2.length
      refine iteF' (decide_eq_false (by intro z; have z' := V.int.inj z; rw [List.length_cons] at z'; omega)) ?_
      refine ⟨_, rfl, .inl (.inr (.inl ⟨a, _, 0, v1, rfl, rfl, hs, at0 _ _, ?_⟩))⟩
      refine ⟨_, rfl, _, _, rfl, h1.ty, _, _, rfl, rfl, _, rfl, ?_⟩
      by_cases ht1 : tyN d1 = "str"
      · rw [ht1]
        refine iteF ?_
        cases h1 <;> simp [tyN] at ht1
        rename_i z
        refine ⟨_, rfl, .inl ⟨rfl, _, rfl, ?_⟩⟩
        by_cases hb : z = "base"
        · subst hb
          refine iteT' (decide_eq_true rfl) ?_
          refine ⟨_, rfl, _, _, rfl, .inr ⟨_, hs, rfl⟩, .inl ⟨rfl, _, rfl, ?_⟩⟩
          cases h2 with
          | nil => exact iteF' (by decide) (qbl q (by simp [shp]))
          | cons h3 h4 =>
            rename_i v2 vs2 d2 ds2
            cases h4 with
            | nil =>
              refine iteT' (decide_eq_true rfl) ?_
              exact ⟨_, rfl, .inl (.inr (.inl ⟨a, _, 1, v2, rfl, rfl, hs, at1 _ _ _, v2, d2, rfl, h3, qbl q (by simp [shp])⟩))⟩
            | cons h5 h6 => exact iteF' (decide_eq_false (by intro z; have z' := V.int.inj z; simp only [List.length_cons] at z'; omega)) (qbl q (by simp [shp]))
        · refine iteF' (decide_eq_false fun z => hb (V.str.inj z)) ?_
          refine ⟨_, rfl, .inl ⟨rfl, _, rfl, ?_⟩⟩
          by_cases hu : z = "unit"
          · subst hu
            refine iteT' (decide_eq_true rfl) ?_
            refine ⟨_, rfl, _, _, rfl, .inr ⟨_, hs, rfl⟩, .inl ⟨rfl, qbl q ?_⟩⟩
            cases ds1 with
            | nil => simp [shp, unit_ne_base, hlen1]
            | cons x r => simp [shp, unit_ne_base, hlen1]; omega
          · refine iteF' (decide_eq_false fun z => hu (V.str.inj z)) ?_
            refine ⟨_, rfl, fun dd hD => ⟨z, dd, _, rfl, rfl, hD, _, rfl, ?_⟩⟩
            rw [if_neg Bool.false_ne_true, sow]
            have e0 : shp (.tuple (.str z :: ds1)) = ((decide (z = "both") || decide (z = "from")) && ds1.length == 2) := by simp [shp, hb, hu]
            rw [e0] at q
            refine ite2 (fun c => ?_) (fun c => ?_)
            · rw [c, Bool.true_and] at q
              refine ⟨_, rfl, _, _, rfl, .inr ⟨_, hs, rfl⟩, .inl ⟨rfl, qbl q ?_⟩⟩
              rw [List.length_cons, hlen1]
              by_cases h2 : ds1.length = 2
              · rw [h2]; rfl
              · rw [beq_eq_false_iff_ne.mpr h2]
                exact (decide_eq_false fun z => h2 (by have z' := V.int.inj z; omega)).symm
            · rw [Bool.eq_false_iff.mpr c, Bool.false_and] at q
              exact q
      · refine iteT' (by simp [ht1]) ?_
        exact qbl q (by cases d1 <;> first | (simp [shp]; done) | (simp [tyN] at ht1))
  · refine iteT' (by simp [ht]) ?_
    exact qbl q (by cases d <;> first | (simp [shp]; done) | (simp [tyN] at ht))
end
section
variable {P : Program} {w : World} {K : PySem.W.Frag} {mg : Str → Option Value} {base : Heap} {CN CT : Addr}
theorem ok_is_kind (A : At K mg "is_kind" s_is_kind) (T : Txt K mg w CN CT) (C_is_kind_but_for_parts : Cal P w K mg base CX0 2 "_is_kind_but_for_parts" ["thing"] (spShp K)) : Cal P w K mg base CX0 3 "is_kind" ["thing"] (spIsKd K) := by
  obtain ⟨f, fd, F, m⟩ := A
  refine ⟨f, fd, F.ok sc_is_kind (fun vs H Q E h => ?_) (fun cdv A outer s H vs Q E hr h => ?_), F.binds (ps := ["thing"]) (fun _ _ _ _ _ _ us hl => match us, hl with | [_], _ => rfl), F.kp, m⟩
  · obtain ⟨v, d, rfl, _⟩ := h; rfl
  obtain ⟨v, d, rfl, hd, hz, q⟩ := h
  refine ⟨_, (pss_cons (ps_set (i := 1) sc_is_kind.nd rfl (by first | exact Or.inl rfl | exact Or.inr rfl) (pe_lst (pa_cons (pv 0) pa_nil)))
  (pss_cons (ps_while PassesOwn.never (pt_truth (pv 1) (by intro _; rfl))
   (pss_cons (ps_set (i := 2) sc_is_kind.nd rfl (by first | exact Or.inl rfl | exact Or.inr rfl) (pe_bm0 PySem.F.plainAttrs_list PySem.F.slot_list_pop PySem.F.type_list_pop mt_pop (pv 1) ))
  (pss_cons (ps_if (pt_not (pt_val (pe_calC C_is_kind_but_for_parts (hr.mono (by first | decide | omega)) pass0 (pa_cons (pv 2) pa_nil))))
   (pss_one (ps_ret pe_bl))
   pss_nil)
  (pss_one (ps_if (pt_cmpR op_in_DS (pe_ix ix_B (pv 2) pe_int (fun _ _ => rfl)) (pe_globD (by rfl) T.g_SIGN_OF_WORD) rfl)
   (pss_one (ps_expr (pe_bm PySem.F.plainAttrs_list PySem.F.slot_list_extend PySem.F.type_list_extend mt_extendT (pv 1) (pa_cons (pe_slice sl_A (pv 2) (po_some pe_int) po_none) pa_nil))))
   pss_nil)))))
  (pss_one (ps_ret pe_bl)))), ?_⟩
  refine ⟨_, rfl, (by show 1 ≤ sizeLine; decide), fun l hl => ?_⟩
  refine ⟨fun n σ H' => ∃ vs ds o, σ = [some v, some (.ref l), o] ∧ H' l = some (.lst vs) ∧ DqAll K (out l H') vs ds ∧ n = szs ds ∧ n ≤ sz d ∧ Same H (out l H') ∧ isKd d = ds.all isKd,
    ⟨sz d, [v], [d], none, rfl, upd_same, .cons (hd.same (same_keepO' hl)) .nil, by simp [szs], Nat.le_refl _, same_keepO' hl, by simp⟩, ?_⟩
  rintro n σ H1 ⟨vs, ds, o, rfl, e1, ha, rfl, hn, sm, hk⟩
  refine ⟨_, rfl, _, .inl ⟨vs, .of e1, rfl⟩, ?_⟩
  have hlen := ha.length
  rcases List.eq_nil_or_concat ds with hds | ⟨ds', x, hds⟩
  · subst hds
    cases ha
    exact iteF' rfl (qbl (q _ (of_out sm)) (by rw [hk]; rfl))
  · rw [List.concat_eq_append] at hds
    subst hds
    obtain ⟨us, y, rfl, ha1, hx⟩ := ha.last
    refine iteT' (by simp) ⟨_, fun _ _ z => z, ?_⟩
    refine ⟨_, rfl, .inl ⟨rfl, _, .of e1⟩, l, us ++ [y], y, rfl, rfl, e1, last_at us y, ?_⟩
    rw [dl_append]
    have hx' : Dq K (upd H1 l (.lst us)) y x := hx.same out_upd
    have hsz : szs (ds' ++ [x]) = szs ds' + sz x := by rw [szs_append]; simp [szs]
    have hk' : isKd d = (ds'.all isKd && isKd x) := by rw [hk, List.all_append]; simp
    have hsm : Same H (out l (upd H1 l (.lst us))) := same_keepO sm _
    refine ⟨_, rfl, y, x, rfl, hx', _, rfl, ?_⟩
    by_cases hs : shp x = true
    · refine iteF' (by rw [hs]; rfl) ?_
      obtain ⟨wd, r, rfl⟩ := shp_is x hs
      have hturn := isKd_turn (.tuple (.str wd :: r))
      rw [hs, Bool.true_and] at hturn
      have hkz := kids_sz (.tuple (.str wd :: r))
      cases hx with
      | tup hS hA =>
        rename_i a xs
        cases hA with
        | cons h1 h2 =>
          rename_i v1 vs1
          cases h1
          have hS2 : SqT K (upd H1 l (.lst us)) a (V.str wd :: vs1) := KB.Same.tup out_upd hS
          refine ⟨_, rfl, .inl (.inr (.inl ⟨a, _, 0, _, rfl, rfl, hS2, at0 _ _, ?_⟩))⟩
          refine fun dd hD => ⟨wd, dd, _, rfl, rfl, hD, _, rfl, ?_⟩
          rw [if_neg Bool.false_ne_true, sow]
          refine ite2 (fun c => ?_) (fun c => ?_)
          · have ek : kids (.tuple (.str wd :: r)) = r := by
              simp only [kids]
              rw [if_pos (by simpa using c)]
            rw [ek] at hturn hkz
            refine ⟨_, rfl, .inl ⟨rfl, _, .of upd_same⟩, _, rfl, 1, rfl, .inr (.inl ⟨a, _, rfl, hS2, cut1_not _ _, fun p hp => ?_⟩)⟩
            rw [cut1]
            have npl : l ≠ p := ne_of_none upd_same hp
            have hl1 := ha1.length
            have hl2 := h2.length
            have hb1 := len_szs ds'
            have hb2 := len_szs r
            refine ⟨l, p, us, vs1, rfl, rfl, by rw [upd_ne npl]; exact upd_same, .of upd_same, fits (by omega), ?_⟩
            have s1 : Same (out l H1) (out l (upd (upd (upd H1 l (.lst us)) p (.tup vs1)) l (.lst (us ++ vs1)))) := (out_set _).trans ((out_new hp _).trans (out_set _))
            exact ⟨szs (ds' ++ r), by rw [hsz, szs_append]; omega, us ++ vs1, ds' ++ r, _, rfl, upd_same, (ha1.same s1).append (h2.same s1), rfl, by rw [szs_append]; omega, sm.trans s1, by rw [hk', hturn, List.all_append]⟩
          · have ek : kids (.tuple (.str wd :: r)) = [] := by
              simp only [kids]
              rw [if_neg (by simpa using c)]
            rw [ek] at hturn
            have s1 : Same (out l H1) (out l (upd H1 l (.lst us))) := out_set _
            exact ⟨szs ds', by have := sz_pos (.tuple (.str wd :: r)); omega, us, ds', _, rfl, upd_same, ha1.same s1, rfl, by omega, hsm, by rw [hk', hturn]; simp⟩
    · have hs' : shp x = false := Bool.eq_false_iff.mpr hs
      refine iteT' (by rw [hs']; rfl) ?_
      exact qbl (q _ (of_out hsm)) (by rw [hk', isKd_turn x, hs']; simp)
end
/-! ## need_kind, kind_text -/
def spNeed (K : PySem.W.Frag) (CN : Addr) : Sp := fun vs H Q E => ∃ v d, vs = [v] ∧ Dq K H v d ∧ sz d ≤ 1000000 ∧
  (isKd d = true → ∀ H', Same H H' → Q .non H') ∧ (isKd d = false → ∀ H', Same H H' → E (.ref CN) none H')
def spKText (K : PySem.W.Frag) (CN : Addr) : Sp := fun vs H Q E => ∃ v d, vs = [v] ∧ Dq K H v d ∧ sz d ≤ 1000000 ∧
  (∀ k : Kd, k.ok → d = k.dat → ∀ H', Same H H' → Q (.str k.txt) H') ∧ (isKd d = false → ∀ H', Same H H' → E (.ref CN) none H')
abbrev s_need_kind : Stmt := top 21
theorem sc_need_kind : FnScope ["thing"] ["thing"] (defScope s_need_kind) := ⟨rfl, rfl, rfl, by decide +kernel, rfl, by decide +kernel, by decide +kernel⟩
abbrev s_kind_text : Stmt := top 22
theorem sc_kind_text : FnScope ["kind", "pieces", "left", "part", "word", "one", "other"] ["kind"] (defScope s_kind_text) := ⟨rfl, rfl, rfl, by decide +kernel, rfl, by decide +kernel, by decide +kernel⟩
section
variable {P : Program} {w : World} {K : PySem.W.Frag} {mg : Str → Option Value} {base : Heap} {CN CT : Addr}
theorem ok_need_kind (A : At K mg "need_kind" s_need_kind) (T : Txt K mg w CN CT) (C_is_kind : Cal P w K mg base CX0 3 "is_kind" ["thing"] (spIsKd K)) : Cal P w K mg base (L2.CX P w) 4 "need_kind" ["thing"] (spNeed K CN) := by
  obtain ⟨f, fd, F, m⟩ := A
  refine ⟨f, fd, F.okX sc_need_kind (fun vs H Q E h => ?_) (fun cdv A outer s H vs Q E hr h => ?_), F.binds (ps := ["thing"]) (fun _ _ _ _ _ _ us hl => match us, hl with | [_], _ => rfl), F.kp, m⟩
  · obtain ⟨v, d, rfl, _⟩ := h; rfl
  obtain ⟨v, d, rfl, hd, hz, q1, q2⟩ := h
  refine ⟨_, (pss_one (ps_if (pt_not (pt_val (pe_calC C_is_kind (hr.mono (by first | decide | omega)) pass0 (pa_cons (pv 0) pa_nil))))
   (pss_one (ps_raiseO rfl (takes_of rfl rfl rfl rfl) T.e_NoKind))
   pss_nil)), ?_⟩
  refine ⟨_, rfl, v, d, rfl, hd, hz, fun H' sm => ⟨_, rfl, ?_⟩⟩
  by_cases hk : isKd d = true
  · exact iteF' (by rw [hk]; rfl) (q1 hk H' sm)
  · have hk' : isKd d = false := Bool.eq_false_iff.mpr hk
    exact iteT' (by rw [hk']; rfl) (q2 hk' H' sm)
theorem letter_at {n : Nat} (h : n < 8) : atI ("abcdefgh" : Str).cps.toList (n : Int) = some (97 + n) := by
  refine atI_nat ?_
  have : ∀ m : Nat, m < 8 → ("abcdefgh" : Str).cps.toList[m]? = some (97 + m) := by decide +kernel
  exact this n h
/-- what holds between two turns of kind_text's walk -/
def KtW (K : PySem.W.Frag) (H : Hp) (v : V) (pp l : Addr) (k : Kd) (n : Nat) (σ : L2.St) (H' : Hp) : Prop :=
  ∃ (vs : List V) (is : List Itm) (ls : List (List Nat)) (o1 o2 o3 o4 : Option V), σ = [some v, some (.ref pp), some (.ref l), o1, o2, o3, o4] ∧ H' l = some (.lst vs) ∧ H' pp = some (.lst ((ls.map tx).map V.str)) ∧
      DqAll K (out l (out pp H')) vs (is.map Itm.dat) ∧ (∀ i ∈ is, i.ok) ∧ n = wks is ∧ ls.length + n ≤ k.wk ∧ ls.flatten ++ cods is = k.cod ∧ Same H (out l (out pp H'))
theorem ok_kind_text (A : At K mg "kind_text" s_kind_text) (T : Txt K mg w CN CT) (C_need_kind : Cal P w K mg base (L2.CX P w) 4 "need_kind" ["thing"] (spNeed K CN)) : Cal P w K mg base (L2.CX P w) 5 "kind_text" ["kind"] (spKText K CN) := by
  obtain ⟨f, fd, F, m⟩ := A
  refine ⟨f, fd, F.okX sc_kind_text (fun vs H Q E h => ?_) (fun cdv A outer s H vs Q E hr h => ?_), F.binds (ps := ["kind"]) (fun _ _ _ _ _ _ us hl => match us, hl with | [_], _ => rfl), F.kp, m⟩
  · obtain ⟨v, d, rfl, _⟩ := h; rfl
  obtain ⟨v, d, rfl, hd, hz, q1, q2⟩ := h
  refine ⟨_, (pss_cons (ps_expr (pe_calC C_need_kind (hr.mono (by first | decide | omega)) (passes_call (takes_of rfl rfl rfl rfl) (fun _ _ _ _ h => h)) (pa_cons (pv 0) pa_nil)))
  (pss_cons (ps_set (i := 1) sc_kind_text.nd rfl (by first | exact Or.inl rfl | exact Or.inr rfl) (pe_lst pa_nil))
  (pss_cons (ps_set (i := 2) sc_kind_text.nd rfl (by first | exact Or.inl rfl | exact Or.inr rfl) (pe_lst (pa_cons (pv 0) pa_nil)))
  (pss_cons (ps_while (passes_of rfl) (pt_truth (pv 2) (by intro _; rfl))
   (pss_cons (ps_set (i := 3) sc_kind_text.nd rfl (by first | exact Or.inl rfl | exact Or.inr rfl) (pe_bm0 PySem.F.plainAttrs_list PySem.F.slot_list_pop PySem.F.type_list_pop mt_pop (pv 2) ))
  (pss_one (ps_if (pt_cmpR op_isTyB (pe_callTy call_type1 (by rfl) T.z_type (by decide +kernel) (pa_cons (pv 3) pa_nil)) (pe_bltn (v := .ty "str") (by rfl) T.z_str (by decide +kernel) rfl) (nomark _))
   (pss_one (ps_expr (pe_bm PySem.F.plainAttrs_list PySem.F.slot_list_append PySem.F.type_list_append mt_append (pv 1) (pa_cons (pv 3) pa_nil))))
   (pss_one (ps_if (pt_cmpR (op_eqA (room200 hr)) (pe_ix ix_B (pv 3) pe_int (fun _ _ => rfl)) pe_str (nomark _))
   (pss_one (ps_expr (pe_bm PySem.F.plainAttrs_list PySem.F.slot_list_append PySem.F.type_list_append mt_append (pv 1) (pa_cons (pe_ix ix_B (pe_globS (by rfl) T.g_BASE_LETTERS) (pe_ix ix_B (pv 3) pe_int (fun _ _ => rfl)) (fun _ _ => rfl)) pa_nil))))
   (pss_one (ps_if (pt_cmpR (op_eqA (room200 hr)) (pe_ix ix_B (pv 3) pe_int (fun _ _ => rfl)) pe_str (nomark _))
   (pss_one (ps_expr (pe_bm PySem.F.plainAttrs_list PySem.F.slot_list_append PySem.F.type_list_append mt_append (pv 1) (pa_cons (pe_globS (by rfl) T.g_UNIT_TEXT) pa_nil))))
   (pss_cons (ps_asg (pv 3) (pg_tup (by rfl) (pgs_cons (pg_name (i := 4) sc_kind_text.nd rfl (by first | exact Or.inl rfl | exact Or.inr rfl)) (pgs_cons (pg_name (i := 5) sc_kind_text.nd rfl (by first | exact Or.inl rfl | exact Or.inr rfl)) (pgs_cons (pg_name (i := 6) sc_kind_text.nd rfl (by first | exact Or.inl rfl | exact Or.inr rfl)) pgs_nil)))))
  (pss_one (ps_expr (pe_bm PySem.F.plainAttrs_list PySem.F.slot_list_extend PySem.F.type_list_extend mt_extend (pv 2) (pa_cons (pe_lst (pa_cons pe_str (pa_cons (pv 6) (pa_cons (pe_ix ix_B (pe_globD (by rfl) T.g_SIGN_OF_WORD) (pv 4) (fun _ _ => rfl)) (pa_cons (pv 5) (pa_cons pe_str pa_nil)))))) pa_nil)))))))))))))
  (pss_one (ps_ret (pe_join pe_str (pv 1)))))))), ?_⟩
  refine ⟨_, rfl, v, d, rfl, hd, hz, fun hk H0 sm0 => ?_, q2⟩
  obtain ⟨k, ok, rfl⟩ := kd_of d hk
  have hkz : k.leaves ≤ 1000000 := by have := k.leaves_sz; omega
  have q := q1 k ok rfl
  refine ⟨Nat.zero_le _, fun pp hp => ?_⟩
  refine ⟨_, rfl, (by show 1 ≤ sizeLine; decide), fun l hl => ?_⟩
  have npl : pp ≠ l := ne_of_none upd_same hl
  have hl0 : H0 l = none := by rw [upd_ne npl.symm] at hl; exact hl
  refine ⟨KtW K H v pp l k,
    ⟨k.wk, [v], [.k k], [], none, none, none, none, rfl, upd_same, by rw [upd_ne npl]; exact upd_same, ?_, by simpa [Itm.ok] using ok, by simp [wks, Itm.wk], by simp, by simp [cods, Itm.cod], ?_⟩, ?_⟩
  · refine .cons ((hd.same sm0).same ?_) .nil
    exact fun b u e => by rw [out_ne (ne_of_none e hl0), out_ne (ne_of_none e hp), upd_ne (ne_of_none e hl0), upd_ne (ne_of_none e hp)]; exact e
  · exact fun b u e => by
      have e' := sm0 b u e
      rw [out_ne (ne_of_none e' hl0), out_ne (ne_of_none e' hp), upd_ne (ne_of_none e' hl0), upd_ne (ne_of_none e' hp)]; exact e'
  have hwk := k.wk_le
  rintro n σ H1 ⟨vs, is, ls, o1, o2, o3, o4, rfl, e1, e2, ha, hok, rfl, hn, hc, sm⟩
  refine ⟨_, rfl, _, .inl ⟨vs, .of e1, rfl⟩, ?_⟩
  have hlen := ha.length
  rcases List.eq_nil_or_concat is with hds | ⟨is', x, hds⟩
  · subst hds
    cases ha
    refine iteF' rfl ?_
    have hcl := k.cod_length
    refine ⟨⟨_, rfl⟩, _, rfl, "", pp, ls.map tx, rfl, rfl, .inl (.of e2), ?_, ?_⟩
    · rw [join_size]
      have hcf : ls.flatten.length = k.cod.length := by rw [← hc]; simp [cods]
      show ls.flatten.length + (ls.map tx).length * 0 ≤ 16777216
      omega
    · rw [KB.join_nil]
      have e : ls.flatten = k.cod := by rw [← hc]; simp [cods]
      rw [e]
      exact q _ (of_out2 sm)
  · rw [List.concat_eq_append] at hds
    subst hds
    rw [List.map_append] at ha
    obtain ⟨us, y, rfl, ha1, hx⟩ := DqAll.last (d := x.dat) ha
    refine iteT' (by simp) ⟨_, fun _ _ z => z, ?_⟩
    refine ⟨_, rfl, .inl ⟨rfl, _, .of e1⟩, l, us ++ [y], y, rfl, rfl, e1, last_at us y, ?_⟩
    rw [dl_append]
    have e3 : upd H1 l (.lst us) pp = some (.lst ((ls.map tx).map V.str)) := by rw [upd_ne npl]; exact e2
    have sm1 : Same (out l (out pp H1)) (out l (out pp (upd H1 l (.lst us)))) := same2 (Same.refl _) _ (.inl rfl)
    have hx' : Dq K (upd H1 l (.lst us)) y x.dat := (hx.same sm1).same out2_sub
    have hokx : x.ok := hok x (by simp)
    have hok' : ∀ i ∈ is', i.ok := fun i hi => hok i (by simp [hi])
    have hw1 : wks (is' ++ [x]) = wks is' + x.wk := by rw [wks_append]; simp [wks]
    rw [cods_snoc] at hc
    have hlb := len_wks is'
    have hll : us.length = is'.length := by rw [ha1.length, List.length_map]
    refine ⟨_, rfl, y, _, rfl, hx'.ty, _, _, rfl, rfl, _, rfl, ?_⟩
    -- what is left behind a turn in which a text is appended
    have fin : ∀ (z : List Nat) (o1 o2 o3 o4 : Option V), x.cod = z → ∃ m', m' < wks (is' ++ [x]) ∧ KtW K H v pp l k m' [some v, some (.ref pp), some (.ref l), o1, o2, o3, o4] (upd (upd H1 l (.lst us)) pp (.lst (((ls.map tx).map V.str) ++ [V.str (tx z)]))) :=
      fun z o1 o2 o3 o4 hz => ⟨wks is', by have := x.wk_pos; omega, us, is', ls ++ [z], o1, o2, o3, o4, rfl, by rw [upd_ne npl.symm]; exact upd_same, by rw [upd_same, KB.strs_map],
        ha1.same (sm1.trans (same2 (Same.refl _) _ (.inr rfl))), hok', rfl, by have := x.wk_pos; rw [List.length_append, List.length_singleton]; omega, by rw [← hc, ← hz]; simp, sm.trans (sm1.trans (same2 (Same.refl _) _ (.inr rfl)))⟩
    cases x with
    | s z =>
      cases hx'
      refine iteT' (decide_eq_true rfl) ?_
      exact ⟨_, rfl, .inl ⟨rfl, _, .of e3⟩, _, rfl, pp, _, _, rfl, rfl, e3, fits_lt (by rw [List.length_map, List.length_map]; omega), fin z _ _ _ _ rfl⟩
    | k kk =>
      have hty := kk.ty
      refine iteF' (by show decide (tyN kk.dat = "str") = false; rw [hty]; decide) ?_
      cases kk with
      | b m =>
        have hm : m < 8 := hokx
        cases hx' with
        | tup hS hA =>
          rename_i a xs
          cases hA with
          | cons h1 h2 =>
            cases h1
            cases h2 with
            | cons h3 h4 =>
              cases h3
              cases h4
              refine ⟨_, rfl, .inl (.inr (.inl ⟨a, _, 0, _, rfl, rfl, hS, at0 _ _, .inl ⟨rfl, _, rfl, iteT' (decide_eq_true rfl) ?_⟩⟩))⟩
              refine ⟨_, rfl, .inl ⟨rfl, _, .of e3⟩, _, rfl, .inl (.inr (.inl ⟨a, _, 1, _, rfl, rfl, hS, at1 _ _ _, .inl (.inr (.inr ⟨_, _, _, rfl, rfl, letters_fit, letter_at hm, ?_⟩))⟩))⟩
              exact ⟨pp, _, _, rfl, rfl, e3, fits_lt (by rw [List.length_map, List.length_map]; omega), fin [97 + m] _ _ _ _ rfl⟩
      | u =>
        cases hx' with
        | tup hS hA =>
          rename_i a xs
          cases hA with
          | cons h1 h2 =>
            cases h1
            cases h2
            refine ⟨_, rfl, .inl (.inr (.inl ⟨a, _, 0, _, rfl, rfl, hS, at0 _ _, .inl ⟨rfl, _, rfl, iteF' (decide_eq_false fun z => absurd (V.str.inj z) (by decide)) ?_⟩⟩))⟩
            refine ⟨_, rfl, .inl (.inr (.inl ⟨a, _, 0, _, rfl, rfl, hS, at0 _ _, .inl ⟨rfl, _, rfl, iteT' (decide_eq_true rfl) ?_⟩⟩))⟩
            exact ⟨_, rfl, .inl ⟨rfl, _, .of e3⟩, pp, _, _, rfl, rfl, e3, fits_lt (by rw [List.length_map, List.length_map]; omega), fin [49] _ _ _ _ rfl⟩
      | p x1 x2 =>
        cases hx with
        | tup hS0 hA0 =>
          rename_i a xs
          cases hA0 with
          | cons h1 h2 =>
            cases h1
            cases h2 with
            | cons h3 h4 =>
              cases h4 with
              | cons h5 h6 =>
                cases h6
                rename_i v1 v2
                have hS : SqT K (upd H1 l (.lst us)) a [.str "both", v1, v2] := KB.Same.tup (sm1.trans out2_sub) hS0
                refine ⟨_, rfl, .inl (.inr (.inl ⟨a, _, 0, _, rfl, rfl, hS, at0 _ _, .inl ⟨rfl, _, rfl, iteF' (decide_eq_false fun z => absurd (V.str.inj z) (by decide)) ?_⟩⟩))⟩
                refine ⟨_, rfl, .inl (.inr (.inl ⟨a, _, 0, _, rfl, rfl, hS, at0 _ _, .inl ⟨rfl, _, rfl, iteF' (decide_eq_false fun z => absurd (V.str.inj z) (by decide)) ?_⟩⟩))⟩
                refine ⟨_, rfl, a, _, rfl, hS, rfl, _, _, rfl, _, _, rfl, _, _, rfl, rfl, ?_⟩
                refine ⟨_, rfl, .inl ⟨rfl, _, .of upd_same⟩, _, rfl, fun dd hD => ⟨_, rfl, .inr ⟨_, dd, _, .str "*", rfl, rfl, hD, rfl, ?_⟩⟩⟩
                refine ⟨_, rfl, (by show 5 ≤ sizeLine; decide), fun t ht => ?_⟩
                have nlt : l ≠ t := ne_of_none upd_same ht
                have hts : Same (out l (out pp H1)) (out l (out pp (upd (upd (upd H1 l (.lst us)) t (.lst [.str ")", v2, .str "*", v1, .str "("])) l (.lst (us ++ [.str ")", v2, .str "*", v1, .str "("]))))) :=
                  (sm1.trans (same2_new (Same.refl _) _ ht)).trans (same2 (Same.refl _) _ (.inl rfl))
                have e4 : upd (upd H1 l (.lst us)) t (.lst [.str ")", v2, .str "*", v1, .str "("]) pp = some (.lst ((ls.map tx).map V.str)) := by rw [upd_ne (ne_of_none e3 ht)]; exact e3
                refine ⟨l, t, us, _, rfl, rfl, by rw [upd_ne nlt]; exact upd_same, upd_same, fits (by show us.length + 5 ≤ 10000000; omega), ?_⟩
                have okx : x1.ok ∧ x2.ok := hokx
                have hwx : (Itm.k (Kd.p x1 x2)).wk = x1.wk + x2.wk + 4 := rfl
                refine ⟨wks (is' ++ [.s [41], .k x2, .s [42], .k x1, .s [40]]), ?_, us ++ [.str ")", v2, .str "*", v1, .str "("], is' ++ [.s [41], .k x2, .s [42], .k x1, .s [40]], ls, _, _, _, _, rfl, upd_same, by rw [upd_ne npl]; exact e4, ?_, ?_, rfl, ?_, ?_, sm.trans hts⟩
                · rw [hw1, hwx, wks_append]; simp [wks, Itm.wk]; omega
                · rw [List.map_append]
                  exact (ha1.same hts).append (.cons (.str _) (.cons (h5.same hts) (.cons (.str _) (.cons (h3.same hts) (.cons (.str _) .nil)))))
                · intro i hi
                  rcases List.mem_append.mp hi with hi | hi
                  · exact hok' i hi
                  · simp only [List.mem_cons, List.not_mem_nil, or_false] at hi
                    rcases hi with rfl | rfl | rfl | rfl | rfl
                    · trivial
                    · exact okx.2
                    · trivial
                    · exact okx.1
                    · trivial
                · rw [hw1, hwx] at hn; rw [wks_append]; simp [wks, Itm.wk] at hn ⊢; omega
                · rw [← hc, cods_append]; simp [cods, Itm.cod, Kd.cod]
      | f x1 x2 =>
        cases hx with
        | tup hS0 hA0 =>
          rename_i a xs
          cases hA0 with
          | cons h1 h2 =>
            cases h1
            cases h2 with
            | cons h3 h4 =>
              cases h4 with
              | cons h5 h6 =>
                cases h6
                rename_i v1 v2
                have hS : SqT K (upd H1 l (.lst us)) a [.str "from", v1, v2] := KB.Same.tup (sm1.trans out2_sub) hS0
                refine ⟨_, rfl, .inl (.inr (.inl ⟨a, _, 0, _, rfl, rfl, hS, at0 _ _, .inl ⟨rfl, _, rfl, iteF' (decide_eq_false fun z => absurd (V.str.inj z) (by decide)) ?_⟩⟩))⟩
                refine ⟨_, rfl, .inl (.inr (.inl ⟨a, _, 0, _, rfl, rfl, hS, at0 _ _, .inl ⟨rfl, _, rfl, iteF' (decide_eq_false fun z => absurd (V.str.inj z) (by decide)) ?_⟩⟩))⟩
                refine ⟨_, rfl, a, _, rfl, hS, rfl, _, _, rfl, _, _, rfl, _, _, rfl, rfl, ?_⟩
                refine ⟨_, rfl, .inl ⟨rfl, _, .of upd_same⟩, _, rfl, fun dd hD => ⟨_, rfl, .inr ⟨_, dd, _, .str ">", rfl, rfl, hD, rfl, ?_⟩⟩⟩
                refine ⟨_, rfl, (by show 5 ≤ sizeLine; decide), fun t ht => ?_⟩
                have nlt : l ≠ t := ne_of_none upd_same ht
                have hts : Same (out l (out pp H1)) (out l (out pp (upd (upd (upd H1 l (.lst us)) t (.lst [.str ")", v2, .str ">", v1, .str "("])) l (.lst (us ++ [.str ")", v2, .str ">", v1, .str "("]))))) :=
                  (sm1.trans (same2_new (Same.refl _) _ ht)).trans (same2 (Same.refl _) _ (.inl rfl))
                have e4 : upd (upd H1 l (.lst us)) t (.lst [.str ")", v2, .str ">", v1, .str "("]) pp = some (.lst ((ls.map tx).map V.str)) := by rw [upd_ne (ne_of_none e3 ht)]; exact e3
                refine ⟨l, t, us, _, rfl, rfl, by rw [upd_ne nlt]; exact upd_same, upd_same, fits (by show us.length + 5 ≤ 10000000; omega), ?_⟩
                have okx : x1.ok ∧ x2.ok := hokx
                have hwx : (Itm.k (Kd.f x1 x2)).wk = x1.wk + x2.wk + 4 := rfl
                refine ⟨wks (is' ++ [.s [41], .k x2, .s [62], .k x1, .s [40]]), ?_, us ++ [.str ")", v2, .str ">", v1, .str "("], is' ++ [.s [41], .k x2, .s [62], .k x1, .s [40]], ls, _, _, _, _, rfl, upd_same, by rw [upd_ne npl]; exact e4, ?_, ?_, rfl, ?_, ?_, sm.trans hts⟩
                · rw [hw1, hwx, wks_append]; simp [wks, Itm.wk]; omega
                · rw [List.map_append]
                  exact (ha1.same hts).append (.cons (.str _) (.cons (h5.same hts) (.cons (.str _) (.cons (h3.same hts) (.cons (.str _) .nil)))))
                · intro i hi
                  rcases List.mem_append.mp hi with hi | hi
                  · exact hok' i hi
                  · simp only [List.mem_cons, List.not_mem_nil, or_false] at hi
                    rcases hi with rfl | rfl | rfl | rfl | rfl
                    · trivial
                    · exact okx.2
                    · trivial
                    · exact okx.1
                    · trivial
                · rw [hw1, hwx] at hn; rw [wks_append]; simp [wks, Itm.wk] at hn ⊢; omega
                · rw [← hc, cods_append]; simp [cods, Itm.cod, Kd.cod]
end
/-! ## read_kind -/
def spSign (K : PySem.W.Frag) (CT : Addr) : Sp := fun vs H Q E => ∃ c, vs = [.str (tx [c])] ∧
  (∀ p, rs c = some p → ∀ v' H', Dq K H' v' p.dat → Same H H' → Q v' H') ∧ (rs c = none → E (.ref CT) none H)
def spClose (K : PySem.W.Frag) (CT : Addr) : Sp := fun vs H Q E => ∃ (l : Addr) (us : List V) (st : List Pt), vs = [.ref l] ∧ H l = some (.lst us) ∧ DqAll K (out l H) us (st.reverse.map Pt.dat) ∧ st.length ≤ 1000000 ∧
  (∀ st', clo st = some st' → ∀ us' H', H' l = some (.lst us') → DqAll K (out l H') us' (st'.reverse.map Pt.dat) → Same (out l H) (out l H') → Q .non H') ∧
  (clo st = none → ∀ H', Same (out l H) (out l H') → E (.ref CT) none H')
def spRead (K : PySem.W.Frag) (CT : Addr) : Sp := fun vs H Q E => ∃ v d, vs = [v] ∧ Dq K H v d ∧
  (∀ cs, d = .str (tx cs) → cs.length ≤ 10000 ∧ (∀ k, rdK cs = some k → ∀ v' H', Dq K H' v' k.dat → Same H H' → Q v' H') ∧ (rdK cs = none → ∀ H', Same H H' → E (.ref CT) none H')) ∧
  ((∀ x, d ≠ .str x) → ∀ H', Same H H' → E (.ref CT) none H')
abbrev s_read_sign : Stmt := top 24
theorem sc_read_sign : FnScope ["sign"] ["sign"] (defScope s_read_sign) := ⟨rfl, rfl, rfl, by decide +kernel, rfl, by decide +kernel, by decide +kernel⟩
abbrev s_close_braces : Stmt := top 25
theorem sc_close_braces : FnScope ["parts", "brace", "one", "sign", "other"] ["parts"] (defScope s_close_braces) := ⟨rfl, rfl, rfl, by decide +kernel, rfl, by decide +kernel, by decide +kernel⟩
abbrev s_read_kind : Stmt := top 23
theorem sc_read_kind : FnScope ["text", "parts", "sign"] ["text"] (defScope s_read_kind) := ⟨rfl, rfl, rfl, by decide +kernel, rfl, by decide +kernel, by decide +kernel⟩
theorem in_letters (c : Nat) : decide (c ∈ ("abcdefgh" : Str).cps.toList) = decide (97 ≤ c ∧ c < 105) := by
  have e : ("abcdefgh" : Str).cps.toList = [97, 98, 99, 100, 101, 102, 103, 104] := by decide +kernel
  rw [e]
  refine decide_eq_decide.mpr ?_
  simp only [List.mem_cons, List.not_mem_nil, or_false]
  omega
theorem letter_ix {c : Nat} (h : 97 ≤ c ∧ c < 105) : Txt.index0 "abcdefgh" (tx [c]) = some (c - 97) := by
  have : ∀ m : Nat, m < 8 → Txt.index0 "abcdefgh" (tx [97 + m]) = some m := by decide +kernel
  have e : 97 + (c - 97) = c := by omega
  have := this (c - 97) (by omega)
  rwa [e] at this
theorem tx1 {c m : Nat} : V.str (tx [c]) = V.str (tx [m]) ↔ c = m := ⟨fun h => by have := tx_inj (V.str.inj h); simpa using this, fun h => by rw [h]⟩
theorem wos (c : Nat) : ([(("*" : Str), V.str "both"), (">", .str "from")].lookup (tx [c])).isSome = (decide (c = 42) || decide (c = 62)) := by
  have s1 : ("*" : Str) = tx [42] := by decide +kernel
  have s2 : (">" : Str) = tx [62] := by decide +kernel
  rw [s1, s2]
  by_cases h : c = 42
  · subst h; rfl
  · by_cases h2 : c = 62
    · subst h2; rfl
    · have e1 : (tx [c] == tx [42]) = false := beq_eq_false_iff_ne.mpr fun z => h (by have := tx_inj z; simpa using this)
      have e2 : (tx [c] == tx [62]) = false := beq_eq_false_iff_ne.mpr fun z => h2 (by have := tx_inj z; simpa using this)
      simp [List.lookup, e1, e2, h, h2]
section
variable {P : Program} {w : World} {K : PySem.W.Frag} {mg : Str → Option Value} {base : Heap} {CN CT : Addr}
theorem ok_read_sign (A : At K mg "_read_sign" s_read_sign) (T : Txt K mg w CN CT) : Cal P w K mg base (L2.CX P w) 1 "_read_sign" ["sign"] (spSign K CT) := by
  obtain ⟨f, fd, F, m⟩ := A
  refine ⟨f, fd, F.okX sc_read_sign (fun vs H Q E h => ?_) (fun cdv A outer s H vs Q E hr h => ?_), F.binds (ps := ["sign"]) (fun _ _ _ _ _ _ us hl => match us, hl with | [_], _ => rfl), F.kp, m⟩
  · obtain ⟨v, rfl, _⟩ := h; rfl
  obtain ⟨c, rfl, q1, q2⟩ := h
  refine ⟨_, (pss_cons (ps_if (pt_cmpR (op_eqA (room200 hr)) (pv 0) (pe_globS (by rfl) T.g_UNIT_TEXT) (nomark _))
   (pss_one (ps_ret (pe_tup (pa_cons pe_str pa_nil))))
   pss_nil)
  (pss_cons (ps_if (pt_cmpR op_in_sign (pv 0) (pe_globS (by rfl) T.g_BASE_LETTERS) rfl)
   (pss_one (ps_ret (pe_tup (pa_cons pe_str (pa_cons (pe_bmS PySem.F.plainAttrs_str PySem.F.slot_str_index PySem.F.type_str_index (mt_indexX rfl (takes_of rfl rfl rfl rfl)) (pe_globS (by rfl) T.g_BASE_LETTERS) (pa_cons (pv 0) pa_nil)) pa_nil)))))
   pss_nil)
  (pss_cons (ps_if (PW.pt (pw_or (pt_cmpR (op_eqA (room200 hr)) (pv 0) pe_str (nomark _)) (pw_or1 (pt_cmpR op_in_DS (pv 0) (pe_globD (by rfl) T.g_WORD_OF_SIGN) rfl))))
   (pss_one (ps_ret (pv 0)))
   pss_nil)
  (pss_one (ps_raiseO rfl (takes_of rfl rfl rfl rfl) T.e_NoText))))), ?_⟩
  refine ⟨_, rfl, .inl ⟨rfl, _, rfl, ?_⟩⟩
  by_cases h1 : c = 49
  · subst h1
    refine iteT' (decide_eq_true (by decide)) ⟨(by show 1 ≤ sizeLine; decide), fun p hp => ?_⟩
    exact q1 (.k .u) rfl _ _ (.tup (.of upd_same) (.cons (.str _) .nil)) (same_new hp _)
  · refine iteF' (decide_eq_false fun z => h1 (tx1.mp z)) ?_
    refine ⟨_, rfl, c, _, rfl, rfl, _, rfl, ?_⟩
    rw [in_letters]
    by_cases h2 : 97 ≤ c ∧ c < 105
    · refine iteT' (decide_eq_true h2) ⟨rfl, _, rfl, _, _, rfl, rfl, fun k hk => ?_, fun hn => by rw [letter_ix h2] at hn; cases hn⟩
      rw [letter_ix h2] at hk
      cases hk
      refine ⟨(by show 2 ≤ sizeLine; decide), fun p hp => ?_⟩
      exact q1 (.k (.b (c - 97))) (by unfold rs; rw [if_neg h1, if_pos h2]) _ _ (.tup (.of upd_same) (.cons (.str _) (.cons (.int _) .nil))) (same_new hp _)
    · refine iteF' (decide_eq_false h2) ?_
      have er : rs c = if c = 40 ∨ c = 42 ∨ c = 62 then some (.s c) else none := by unfold rs; rw [if_neg h1, if_neg h2]
      refine ⟨_, rfl, .inl ⟨rfl, _, rfl, ?_⟩⟩
      by_cases h3 : c = 40
      · subst h3
        refine iteT' (decide_eq_true (by decide)) (iteT ?_)
        exact ⟨_, rfl, q1 (.s 40) er _ _ (.str _) (Same.refl _)⟩
      · refine iteF' (decide_eq_false fun z => h3 (tx1.mp z)) ?_
        refine ⟨_, rfl, fun dd hD => ⟨_, dd, _, rfl, rfl, hD, _, rfl, ?_⟩⟩
        rw [if_neg Bool.false_ne_true, wos]
        by_cases h4 : c = 42 ∨ c = 62
        · refine iteT' (by simpa using h4) ?_
          exact ⟨_, rfl, q1 (.s c) (by rw [er, if_pos (.inr h4)]) _ _ (.str _) (Same.refl _)⟩
        · refine iteF' (by simpa using h4) ?_
          exact q2 (by rw [er, if_neg (by rintro (h | h); exact h3 h; exact h4 h)])
end
/-- the last four of a stack -/
theorem take4 {α : Type} (pre : List α) (a b c d : α) : HT.sIx (pre ++ [a, b, c, d]).length 0 (some (-4)) = pre.length := by
  have e : (((pre ++ [a, b, c, d]).length : Nat) : Int) = (pre.length : Int) + 4 := by rw [List.length_append]; rfl
  simp only [HT.sIx, e]
  rw [if_pos (by decide)]
  omega
theorem cut4 (pre : List V) (a b c d : V) : cutV (pre ++ [a, b, c, d]) (some (-4)) none = [a, b, c, d] := by
  unfold cutV
  rw [take4, List.drop_left]
  have e : HT.sIx (pre ++ [a, b, c, d]).length (pre ++ [a, b, c, d]).length none - pre.length = 4 := by
    show (pre ++ [a, b, c, d]).length - pre.length = 4
    rw [List.length_append]; simp
  rw [e]; rfl
section
variable {P : Program} {w : World} {K : PySem.W.Frag} {mg : Str → Option Value} {base : Heap} {CN CT : Addr}
theorem ok_close_braces (A : At K mg "_close_braces" s_close_braces) (T : Txt K mg w CN CT) : Cal P w K mg base (L2.CX P w) 1 "_close_braces" ["parts"] (spClose K CT) := by
  obtain ⟨f, fd, F, m⟩ := A
  refine ⟨f, fd, F.okX sc_close_braces (fun vs H Q E h => ?_) (fun cdv A outer s H vs Q E hr h => ?_), F.binds (ps := ["parts"]) (fun _ _ _ _ _ _ us hl => match us, hl with | [_], _ => rfl), F.kp, m⟩
  · obtain ⟨l, us, st, rfl, _⟩ := h; rfl
  obtain ⟨l, us, st, rfl, e1, ha, hz, q1, q2⟩ := h
  refine ⟨_, (pss_cons (ps_if (pt_cmpR op_lt (pe_callB call_len (by rfl) T.z_len (by decide +kernel) (pa_cons (pv 0) pa_nil)) pe_int (nomark _))
   (pss_one (ps_raiseO rfl (takes_of rfl rfl rfl rfl) T.e_NoText))
   pss_nil)
  (pss_cons (ps_asg (pe_slice sl_A (pv 0) (po_some (pe_un un_neg pe_int)) po_none) (pg_unl (by rfl) (pgs_cons (pg_name (i := 1) sc_close_braces.nd rfl (by first | exact Or.inl rfl | exact Or.inr rfl)) (pgs_cons (pg_name (i := 2) sc_close_braces.nd rfl (by first | exact Or.inl rfl | exact Or.inr rfl)) (pgs_cons (pg_name (i := 3) sc_close_braces.nd rfl (by first | exact Or.inl rfl | exact Or.inr rfl)) (pgs_cons (pg_name (i := 4) sc_close_braces.nd rfl (by first | exact Or.inl rfl | exact Or.inr rfl)) pgs_nil))))))
  (pss_cons (ps_if (PW.pt (pw_or (pt_cmpR op_notTyB (pe_callTy call_type1 (by rfl) T.z_type (by decide +kernel) (pa_cons (pv 2) pa_nil)) (pe_bltn (v := .ty "tuple") (by rfl) T.z_tuple (by decide +kernel) rfl) (nomark _)) (pw_or1 (pt_cmpR op_notTyB (pe_callTy call_type1 (by rfl) T.z_type (by decide +kernel) (pa_cons (pv 4) pa_nil)) (pe_bltn (v := .ty "tuple") (by rfl) T.z_tuple (by decide +kernel) rfl) (nomark _)))))
   (pss_one (ps_raiseO rfl (takes_of rfl rfl rfl rfl) T.e_NoText))
   pss_nil)
  (pss_cons (ps_if (PW.pt (pw_or (pt_cmpR (op_neA (room200 hr)) (pv 1) pe_str (nomark _)) (pw_or (pt_cmpR op_notTyB (pe_callTy call_type1 (by rfl) T.z_type (by decide +kernel) (pa_cons (pv 3) pa_nil)) (pe_bltn (v := .ty "str") (by rfl) T.z_str (by decide +kernel) rfl) (nomark _)) (pw_or1 (pt_cmpR op_notIn_DS (pv 3) (pe_globD (by rfl) T.g_WORD_OF_SIGN) rfl)))))
   (pss_one (ps_raiseO rfl (takes_of rfl rfl rfl rfl) T.e_NoText))
   pss_nil)
  (pss_one (ps_asg (pe_lst (pa_cons (pe_tup (pa_cons (pe_ix ix_B (pe_globD (by rfl) T.g_WORD_OF_SIGN) (pv 3) (fun _ _ => rfl)) (pa_cons (pv 2) (pa_cons (pv 4) pa_nil)))) pa_nil)) (pg_cut (pv 0) (po_some (pe_un un_neg pe_int)) po_none))))))), ?_⟩
  have hlen : us.length = st.length := by rw [ha.length, List.length_map, List.length_reverse]
  refine ⟨_, rfl, _, _, rfl, .inl ⟨_, .of e1, rfl⟩, _, _, rfl, rfl, _, rfl, ?_⟩
  rw [hlen]
  refine ite2 (fun c => ?_) (fun c => ?_)
  · have c' : (st.length : Int) < 4 := of_decide_eq_true c
    refine q2 ?_ H (Same.refl _)
    match st, c' with
    | [], _ => rfl
    | [a], _ => cases a <;> rfl
    | [a, b], _ => cases a <;> cases b <;> rfl
    | [a, b, c], _ => cases a <;> cases b <;> cases c <;> rfl
    | a :: b :: c :: d :: r, h => simp only [List.length_cons] at h; omega
  · have c' : ¬ (st.length : Int) < 4 := of_decide_eq_false (Bool.eq_false_iff.mpr c)
    obtain ⟨t4, t3, t2, t1, r, rfl⟩ : ∃ a b c d r, st = a :: b :: c :: d :: r := by
      match st, c' with
      | [], h => exact absurd (by decide) h
      | [_], h => exact absurd (by simp) h
      | [_, _], h => exact absurd (by simp) h
      | [_, _, _], h => exact absurd (by simp) h
      | a :: b :: c :: d :: r, _ => exact ⟨a, b, c, d, r, rfl⟩
    have er : (t4 :: t3 :: t2 :: t1 :: r).reverse.map Pt.dat = r.reverse.map Pt.dat ++ [t1.dat, t2.dat, t3.dat, t4.dat] := by simp
    rw [er] at ha
    obtain ⟨pre, v1, v2, v3, v4, rfl, hpre, h1, h2, h3, h4⟩ := DqAll.last4 ha
    refine ⟨_, rfl, _, rfl, _, rfl, .inl ⟨l, _, rfl, .of e1, fun p hp => ?_⟩⟩
    rw [cut4]
    have npl : l ≠ p := ne_of_none e1 hp
    refine ⟨p, _, rfl, .of upd_same, rfl, _, _, rfl, _, _, rfl, _, _, rfl, _, _, rfl, rfl, ?_⟩
    have s1 : Same (out l H) (upd H p (.lst [v1, v2, v3, v4])) := (out_sub l H).trans (same_new hp _)
    have so : Same (out l H) (out l (upd H p (.lst [v1, v2, v3, v4]))) := out_new hp _
    have g1 := h1.same s1
    have g2 := h2.same s1
    have g3 := h3.same s1
    have g4 := h4.same s1
    have bad : clo (t4 :: t3 :: t2 :: t1 :: r) = none → E (.ref CT) none (upd H p (.lst [v1, v2, v3, v4])) := fun hc => q2 hc _ so
    refine ⟨_, rfl, _, _, rfl, g2.ty, _, _, rfl, rfl, _, rfl, ?_⟩
    cases t2 with
    | s c2 => exact iteT' (show (!decide (("str" : String) = "tuple")) = true from by decide) (iteT (bad (by cases t4 <;> cases t3 <;> rfl)))
    | k x =>
      refine iteF' (by show (!decide (tyN x.dat = "tuple")) = false; rw [x.ty]; decide) ?_
      refine ⟨_, rfl, _, _, rfl, g4.ty, _, _, rfl, rfl, _, rfl, ?_⟩
      cases t4 with
      | s c4 => exact iteT' (show (!decide (("str" : String) = "tuple")) = true from by decide) (bad rfl)
      | k y =>
        refine iteF' (by show (!decide (tyN y.dat = "tuple")) = false; rw [y.ty]; decide) ?_
        cases t1 with
        | k z =>
          refine ⟨_, rfl, .inr ⟨z.dat, .str "(", g1.dp z.dat_lay, .str _, z.dat_lay, str_lay (by decide +kernel), by simp [PyData.depth], _, rfl, ?_⟩⟩
          exact iteT' (by rw [z.ne_str]; rfl) (iteT (bad (by cases t3 <;> rfl)))
        | s b =>
          cases g1
          refine ⟨_, rfl, .inl ⟨rfl, _, rfl, ?_⟩⟩
          by_cases hb : b = 40
          · subst hb
            refine iteF' (by decide) ?_
            refine ⟨_, rfl, _, _, rfl, g3.ty, _, _, rfl, rfl, _, rfl, ?_⟩
            cases t3 with
            | k z => exact iteT' (by show (!decide (tyN z.dat = "str")) = true; rw [z.ty]; decide) (iteT (bad rfl))
            | s c3 =>
              cases g3
              refine iteF' (show (!decide (("str" : String) = "str")) = false from by decide) ?_
              refine ⟨_, rfl, fun dd hD => ⟨_, dd, _, rfl, rfl, hD, _, rfl, ?_⟩⟩
              rw [if_pos rfl, wos]
              have fin : ∀ (wd : Str) (kk : Kd), [(("*" : Str), V.str "both"), (">", .str "from")].lookup (tx [c3]) = some (.str wd) → kk.dat = .tuple [.str wd, x.dat, y.dat] → clo (.k y :: .s c3 :: .k x :: .s 40 :: r) = some (.k kk :: r) →
                  ∀ (H1 : Hp) (t u : Addr), H1 = upd H p (.lst [.str (tx [40]), v2, .str (tx [c3]), v4]) → H1 t = none → upd H1 t (.tup [.str wd, v2, v4]) u = none →
                  Q .non (upd (upd (upd H1 t (.tup [.str wd, v2, v4])) u (.lst [.ref t])) l (.lst (pre ++ [.ref t]))) := by
                intro wd kk hl hk hc H1 t u eH ht hu
                have eL : H1 l = some (.lst (pre ++ [.str (tx [40]), v2, .str (tx [c3]), v4])) := by rw [eH, upd_ne npl]; exact e1
                have e2 : upd H1 t (.tup [.str wd, v2, v4]) l = some (.lst (pre ++ [.str (tx [40]), v2, .str (tx [c3]), v4])) := by rw [upd_ne (ne_of_none eL ht)]; exact eL
                have nlt : t ≠ l := (ne_of_none eL ht).symm
                have ntu : t ≠ u := ne_of_none upd_same hu
                have sA : Same (out l H) (out l (upd (upd (upd H1 t (.tup [.str wd, v2, v4])) u (.lst [.ref t])) l (.lst (pre ++ [.ref t])))) := by
                  rw [eH]
                  exact ((so.trans (out_new (by rw [← eH]; exact ht) _)).trans (out_new (by rw [← eH]; exact hu) _)).trans (out_set _)
                refine q1 (.k kk :: r) hc (pre ++ [.ref t]) _ upd_same ?_ sA
                have er2 : (Pt.k kk :: r).reverse.map Pt.dat = r.reverse.map Pt.dat ++ [kk.dat] := by simp [Pt.dat]
                rw [er2, hk]
                refine (hpre.same sA).append (.cons (.tup (.of (out_at nlt ?_)) (.cons (.str _) (.cons (h2.same sA) (.cons (h4.same sA) .nil)))) .nil)
                rw [upd_ne nlt, upd_ne ntu]; exact upd_same
              have room : (pre ++ [V.str (tx [40]), v2, .str (tx [c3]), v4]).length + 1 ≤ sizeLine := fits (by rw [hlen]; omega)
              have last : ∀ t : Addr, (pre ++ [V.str (tx [40]), v2, .str (tx [c3]), v4]).take (HT.sIx (pre ++ [V.str (tx [40]), v2, .str (tx [c3]), v4]).length 0 (some (-4))) ++ [V.ref t] ++
                  (pre ++ [V.str (tx [40]), v2, .str (tx [c3]), v4]).drop (HT.sIx (pre ++ [V.str (tx [40]), v2, .str (tx [c3]), v4]).length (pre ++ [V.str (tx [40]), v2, .str (tx [c3]), v4]).length none) = pre ++ [.ref t] := by
                intro t
                rw [take4, List.take_left]
                show pre ++ [V.ref t] ++ List.drop (pre ++ [V.str (tx [40]), v2, .str (tx [c3]), v4]).length _ = _
                rw [List.drop_length, List.append_nil]
              by_cases h46 : c3 = 42 ∨ c3 = 62
              · obtain ⟨wd, kk, hl, hk, hc⟩ : ∃ (wd : Str) (kk : Kd), [(("*" : Str), V.str "both"), (">", .str "from")].lookup (tx [c3]) = some (.str wd) ∧ kk.dat = .tuple [.str wd, x.dat, y.dat] ∧ clo (.k y :: .s c3 :: .k x :: .s 40 :: r) = some (.k kk :: r) := by
                  rcases h46 with rfl | rfl
                  · exact ⟨"both", .p x y, rfl, rfl, rfl⟩
                  · exact ⟨"from", .f x y, rfl, rfl, rfl⟩
                refine iteF' (by rcases h46 with rfl | rfl <;> decide) ?_
                refine fun d2 hD2 => ⟨_, rfl, .inr ⟨tx [c3], d2, _, .str wd, rfl, rfl, hD2, hl, _, rfl, _, rfl, (by show 3 ≤ sizeLine; decide), fun t ht => ⟨(by show 1 ≤ sizeLine; decide), fun u hu => ?_⟩⟩⟩
                have l1 : upd H p (.lst [.str (tx [40]), v2, .str (tx [c3]), v4]) l = some (.lst (pre ++ [.str (tx [40]), v2, .str (tx [c3]), v4])) := by rw [upd_ne npl]; exact e1
                have l2 := (upd_ne (o := .tup [.str wd, v2, v4]) (ne_of_none l1 ht)).trans l1
                have l3 := (upd_ne (o := .lst [.ref t]) (ne_of_none l2 hu)).trans l2
                refine ⟨_, rfl, _, rfl, _, rfl, l, u, _, _, rfl, rfl, l3, upd_same, ne_of_none l2 hu, ?_, room, ?_⟩
                · rw [take4]; show pre.length ≤ (pre ++ [V.str (tx [40]), v2, .str (tx [c3]), v4]).length; rw [List.length_append]; omega
                · rw [last]; exact fin wd kk hl hk hc _ t u rfl ht hu
              · refine iteT' (by simpa using h46) (bad ?_)
                have h42 : ¬ c3 = 42 := fun z => h46 (.inl z)
                have h62 : ¬ c3 = 62 := fun z => h46 (.inr z)
                simp [clo, h42, h62]
          · exact iteT' (by rw [decide_eq_false (p := V.str (tx [b]) = V.str "(") fun z => hb (tx1.mp z)]; rfl) (iteT (bad (by cases t3 <;> simp [clo, hb])))
end
/-- what holds between two signs -/
def RdW (K : PySem.W.Frag) (H : Hp) (v : V) (l : Addr) (cs : List Nat) (i n : Nat) (σ : L2.St) (H' : Hp) : Prop :=
  ∃ (us : List V) (st : List Pt) (o : Option V), σ = [some v, some (.ref l), o] ∧ H' l = some (.lst us) ∧ DqAll K (out l H') us (st.reverse.map Pt.dat) ∧ i ≤ cs.length ∧ n = cs.length - i ∧ rdR cs [] = rdR (cs.drop i) st ∧ st.length ≤ i ∧ Same H (out l H')
section
variable {P : Program} {w : World} {K : PySem.W.Frag} {mg : Str → Option Value} {base : Heap} {CN CT : Addr}
theorem ok_read_kind (A : At K mg "read_kind" s_read_kind) (T : Txt K mg w CN CT) (C_close_braces : Cal P w K mg base (L2.CX P w) 1 "_close_braces" ["parts"] (spClose K CT)) (C_read_sign : Cal P w K mg base (L2.CX P w) 1 "_read_sign" ["sign"] (spSign K CT)) :
    Cal P w K mg base (L2.CX P w) 2 "read_kind" ["text"] (spRead K CT) := by
  obtain ⟨f, fd, F, m⟩ := A
  refine ⟨f, fd, F.okX sc_read_kind (fun vs H Q E h => ?_) (fun cdv A outer s H vs Q E hr h => ?_), F.binds (ps := ["text"]) (fun _ _ _ _ _ _ us hl => match us, hl with | [_], _ => rfl), F.kp, m⟩
  · obtain ⟨v, d, rfl, _⟩ := h; rfl
  obtain ⟨v, d, rfl, hd, q1, q2⟩ := h
  refine ⟨_, (pss_cons (ps_if (pt_cmpR op_notTyB (pe_callTy call_type1 (by rfl) T.z_type (by decide +kernel) (pa_cons (pv 0) pa_nil)) (pe_bltn (v := .ty "str") (by rfl) T.z_str (by decide +kernel) rfl) (nomark _))
   (pss_one (ps_raiseO rfl (takes_of rfl rfl rfl rfl) T.e_NoText))
   pss_nil)
  (pss_cons (ps_set (i := 1) sc_read_kind.nd rfl (by first | exact Or.inl rfl | exact Or.inr rfl) (pe_lst pa_nil))
  (pss_cons (ps_for (passes_of rfl) rfl (pi_str (pv 0)) (pg_name (i := 2) sc_read_kind.nd rfl (by first | exact Or.inl rfl | exact Or.inr rfl))
   (pss_one (ps_if (pt_cmpR (op_eqA (room200 hr)) (pv 2) pe_str (nomark _))
   (pss_one (ps_expr (pe_calC C_close_braces (hr.mono (by first | decide | omega)) (passes_call (takes_of rfl rfl rfl rfl) (fun _ _ _ _ h => h)) (pa_cons (pv 1) pa_nil))))
   (pss_one (ps_expr (pe_bm PySem.F.plainAttrs_list PySem.F.slot_list_append PySem.F.type_list_append mt_append (pv 1) (pa_cons (pe_calC C_read_sign (hr.mono (by first | decide | omega)) (passes_call (takes_of rfl rfl rfl rfl) (fun _ _ _ _ h => h)) (pa_cons (pv 2) pa_nil)) pa_nil)))))))
  (pss_cons (ps_if (PW.pt (pw_or (pt_cmpR (op_neA (room200 hr)) (pe_callB call_len (by rfl) T.z_len (by decide +kernel) (pa_cons (pv 1) pa_nil)) pe_int (nomark _)) (pw_or1 (pt_cmpR op_notTyB (pe_callTy call_type1 (by rfl) T.z_type (by decide +kernel) (pa_cons (pe_ix ix_B (pv 1) pe_int (fun _ _ => rfl)) pa_nil)) (pe_bltn (v := .ty "tuple") (by rfl) T.z_tuple (by decide +kernel) rfl) (nomark _)))))
   (pss_one (ps_raiseO rfl (takes_of rfl rfl rfl rfl) T.e_NoText))
   pss_nil)
  (pss_one (ps_ret (pe_ix ix_B (pv 1) pe_int (fun _ _ => rfl)))))))), ?_⟩
  refine ⟨_, rfl, _, _, rfl, hd.ty, _, _, rfl, rfl, _, rfl, ?_⟩
  by_cases hs : tyN d = "str"
  · cases hd <;> simp [tyN] at hs
    rename_i x
    obtain ⟨hz, qy, qn⟩ := q1 x.cps.toList (by rw [tx_tl])
    generalize hcs : x.cps.toList = cs at *
    have hxs : x.cps.size = cs.length := by rw [← hcs]; simp
    refine iteF' (show (!decide (("str" : String) = "str")) = false from by decide) ⟨Nat.zero_le _, fun l hl => ?_⟩
    refine ⟨_, rfl, x, rfl, RdW K H (.str x) l cs, ⟨cs.length, [], [], none, rfl, upd_same, .nil, Nat.zero_le _, rfl, rfl, Nat.le_refl _, same_keepO' hl⟩, ?_⟩
    rintro i n σ H1 ⟨us, st, o, rfl, e1, ha, hi, rfl, hrd, hst, sm⟩
    have hlen : us.length = st.length := by rw [ha.length, List.length_map, List.length_reverse]
    by_cases hlt : i < cs.length
    · refine .inr ⟨(by show i < x.cps.size; omega), _, fun _ _ z => z, ?_⟩
      rintro y H2 ⟨rfl, c, hc, rfl⟩
      have hci : cs[i]? = some c := by rw [← hcs, Array.getElem?_toList]; exact hc
      have hdrop : cs.drop i = c :: cs.drop (i + 1) := by
        obtain ⟨h1, h2⟩ := List.getElem?_eq_some_iff.mp hci
        rw [← h2]; exact List.drop_eq_getElem_cons h1
      rw [hdrop] at hrd
      refine ⟨_, rfl, .inl ⟨rfl, _, rfl, ?_⟩⟩
      by_cases h41 : c = 41
      · subst h41
        have hrd' : rdR cs [] = (clo st).bind (rdR (cs.drop (i + 1))) := hrd.trans (rdR_close _ _)
        refine iteT' (by decide) ⟨_, rfl, l, us, st, rfl, e1, ha, by omega, fun st' hc us' H3 e3 ha3 s3 => ?_, fun hc H3 s3 => ?_⟩
        · refine ⟨cs.length - (i + 1), by omega, us', st', _, rfl, e3, ha3, hlt, rfl, ?_, ?_, sm.trans s3⟩
          · rw [hrd', hc]; rfl
          · obtain ⟨x1, y1, c1, r1, rfl, h2⟩ := clo_is hc
            rcases h2 with ⟨_, rfl⟩ | ⟨_, rfl⟩ <;> simp only [List.length_cons] at hst ⊢ <;> omega
        · exact qn (by unfold rdK; rw [hrd', hc]; rfl) H3 (of_out (sm.trans s3))
      · have hrd' : rdR cs [] = (rs c).bind fun p => rdR (cs.drop (i + 1)) (p :: st) := hrd.trans (rdR_sign h41 _ _)
        refine iteF' (decide_eq_false fun z => h41 (tx1.mp z)) ?_
        refine ⟨_, rfl, .inl ⟨rfl, _, .of e1⟩, _, rfl, c, rfl, fun p hp v' H3 hv s3 => ?_, fun hn => ?_⟩
        · have e3 := s3 _ _ e1
          refine ⟨l, us, _, rfl, rfl, e3, fits_lt (by omega), ?_⟩
          have s4 : Same (out l H2) (out l (upd H3 l (.lst (us ++ [v'])))) := (out_same s3).trans (out_set _)
          refine ⟨cs.length - (i + 1), by omega, us ++ [v'], p :: st, _, rfl, upd_same, ?_, hlt, rfl, ?_, by simp only [List.length_cons]; omega, sm.trans s4⟩
          · have er : (p :: st).reverse.map Pt.dat = st.reverse.map Pt.dat ++ [p.dat] := by simp
            rw [er]
            exact (ha.same s4).append (.cons ((hv.outp e3 p.pure).same (out_set _)) .nil)
          · rw [hrd', hp]; rfl
        · exact qn (by unfold rdK; rw [hrd', hn]; rfl) H2 (of_out sm)
    · have hil : i = cs.length := by omega
      subst hil
      refine .inl ⟨(by show x.cps.size ≤ cs.length; omega), ?_⟩
      rw [List.drop_length] at hrd
      have hrd' : rdK cs = rdE st := by unfold rdK; rw [hrd]; rfl
      refine ⟨_, rfl, _, _, rfl, .inl ⟨_, .of e1, rfl⟩, .inl ⟨rfl, _, rfl, ?_⟩⟩
      have bad : rdE st = none → E (.ref CT) none H1 := fun h => qn (hrd'.trans h) H1 (of_out sm)
      match st, us, ha, hlen, hrd', bad, e1 with
      | [], [], _, _, _, bad, _ => exact iteT' (by decide) (iteT (bad rfl))
      | [p], [v1], ha, _, hrd', bad, e1 =>
        refine iteF' (show (!decide (V.int ((1 : Nat) : Int) = V.int 1)) = false from by decide) ⟨_, rfl, .inl (.inl ⟨l, _, 0, v1, rfl, rfl, .of e1, at0 _ _, ?_⟩)⟩
        cases ha with
        | cons h1 h2 =>
          refine ⟨_, _, rfl, (h1.same (out_sub l H1)).ty, _, _, rfl, rfl, _, rfl, ?_⟩
          cases p with
          | s c => exact iteT' (show (!decide (("str" : String) = "tuple")) = true from by decide) (bad rfl)
          | k x1 =>
            refine iteF' (by show (!decide (tyN x1.dat = "tuple")) = false; rw [x1.ty]; decide) ?_
            exact ⟨_, rfl, .inl (.inl ⟨l, _, 0, v1, rfl, rfl, .of e1, at0 _ _, qy x1 hrd' v1 H1 (h1.same (out_sub l H1)) (of_out sm)⟩)⟩
      | p1 :: p2 :: r, v1 :: v2 :: r', _, hlen, _, bad, _ =>
        refine iteT' ?_ (iteT (bad ?_))
        · rw [decide_eq_false]; rfl
          intro z
          have z' := V.int.inj z
          simp only [List.length_cons] at z'
          omega
        · cases p1 <;> rfl
      | [], _ :: _, _, hlen, _, _, _ => simp at hlen
      | _ :: _, [], _, hlen, _, _, _ => simp at hlen
      | [_], _ :: _ :: _, _, hlen, _, _, _ => simp at hlen
      | _ :: _ :: _, [_], _, hlen, _, _, _ => simp at hlen
  · refine iteT' (by simp [hs]) ?_
    exact q2 (fun x e => hs (by rw [e]; rfl)) H (Same.refl _)
end
/-! ## _factors -/
theorem sameU {H H' : Hp} {l : Addr} {o : HO} (hl : H l = none) (s : Same H H') : Same H (upd H' l o) := fun b u e => by rw [upd_ne (ne_of_none e hl)]; exact s b u e
theorem dq_tup {K : PySem.W.Frag} {H : Hp} {v : V} {d : PyData} (h : Dq K H v d) (t : tyN d = "tuple") : ∃ a xs ds, v = .ref a ∧ d = .tuple ds ∧ SqT K H a xs ∧ DqAll K H xs ds := by
  cases h with
  | tup hS hA => exact ⟨_, _, _, rfl, rfl, hS, hA⟩
  | _ => simp [tyN] at t
theorem dqa_split {K : PySem.W.Frag} {H : Hp} {xs : List V} {ds : List PyData} (h : DqAll K H xs ds) : (xs = [] ∧ ds = []) ∨ ∃ v vs d r, xs = v :: vs ∧ ds = d :: r ∧ Dq K H v d ∧ DqAll K H vs r := by
  cases h with
  | nil => exact .inl ⟨rfl, rfl⟩
  | cons a b => exact .inr ⟨_, _, _, _, rfl, rfl, a, b⟩
def spFac (K : PySem.W.Frag) (N : Nat) : Sp := fun vs H Q _ => ∃ (v : V) (k : Kd), vs = [v] ∧ Dq K H v k.dat ∧ k.ok ∧ k.rk < N ∧ k.rk ≤ 80 ∧ k.leaves ≤ 5000 ∧
  ∀ (ys : List V) (p : Addr) (H' : Hp), H p = none → H' p = some (.lst ys) → DqAll K (out p H') ys (Fc.dats k.form) → Same H (out p H') → Q (.ref p) H'
abbrev s_factors : Stmt := top 38
theorem sc_factors : FnScope ["kind", "found", "left", "wants", "part", "more"] ["kind"] (defScope s_factors) := ⟨rfl, rfl, rfl, by decide +kernel, rfl, by decide +kernel, by decide +kernel⟩
def sd (e : List Fc × Kd) : PyData := .tuple [.tuple (Fc.dats e.1), e.2.dat]
def sumZ (S : List (List Fc × Kd)) : Nat := (S.map fun e => sz e.2.dat).sum
def sumL (S : List (List Fc × Kd)) : Nat := (S.map fun e => e.2.leaves).sum
def allF (S : List (List Fc × Kd)) : List Fc := S.flatMap fun e => e.2.fac e.1
theorem sd_pure (S : List (List Fc × Kd)) : pureTs (S.map sd) = true := by
  induction S with
  | nil => rfl
  | cons e r ih => simp [sd, pureT, pureTs, Fc.pure_dats, e.2.pure, ih]
theorem keepP {K : PySem.W.Frag} {H : Hp} {l : Addr} {us us2 vs : List V} {ds : List PyData} (e : H l = some (.lst us)) (p : pureTs ds = true) (h : DqAll K H vs ds) : DqAll K (upd H l (.lst us2)) vs ds := (DqAll.outp e p h).same out_upd
theorem keepD {K : PySem.W.Frag} {H : Hp} {l : Addr} {us us2 : List V} {v : V} {d : PyData} (e : H l = some (.lst us)) (p : pureT d = true) (h : Dq K H v d) : Dq K (upd H l (.lst us2)) v d := (Dq.outp e p h).same out_upd
/-- what holds between two turns -/
def FcW (K : PySem.W.Frag) (H : Hp) (v : V) (k0 : Kd) (n : Nat) (σ : L2.St) (H' : Hp) : Prop :=
  ∃ (lf ll : Addr) (fs us : List V) (F : List Fc) (S : List (List Fc × Kd)) (o3 o4 o5 : Option V), σ = [some v, some (.ref lf), some (.ref ll), o3, o4, o5] ∧ lf ≠ ll ∧ H lf = none ∧ H ll = none ∧ H' lf = some (.lst fs) ∧ H' ll = some (.lst us) ∧ DqAll K H' fs (Fc.dats F) ∧ DqAll K H' us (S.map sd) ∧
    n = sumZ S ∧ (F ++ allF S).Perm (k0.fac []) ∧ (∀ e ∈ S, e.2.ok ∧ e.2.rk ≤ k0.rk ∧ PyData.depthAll (Fc.dats e.1) ≤ 2 * k0.rk ∧ e.1.length + e.2.leaves ≤ k0.leaves) ∧ F.length + sumL S ≤ k0.leaves ∧ Same H H'
section
variable {P : Program} {w : World} {K : PySem.W.Frag} {mg : Str → Option Value} {base : Heap} {CN CT : Addr}
theorem ok_factors1 {N : Nat} (A : At K mg "_factors" s_factors) (T : Txt K mg w CN CT) (C_factors : Cal P w K mg base CX0 N "_factors" ["kind"] (spFac K N)) : Cal P w K mg base CX0 (N + 1) "_factors" ["kind"] (spFac K (N + 1)) := by
  obtain ⟨f, fd, F, m⟩ := A
  refine ⟨f, fd, F.ok sc_factors (fun vs H Q E h => ?_) (fun cdv A outer s H vs Q E hr h => ?_), F.binds (ps := ["kind"]) (fun _ _ _ _ _ _ us hl => match us, hl with | [_], _ => rfl), F.kp, m⟩
  · obtain ⟨v, k, rfl, _⟩ := h; rfl
  obtain ⟨v, k0, rfl, hd, ok, hrk, hr80, hlv, q⟩ := h
  refine ⟨_, (pss_cons (ps_set (i := 1) sc_factors.nd rfl (by first | exact Or.inl rfl | exact Or.inr rfl) (pe_lst pa_nil))
  (pss_cons (ps_set (i := 2) sc_factors.nd rfl (by first | exact Or.inl rfl | exact Or.inr rfl) (pe_lst (pa_cons (pe_tup (pa_cons (pe_tup pa_nil) (pa_cons (pv 0) pa_nil))) pa_nil)))
  (pss_cons (ps_while PassesOwn.never (pt_truth (pv 2) (by intro _; rfl))
   (pss_cons (ps_asg (pe_bm0 PySem.F.plainAttrs_list PySem.F.slot_list_pop PySem.F.type_list_pop mt_pop (pv 2) ) (pg_tup (by rfl) (pgs_cons (pg_name (i := 3) sc_factors.nd rfl (by first | exact Or.inl rfl | exact Or.inr rfl)) (pgs_cons (pg_name (i := 4) sc_factors.nd rfl (by first | exact Or.inl rfl | exact Or.inr rfl)) pgs_nil))))
  (pss_one (ps_if (pt_cmpR (op_eqA (room200 hr)) (pe_ix ix_B (pv 4) pe_int (fun _ _ => rfl)) pe_str (nomark _))
   (pss_one (ps_expr (pe_bm PySem.F.plainAttrs_list PySem.F.slot_list_append PySem.F.type_list_append mt_append (pv 1) (pa_cons (pe_tup (pa_cons (pv 3) (pa_cons (pe_ix ix_B (pv 4) pe_int (fun _ _ => rfl)) pa_nil))) pa_nil))))
   (pss_one (ps_if (pt_cmpR (op_eqA (room200 hr)) (pe_ix ix_B (pv 4) pe_int (fun _ _ => rfl)) pe_str (nomark _))
   (pss_cons (ps_expr (pe_bm PySem.F.plainAttrs_list PySem.F.slot_list_append PySem.F.type_list_append mt_append (pv 2) (pa_cons (pe_tup (pa_cons (pv 3) (pa_cons (pe_ix ix_B (pv 4) pe_int (fun _ _ => rfl)) pa_nil))) pa_nil)))
  (pss_one (ps_expr (pe_bm PySem.F.plainAttrs_list PySem.F.slot_list_append PySem.F.type_list_append mt_append (pv 2) (pa_cons (pe_tup (pa_cons (pv 3) (pa_cons (pe_ix ix_B (pv 4) pe_int (fun _ _ => rfl)) pa_nil))) pa_nil)))))
   (pss_one (ps_if (pt_cmpR (op_eqA (room200 hr)) (pe_ix ix_B (pv 4) pe_int (fun _ _ => rfl)) pe_str (nomark _))
   (pss_cons (ps_set (i := 5) sc_factors.nd rfl (by first | exact Or.inl rfl | exact Or.inr rfl) (pe_callB (call_sortF (room200 hr)) (by rfl) T.z_sorted (by decide +kernel) (pa_cons (pe_op op_addA (pe_callTy call_list_of (by rfl) T.z_list (by decide +kernel) (pa_cons (pv 3) pa_nil)) (pe_calC C_factors (hr.mono (by first | decide | omega)) pass0 (pa_cons (pe_ix ix_B (pv 4) pe_int (fun _ _ => rfl)) pa_nil))) pa_nil)))
  (pss_one (ps_expr (pe_bm PySem.F.plainAttrs_list PySem.F.slot_list_append PySem.F.type_list_append mt_append (pv 2) (pa_cons (pe_tup (pa_cons (pe_callTy call_tuple_of (by rfl) T.z_tuple (by decide +kernel) (pa_cons (pv 5) pa_nil)) (pa_cons (pe_ix ix_B (pv 4) pe_int (fun _ _ => rfl)) pa_nil))) pa_nil)))))
   pss_nil))))))))
  (pss_one (ps_ret (pe_callB (call_sortF (room200 hr)) (by rfl) T.z_sorted (by decide +kernel) (pa_cons (pv 1) pa_nil))))))), ?_⟩
  refine ⟨Nat.zero_le _, fun lf h1 => ?_⟩
  refine ⟨(by show 0 ≤ sizeLine; decide), fun t0 h2 => ?_⟩
  refine ⟨_, rfl, (by show 2 ≤ sizeLine; decide), fun t1 h3 => ⟨(by show 1 ≤ sizeLine; decide), fun ll h4 => ?_⟩⟩
  have s1 : Same H (upd H lf (.lst [])) := same_new h1 _
  have s2 := s1.trans (same_new h2 (.tup []))
  have s3 := s2.trans (same_new h3 (.tup [.ref t0, v]))
  have s4 := s3.trans (same_new h4 (.lst [.ref t1]))
  have e0 : upd (upd H lf (.lst [])) t0 (.tup []) t0 = some (.tup []) := upd_same
  have e0 := (same_new h4 (.lst [.ref t1])) _ _ ((same_new h3 (.tup [.ref t0, v])) _ _ e0)
  have e1 := (same_new h4 (.lst [.ref t1])) _ _ (upd_same (H := upd (upd H lf (.lst [])) t0 (.tup [])) (a := t1) (o := .tup [.ref t0, v]))
  have ef := (same_new h4 (.lst [.ref t1])) _ _ ((same_new h3 (.tup [.ref t0, v])) _ _ ((same_new h2 (.tup [])) _ _ (upd_same (H := H) (a := lf) (o := .lst []))))
  have nfl : lf ≠ ll := ne_of_none ((same_new h3 (.tup [.ref t0, v])) _ _ ((same_new h2 (.tup [])) _ _ (upd_same (H := H) (a := lf) (o := .lst [])))) h4
  have hll : H ll = none := by
    cases z : H ll with
    | none => rfl
    | some u => rw [s3 _ _ z] at h4; cases h4
  refine ⟨FcW K H v k0, ⟨sz k0.dat, lf, ll, [], [.ref t1], [], [([], k0)], none, none, none, rfl, nfl, h1, hll, ef, upd_same, .nil, .cons (.tup (.of e1) (.cons (.tup (.of e0) .nil) (.cons (hd.same s4) .nil))) .nil, by simp [sumZ], by simp [allF], by simpa [PyData.depthAll, Fc.dats] using ok, by simp [sumL], s4⟩, ?_⟩
  rintro n σ H1 ⟨lf, ll, fs, us, G, S, o3, o4, o5, rfl, nfl, hlf, hll, e1, e2, df, du, rfl, hp, hS, hlen, sm⟩
  refine ⟨_, rfl, _, .inl ⟨us, .of e2, rfl⟩, ?_⟩
  have hus := du.length
  rcases List.eq_nil_or_concat S with hs | ⟨S', e, hs⟩
  · subst hs
    cases du
    refine iteF' rfl ?_
    have hp' : G.Perm (k0.fac []) := by simpa [allF] using hp
    have hdep : PyData.depthAll (Fc.dats G) ≤ 180 := by
      have := k0.fac_depth []
      rw [Fc.depth_perm hp']
      simp only [Fc.dats, PyData.depthAll] at this
      omega
    refine ⟨_, rfl, lf, fs, G, rfl, .of e1, df, hdep, fun ys p hy hpn => ?_⟩
    have hHp : H p = none := by
      cases z : H p with
      | none => rfl
      | some u => rw [sm _ _ z] at hpn; cases hpn
    have s5 : Same H1 (out p (upd H1 p (.lst ys))) := same_keepO' hpn
    refine q ys p _ hHp upd_same ?_ (sm.trans s5)
    rw [Fc.srt_congr hp'] at hy
    exact hy.same s5
  rw [List.concat_eq_append] at hs
  subst hs
  obtain ⟨W, k⟩ := e
  have em : (S' ++ [(W, k)]).map sd = S'.map sd ++ [sd (W, k)] := by simp
  rw [em] at du
  obtain ⟨us', y, rfl, du1, hy⟩ := du.last
  obtain ⟨okk, rkk, dW, lW⟩ := hS (W, k) (by simp)
  have hS' : ∀ e ∈ S', e.2.ok ∧ e.2.rk ≤ k0.rk ∧ PyData.depthAll (Fc.dats e.1) ≤ 2 * k0.rk ∧ e.1.length + e.2.leaves ≤ k0.leaves := fun e he => hS e (List.mem_append.mpr (.inl he))
  refine iteT' (by simp) ⟨_, fun _ _ z => z, ?_⟩
  refine ⟨_, rfl, .inl ⟨rfl, _, .of e2⟩, ll, us' ++ [y], y, rfl, rfl, e2, last_at us' y, ?_⟩
  rw [dl_append]
  have df := keepP (us2 := us') e2 (Fc.pure_dats G) df
  have du1 := keepP (us2 := us') e2 (sd_pure S') du1
  have hy := keepD (us2 := us') e2 (by have := sd_pure [(W, k)]; simpa [pureTs] using this) hy
  have e1 := (upd_ne (o := .lst us') nfl).trans e1
  have sm := sameU (o := .lst us') hll sm
  have e2n : upd H1 ll (.lst us') ll = some (.lst us') := upd_same
  generalize upd H1 ll (.lst us') = H2 at df du1 hy e1 sm e2n ⊢
  obtain ⟨ya, xs, ds, rfl, ed, hSy, hA⟩ := dq_tup hy rfl
  have ed' : ds = [.tuple (Fc.dats W), k.dat] := by have := PyData.tuple.inj ed; exact this.symm
  subst ed'
  rcases dqa_split hA with ⟨_, z⟩ | ⟨wv, xs1, d1, r1, rfl, z, gw, g1⟩
  · cases z
  cases z
  rcases dqa_split g1 with ⟨_, z⟩ | ⟨pv, xs2, d2, r2, rfl, z, gp, g2⟩
  · cases z
  cases z
  cases g2
  refine ⟨ya, _, rfl, hSy, rfl, _, _, rfl, _, _, rfl, rfl, ?_⟩
  have aF : ∀ X Y : List (List Fc × Kd), allF (X ++ Y) = allF X ++ allF Y := fun X Y => List.flatMap_append
  have zS : ∀ X Y : List (List Fc × Kd), sumZ (X ++ Y) = sumZ X + sumZ Y := fun X Y => by simp [sumZ]
  have lS : ∀ X Y : List (List Fc × Kd), sumL (X ++ Y) = sumL X + sumL Y := fun X Y => by simp [sumL]
  have hp2 : (G ++ k.fac W ++ allF S').Perm (k0.fac []) := by
    refine List.Perm.trans ?_ hp
    rw [aF, List.append_assoc]
    exact (List.perm_append_comm.trans (.of_eq (by simp [allF]))).append_left G
  have hl2 : G.length + sumL S' + k.leaves ≤ k0.leaves := by rw [lS] at hlen; simp [sumL] at hlen ⊢; omega
  have hz2 : sumZ (S' ++ [(W, k)]) = sumZ S' + sz k.dat := by rw [zS]; simp [sumZ]
  rw [hz2]
  have hfl := df.length
  rw [Fc.dats_length] at hfl
  have hul := du1.length
  rw [List.length_map] at hul
  have sl : ∀ X : List (List Fc × Kd), X.length ≤ sumL X := fun X => by
    induction X with
    | nil => simp
    | cons e r ih => have := e.2.leaves_pos; simp [sumL] at ih ⊢; omega
  have sl' := sl S'
  obtain ⟨pa, pxs, pds, rfl, ek, hSp, hAp⟩ := dq_tup gp k.ty
  cases k with
  | b n =>
    have ek' : pds = [.str "base", .int n] := by have := PyData.tuple.inj ek; exact this.symm
    subst ek'
    rcases dqa_split hAp with ⟨_, z⟩ | ⟨x1, xs1, d1, r1, rfl, z, h1, h2⟩
    · cases z
    cases z
    cases h1
    rcases dqa_split h2 with ⟨_, z⟩ | ⟨x2, xs2, d2, r2, rfl, z, h3, h4⟩
    · cases z
    cases z
    cases h3
    cases h4
    refine ⟨_, rfl, .inl (.inr (.inl ⟨pa, _, 0, _, rfl, rfl, hSp, at0 _ _, .inl ⟨rfl, _, rfl, iteT' (decide_eq_true rfl) ?_⟩⟩))⟩
    refine ⟨_, rfl, .inl ⟨rfl, _, .of e1⟩, _, rfl, _, rfl, .inl (.inr (.inl ⟨pa, _, 1, _, rfl, rfl, hSp, at1 _ _ _, (by show 2 ≤ sizeLine; decide), fun t ht => ⟨lf, fs, _, rfl, rfl, (upd_ne (ne_of_none e1 ht)).trans e1, fits_lt (by omega), ?_⟩⟩))⟩
    have st := same_new ht (.tup [wv, .int n])
    have e1t := st _ _ e1
    have et : upd H2 t (.tup [wv, .int n]) t = some (.tup [wv, .int n]) := upd_same
    have dt : Dq K (upd H2 t (.tup [wv, .int n])) (.ref t) (Fc.dat (.mk W n)) := by rw [Fc.dat]; exact .tup (.of et) (.cons (gw.same st) (.cons (.int _) .nil))
    have dfa : DqAll K (upd H2 t (.tup [wv, .int n])) (fs ++ [.ref t]) (Fc.dats (G ++ [.mk W n])) := by rw [Fc.dats_append]; exact (df.same st).append (.cons dt .nil)
    refine ⟨sumZ S', by have := sz_pos (Kd.b n).dat; omega, lf, ll, fs ++ [.ref t], us', G ++ [.mk W n], S', _, _, _, rfl, nfl, hlf, hll, upd_same, by rw [upd_ne nfl.symm]; exact st _ _ e2n, keepP e1t (Fc.pure_dats _) dfa, keepP e1t (sd_pure S') (du1.same st), rfl, hp2, hS', by simp only [List.length_append, List.length_cons, List.length_nil, Kd.leaves] at hl2 ⊢; omega, sameU hlf (sm.trans st)⟩
  | u =>
    have ek' : pds = [.str "unit"] := by have := PyData.tuple.inj ek; exact this.symm
    subst ek'
    rcases dqa_split hAp with ⟨_, z⟩ | ⟨x1, xs1, d1, r1, rfl, z, h1, h2⟩
    · cases z
    cases z
    cases h1
    cases h2
    refine ⟨_, rfl, .inl (.inr (.inl ⟨pa, _, 0, _, rfl, rfl, hSp, at0 _ _, .inl ⟨rfl, _, rfl, iteF' (by decide) ?_⟩⟩))⟩
    refine ⟨_, rfl, .inl (.inr (.inl ⟨pa, _, 0, _, rfl, rfl, hSp, at0 _ _, .inl ⟨rfl, _, rfl, iteF' (by decide) ?_⟩⟩))⟩
    refine ⟨_, rfl, .inl (.inr (.inl ⟨pa, _, 0, _, rfl, rfl, hSp, at0 _ _, .inl ⟨rfl, _, rfl, iteF' (by decide) ?_⟩⟩))⟩
    exact ⟨sumZ S', by have := sz_pos Kd.u.dat; omega, lf, ll, fs, us', G, S', _, _, _, rfl, nfl, hlf, hll, e1, e2n, df, du1, rfl, by simpa [Kd.fac] using hp2, hS', by simp only [Kd.leaves] at hl2; omega, sm⟩
  | p x y =>
    have ek' : pds = [.str "both", x.dat, y.dat] := by have := PyData.tuple.inj ek; exact this.symm
    subst ek'
    rcases dqa_split hAp with ⟨_, z⟩ | ⟨x1, xs1, d1, r1, rfl, z, h1, h2⟩
    · cases z
    cases z
    cases h1
    rcases dqa_split h2 with ⟨_, z⟩ | ⟨x2, xs2, d2, r2, rfl, z, h3, h4⟩
    · cases z
    cases z
    rcases dqa_split h4 with ⟨_, z⟩ | ⟨x3, xs3, d3, r3, rfl, z, h5, h6⟩
    · cases z
    cases z
    cases h6
    refine ⟨_, rfl, .inl (.inr (.inl ⟨pa, _, 0, _, rfl, rfl, hSp, at0 _ _, .inl ⟨rfl, _, rfl, iteF' (by decide) ?_⟩⟩))⟩
    refine ⟨_, rfl, .inl (.inr (.inl ⟨pa, _, 0, _, rfl, rfl, hSp, at0 _ _, .inl ⟨rfl, _, rfl, iteT' (decide_eq_true rfl) ?_⟩⟩))⟩
    refine ⟨_, rfl, .inl ⟨rfl, _, .of e2n⟩, _, rfl, _, rfl, .inl (.inr (.inl ⟨pa, _, 1, _, rfl, rfl, hSp, at1 _ _ _, (by show 2 ≤ sizeLine; decide), fun t ht => ⟨ll, us', _, rfl, rfl, (upd_ne (ne_of_none e2n ht)).trans e2n, fits_lt (by omega), ?_⟩⟩))⟩
    have st := same_new ht (.tup [wv, x2])
    have e2t := st _ _ e2n
    have et : upd H2 t (.tup [wv, x2]) t = some (.tup [wv, x2]) := upd_same
    have dt : Dq K (upd H2 t (.tup [wv, x2])) (.ref t) (sd (W, x)) := .tup (.of et) (.cons (gw.same st) (.cons (h3.same st) .nil))
    have dua : DqAll K (upd H2 t (.tup [wv, x2])) (us' ++ [.ref t]) ((S' ++ [(W, x)]).map sd) := by rw [List.map_append]; exact (du1.same st).append (.cons dt .nil)
    have pw : pureTs [.tuple (Fc.dats W), x.dat, y.dat] = true := by simp [pureTs, pureT, Fc.pure_dats, x.pure, y.pure]
    have trio : DqAll K H2 [wv, x2, x3] [.tuple (Fc.dats W), x.dat, y.dat] := .cons gw (.cons h3 (.cons h5 .nil))
    have hSp2 := SqT.outp e2t (KB.Same.tup st hSp)
    have trio2 := keepP (us2 := us' ++ [.ref t]) e2t pw (trio.same st)
    have df2 := keepP (us2 := us' ++ [.ref t]) e2t (Fc.pure_dats G) (df.same st)
    have du2 := keepP (us2 := us' ++ [.ref t]) e2t (sd_pure _) dua
    have e12 : upd (upd H2 t (.tup [wv, x2])) ll (.lst (us' ++ [.ref t])) lf = some (.lst fs) := by rw [upd_ne nfl]; exact st _ _ e1
    have sm2 := sameU (o := .lst (us' ++ [.ref t])) hll (sm.trans st)
    have hSp3 : SqT K (upd (upd H2 t (.tup [wv, x2])) ll (.lst (us' ++ [.ref t]))) pa _ := KB.Same.tup out_upd hSp2
    have e22 : upd (upd H2 t (.tup [wv, x2])) ll (.lst (us' ++ [.ref t])) ll = some (.lst (us' ++ [.ref t])) := upd_same
    generalize upd (upd H2 t (.tup [wv, x2])) ll (.lst (us' ++ [.ref t])) = H3 at trio2 df2 du2 e12 sm2 hSp3 e22 ⊢
    cases trio2 with
    | cons gw2 t2 => cases t2 with
    | cons g3 t3 => cases t3 with
    | cons g5 _ =>
    refine ⟨_, rfl, .inl ⟨rfl, _, .of e22⟩, _, rfl, _, rfl, .inl (.inr (.inl ⟨pa, _, 2, _, rfl, rfl, hSp3, at2 _ _ _ _, (by show 2 ≤ sizeLine; decide), fun u hu => ⟨ll, _, _, rfl, rfl, (upd_ne (ne_of_none e22 hu)).trans e22, fits_lt (by simp only [List.length_append, List.length_cons, List.length_nil]; omega), ?_⟩⟩))⟩
    have su := same_new hu (.tup [wv, x3])
    have e2u := su _ _ e22
    have eu : upd H3 u (.tup [wv, x3]) u = some (.tup [wv, x3]) := upd_same
    have dub : DqAll K (upd H3 u (.tup [wv, x3])) (us' ++ [.ref t] ++ [.ref u]) ((S' ++ [(W, x)] ++ [(W, y)]).map sd) := by
      rw [List.map_append]
      exact (du2.same su).append (.cons (.tup (.of eu) (.cons (gw2.same su) (.cons (g5.same su) .nil))) .nil)
    have zk : sz (Kd.p x y).dat = 2 + (sz x.dat + sz y.dat) := by simp only [Kd.dat, sz, szs]; omega
    refine ⟨sumZ (S' ++ [(W, x)] ++ [(W, y)]), by rw [zS, zS, zk]; simp only [sumZ, List.map_cons, List.map_nil, List.sum_cons, List.sum_nil]; omega, lf, ll, fs, _, G, S' ++ [(W, x)] ++ [(W, y)], _, _, _, rfl, nfl, hlf, hll, by rw [upd_ne nfl]; exact su _ _ e12, upd_same, keepP e2u (Fc.pure_dats G) (df2.same su), keepP e2u (sd_pure _) dub, rfl, ?_, ?_, ?_, sameU hll (sm2.trans su)⟩
    · refine List.Perm.trans ?_ hp2
      rw [aF, aF, List.append_assoc (allF S'), List.append_assoc G]
      refine (List.perm_append_comm.trans (.of_eq ?_)).append_left G
      simp [allF, Kd.fac]
    · intro e he
      rcases List.mem_append.mp he with he | he
      · rcases List.mem_append.mp he with he | he
        · exact hS' e he
        · rw [List.mem_singleton.mp he]
          exact ⟨okk.1, by have := rkk; simp only [Kd.rk] at this ⊢; omega, dW, by simp only [Kd.leaves] at lW; show W.length + x.leaves ≤ _; omega⟩
      · rw [List.mem_singleton.mp he]
        exact ⟨okk.2, by have := rkk; simp only [Kd.rk] at this ⊢; omega, dW, by simp only [Kd.leaves] at lW; show W.length + y.leaves ≤ _; omega⟩
    · rw [lS, lS]
      simp only [sumL, List.map_cons, List.map_nil, List.sum_cons, List.sum_nil, Kd.leaves] at hl2 ⊢
      omega
  | f x y =>
    have ek' : pds = [.str "from", x.dat, y.dat] := by have := PyData.tuple.inj ek; exact this.symm
    subst ek'
    rcases dqa_split hAp with ⟨_, z⟩ | ⟨x1, xs1, d1, r1, rfl, z, h1, h2⟩
    · cases z
    cases z
    cases h1
    rcases dqa_split h2 with ⟨_, z⟩ | ⟨x2, xs2, d2, r2, rfl, z, h3, h4⟩
    · cases z
    cases z
    rcases dqa_split h4 with ⟨_, z⟩ | ⟨x3, xs3, d3, r3, rfl, z, h5, h6⟩
    · cases z
    cases z
    cases h6
    obtain ⟨wa, wxs, wds, rfl, ew, hSw, hAw⟩ := dq_tup gw rfl
    have ew' : wds = Fc.dats W := (PyData.tuple.inj ew).symm
    subst ew'
    have rk2 : x.rk + 1 ≤ k0.rk ∧ y.rk ≤ k0.rk := by simp only [Kd.rk] at rkk; omega
    have lv2 : W.length + (x.leaves + y.leaves) ≤ k0.leaves := by simpa only [Kd.leaves] using lW
    refine ⟨_, rfl, .inl (.inr (.inl ⟨pa, _, 0, _, rfl, rfl, hSp, at0 _ _, .inl ⟨rfl, _, rfl, iteF' (by decide) ?_⟩⟩))⟩
    refine ⟨_, rfl, .inl (.inr (.inl ⟨pa, _, 0, _, rfl, rfl, hSp, at0 _ _, .inl ⟨rfl, _, rfl, iteF' (by decide) ?_⟩⟩))⟩
    refine ⟨_, rfl, .inl (.inr (.inl ⟨pa, _, 0, _, rfl, rfl, hSp, at0 _ _, .inl ⟨rfl, _, rfl, iteT' (decide_eq_true rfl) ?_⟩⟩))⟩
    refine ⟨_, rfl, wa, wxs, rfl, .inr hSw, fun c1 hc1 => ?_⟩
    have t3 := same_new hc1 (.lst wxs)
    refine ⟨_, rfl, .inl (.inr (.inl ⟨pa, _, 1, _, rfl, rfl, KB.Same.tup t3 hSp, at1 _ _ _, ?_⟩))⟩
    refine ⟨x2, x, rfl, h3.same t3, okk.1, by omega, by omega, by omega, fun ys p H4 hpn hp4 dys smp => ?_⟩
    have t4 := t3.trans (of_out smp)
    have ec1 : H4 c1 = some (.lst wxs) := (of_out smp) _ _ upd_same
    have hwl := hAw.length
    rw [Fc.dats_length] at hwl
    have hyl := dys.length
    rw [Fc.dats_length] at hyl
    have hfl2 := x.form_length
    refine .inr (.inr (.inl ⟨c1, p, _, _, rfl, rfl, ec1, hp4, fits (by omega), fun c2 hc2 => ?_⟩))
    have t5 := t4.trans (same_new hc2 (.lst (wxs ++ ys)))
    have u5 := same_new hc2 (.lst (wxs ++ ys))
    have dall : DqAll K (upd H4 c2 (.lst (wxs ++ ys))) (wxs ++ ys) (Fc.dats (W ++ x.form)) := by
      rw [Fc.dats_append]
      exact (hAw.same t5).append ((dys.same (out_sub p H4)).same u5)
    refine ⟨c2, _, W ++ x.form, rfl, .of upd_same, dall, by rw [Fc.depth_append]; have := x.form_depth; have dW' : PyData.depthAll (Fc.dats W) ≤ 2 * k0.rk := dW; omega, fun zs c3 hz hc3 => ?_⟩
    have u6 := same_new hc3 (.lst zs)
    have t6 := t5.trans u6
    have e6 := t6 _ _ e2n
    refine ⟨_, rfl, .inl ⟨rfl, _, .of e6⟩, ?_⟩
    refine ⟨_, rfl, c3, zs, rfl, .inl ⟨.of upd_same, fun t ht => ?_⟩⟩
    have u7 := same_new ht (.tup zs)
    have t7 := t6.trans u7
    refine ⟨_, rfl, .inl (.inr (.inl ⟨pa, _, 2, _, rfl, rfl, KB.Same.tup t7 hSp, at2 _ _ _ _, (by show 2 ≤ sizeLine; decide), fun u hu => ?_⟩))⟩
    have u8 := same_new hu (.tup [.ref t, x3])
    have t8 := t7.trans u8
    have e8 := t8 _ _ e2n
    refine ⟨ll, us', _, rfl, rfl, e8, fits_lt (by omega), ?_⟩
    have et := u8 _ _ (upd_same (a := t) (o := .tup zs) (H := upd (upd H4 c2 (.lst (wxs ++ ys))) c3 (.lst zs)))
    have eu := upd_same (a := u) (o := .tup [.ref t, x3]) (H := upd (upd (upd H4 c2 (.lst (wxs ++ ys))) c3 (.lst zs)) t (.tup zs))
    have dz := hz.same ((u6.trans u7).trans u8)
    have df8 := df.same t8
    have du8 := du1.same t8
    have h58 := h5.same t8
    have e18 := t8 _ _ e1
    generalize upd (upd (upd (upd H4 c2 (.lst (wxs ++ ys))) c3 (.lst zs)) t (.tup zs)) u (.tup [.ref t, x3]) = H8 at t8 e8 et eu dz df8 du8 h58 e18 ⊢
    have dub : DqAll K H8 (us' ++ [.ref u]) ((S' ++ [(Fc.srt (W ++ x.form), y)]).map sd) := by
      rw [List.map_append]
      exact du8.append (.cons (.tup (.of eu) (.cons (.tup (.of et) dz) (.cons h58 .nil))) .nil)
    have zk : sz (Kd.f x y).dat = 2 + (sz x.dat + sz y.dat) := by simp only [Kd.dat, sz, szs]; omega
    refine ⟨sumZ (S' ++ [(Fc.srt (W ++ x.form), y)]), by rw [zS, zk]; simp only [sumZ, List.map_cons, List.map_nil, List.sum_cons, List.sum_nil]; omega, lf, ll, fs, _, G, S' ++ [(Fc.srt (W ++ x.form), y)], _, _, _, rfl, nfl, hlf, hll, by rw [upd_ne nfl]; exact e18, upd_same, keepP e8 (Fc.pure_dats G) df8, keepP e8 (sd_pure _) dub, rfl, ?_, ?_, ?_, sameU hll (sm.trans t8)⟩
    · refine List.Perm.trans ?_ hp2
      rw [aF, List.append_assoc G]
      refine (List.perm_append_comm.trans (.of_eq ?_)).append_left G
      simp [allF, Kd.fac, Kd.form]
    · intro e he
      rcases List.mem_append.mp he with he | he
      · exact hS' e he
      · rw [List.mem_singleton.mp he]
        refine ⟨okk.2, rk2.2, ?_, ?_⟩
        · show PyData.depthAll (Fc.dats (Fc.srt (W ++ x.form))) ≤ _
          rw [Fc.depth_srt, Fc.depth_append]
          have := x.form_depth
          have := dW
          simp only at this
          omega
        · show (Fc.srt (W ++ x.form)).length + y.leaves ≤ _
          rw [Fc.srt_length, List.length_append]; omega
    · rw [lS]
      simp only [sumL, List.map_cons, List.map_nil, List.sum_cons, List.sum_nil, Kd.leaves] at hl2 ⊢
      omega
theorem ok_factors (A : At K mg "_factors" s_factors) (T : Txt K mg w CN CT) : ∀ N : Nat, Cal P w K mg base CX0 N "_factors" ["kind"] (spFac K N)
  | 0 => cal_vac A (fun f fd F => F.binds (ps := ["kind"]) (fun _ _ _ _ _ _ us hl => match us, hl with | [_], _ => rfl)) fun vs H Q E ⟨v, k, _, _, _, h, _⟩ => absurd h (Nat.not_lt_zero _)
  | N + 1 => ok_factors1 A T (ok_factors A T N)
end
/-! ## form, alike -/
def spForm (K : PySem.W.Frag) (CN : Addr) : Sp := fun vs H Q E => ∃ v d, vs = [v] ∧ Dq K H v d ∧ sz d ≤ 1000000 ∧
  (∀ k : Kd, k.ok → d = k.dat → k.rk ≤ 80 ∧ k.leaves ≤ 5000 ∧ ∀ (ys : List V) (p : Addr) (H' : Hp), H p = none → H' p = some (.lst ys) → DqAll K (out p H') ys (Fc.dats k.form) → Same H (out p H') → Q (.ref p) H') ∧
  (isKd d = false → ∀ H', Same H H' → E (.ref CN) none H')
def spAlike (K : PySem.W.Frag) (CN : Addr) : Sp := fun vs H Q E => ∃ v d v2 d2, vs = [v, v2] ∧ Dq K H v d ∧ Dq K H v2 d2 ∧ sz d ≤ 1000000 ∧ sz d2 ≤ 1000000 ∧
  (∀ k k2 : Kd, k.ok → k2.ok → d = k.dat → d2 = k2.dat → (k.rk ≤ 80 ∧ k.leaves ≤ 5000 ∧ k2.rk ≤ 80 ∧ k2.leaves ≤ 5000) ∧ ∀ H', Same H H' → Q (.bl (Fc.cmps k.form k2.form == .eq)) H') ∧
  (isKd d = false → ∀ H', Same H H' → E (.ref CN) none H') ∧ (isKd d = true → isKd d2 = false → (∀ k : Kd, k.ok → d = k.dat → k.rk ≤ 80 ∧ k.leaves ≤ 5000) ∧ ∀ H', Same H H' → E (.ref CN) none H')
abbrev s_form : Stmt := top 37
theorem sc_form : FnScope ["kind"] ["kind"] (defScope s_form) := ⟨rfl, rfl, rfl, by decide +kernel, rfl, by decide +kernel, by decide +kernel⟩
abbrev s_alike : Stmt := top 43
theorem sc_alike : FnScope ["one", "other"] ["one", "other"] (defScope s_alike) := ⟨rfl, rfl, rfl, by decide +kernel, rfl, by decide +kernel, by decide +kernel⟩
section
variable {P : Program} {w : World} {K : PySem.W.Frag} {mg : Str → Option Value} {base : Heap} {CN CT : Addr}
theorem ok_form (A : At K mg "form" s_form) (T : Txt K mg w CN CT) (C_need_kind : Cal P w K mg base (L2.CX P w) 4 "need_kind" ["thing"] (spNeed K CN)) (C_factors : Cal P w K mg base CX0 81 "_factors" ["kind"] (spFac K 81)) : Cal P w K mg base (L2.CX P w) 82 "form" ["kind"] (spForm K CN) := by
  obtain ⟨f, fd, F, m⟩ := A
  refine ⟨f, fd, F.okX sc_form (fun vs H Q E h => ?_) (fun cdv A outer s H vs Q E hr h => ?_), F.binds (ps := ["kind"]) (fun _ _ _ _ _ _ us hl => match us, hl with | [_], _ => rfl), F.kp, m⟩
  · obtain ⟨v, d, rfl, _⟩ := h; rfl
  obtain ⟨v, d, rfl, hd, hz, q1, q2⟩ := h
  refine ⟨_, (pss_cons (ps_expr (pe_calC C_need_kind (hr.mono (by first | decide | omega)) (passes_call (takes_of rfl rfl rfl rfl) (fun _ _ _ _ h => h)) (pa_cons (pv 0) pa_nil)))
  (pss_one (ps_ret (pe_calC C_factors (hr.mono (by first | decide | omega)) pass0 (pa_cons (pv 0) pa_nil))))), ?_⟩
  refine ⟨_, rfl, v, d, rfl, hd, hz, fun hk H1 s1 => ?_, fun hk H1 s1 => q2 hk H1 s1⟩
  obtain ⟨k, ok, rfl⟩ := kd_of d hk
  obtain ⟨hr8, hl5, q⟩ := q1 k ok rfl
  refine ⟨_, rfl, v, k, rfl, hd.same s1, ok, by omega, hr8, hl5, fun ys p H2 hpn hp dy s2 => ?_⟩
  have hHp : H p = none := by
    cases z : H p with
    | none => rfl
    | some u => rw [s1 _ _ z] at hpn; cases hpn
  exact q ys p H2 hHp hp dy (s1.trans s2)
theorem ok_alike (A : At K mg "alike" s_alike) (T : Txt K mg w CN CT) (C_form : Cal P w K mg base (L2.CX P w) 82 "form" ["kind"] (spForm K CN)) : Cal P w K mg base (L2.CX P w) 83 "alike" ["one", "other"] (spAlike K CN) := by
  obtain ⟨f, fd, F, m⟩ := A
  refine ⟨f, fd, F.okX sc_alike (fun vs H Q E h => ?_) (fun cdv A outer s H vs Q E hr h => ?_), F.binds (ps := ["one", "other"]) (fun _ _ _ _ _ _ us hl => match us, hl with | [_, _], _ => rfl), F.kp, m⟩
  · obtain ⟨v, d, v2, d2, rfl, _⟩ := h; rfl
  obtain ⟨v, d, v2, d2, rfl, hd, hd2, hz, hz2, q1, q2, q3⟩ := h
  refine ⟨_, (pss_one (ps_ret (pe_cmpR (op_eqA (room200 hr)) (pe_calC C_form (hr.mono (by first | decide | omega)) (passes_call (takes_of rfl rfl rfl rfl) (fun _ _ _ _ h => h)) (pa_cons (pv 0) pa_nil)) (pe_calC C_form (hr.mono (by first | decide | omega)) (passes_call (takes_of rfl rfl rfl rfl) (fun _ _ _ _ h => h)) (pa_cons (pv 1) pa_nil)) (nomark _)))), ?_⟩
  refine ⟨_, rfl, v, d, rfl, hd, hz, fun k ok ek => ?_, fun h H1 s1 => q2 h H1 s1⟩
  have kd : isKd d = true := by rw [ek]; exact isKd_dat k ok
  have bd : k.rk ≤ 80 ∧ k.leaves ≤ 5000 := by
    by_cases h2 : isKd d2 = true
    · obtain ⟨k2, ok2, ek2⟩ := kd_of d2 h2
      have := (q1 k k2 ok ok2 ek ek2).1
      exact ⟨this.1, this.2.1⟩
    · exact (q3 kd (Bool.eq_false_iff.mpr h2)).1 k ok ek
  refine ⟨bd.1, bd.2, fun ys p H1 hpn hp dy s1 => ?_⟩
  refine ⟨_, rfl, v2, d2, rfl, hd2.same (of_out s1), hz2, fun k2 ok2 ek2 => ?_, fun h H2 s2 => (q3 kd h).2 H2 ((of_out s1).trans s2)⟩
  obtain ⟨b2, q⟩ := q1 k k2 ok ok2 ek ek2
  refine ⟨b2.2.2.1, b2.2.2.2, fun ys2 p2 H2 hpn2 hp2 dy2 s2 => ?_⟩
  have l1 : Dq K H2 (.ref p) (.list (Fc.dats k.form)) := .lst (.of ((of_out s2) _ _ hp)) (dy.same ((out_sub p H1).trans (of_out s2)))
  have l2 : Dq K H2 (.ref p2) (.list (Fc.dats k2.form)) := .lst (.of hp2) (dy2.same (out_sub p2 H2))
  have c1 : (PyData.list (Fc.dats k.form)).canLay0 = true := by simpa [PyData.canLay0] using Fc.lays k.form
  have c2 : (PyData.list (Fc.dats k2.form)).canLay0 = true := by simpa [PyData.canLay0] using Fc.lays k2.form
  have e1 := k.form_depth
  refine .inr ⟨_, _, l1.dp c1, l2.dp c2, c1, c2, by simp only [PyData.depth]; omega, ?_⟩
  rw [ev_lst, Fc.eqvs]
  exact q H2 ((of_out s1).trans (of_out s2))
end
/-! ## refusals of what is no kind -/
def spR (K : PySem.W.Frag) (CN : Addr) (n i : Nat) : Sp := fun vs H _ E => ∃ v d, vs.length = n ∧ vs[i]? = some v ∧ Dq K H v d ∧ sz d ≤ 1000000 ∧ isKd d = false ∧ ∀ H', Same H H' → E (.ref CN) none H'
/-- the first is none, or the second -/
def spRA (K : PySem.W.Frag) (CN : Addr) (n : Nat) : Sp := fun vs H _ E => ∃ v d v2 d2 r, vs = v :: v2 :: r ∧ r.length = n ∧ Dq K H v d ∧ Dq K H v2 d2 ∧ sz d ≤ 1000000 ∧ sz d2 ≤ 1000000 ∧
  (isKd d = false ∨ ((∃ k : Kd, k.ok ∧ d = k.dat ∧ k.rk ≤ 80 ∧ k.leaves ≤ 5000) ∧ isKd d2 = false)) ∧ ∀ H', Same H H' → E (.ref CN) none H'
section
variable {P : Program} {w : World} {K : PySem.W.Frag} {mg : Str → Option Value} {base : Heap} {CN CT : Addr}
abbrev s_sized_kind : Stmt := top 50
theorem sc_sized_kind : FnScope ["kind", "sizes"] ["kind", "sizes"] (defScope s_sized_kind) := ⟨rfl, rfl, rfl, by decide +kernel, rfl, by decide +kernel, by decide +kernel⟩
theorem ok_sized_kind_no (A : At K mg "sized_kind" s_sized_kind) (C_need_kind : Cal P w K mg base (L2.CX P w) 4 "need_kind" ["thing"] (spNeed K CN)) : Cal P w K mg base (L2.CX P w) 5 "sized_kind" ["kind", "sizes"] (spR K CN 2 0) := by
  obtain ⟨f, fd, F, m⟩ := A
  refine ⟨f, fd, F.okX sc_sized_kind (fun vs H Q E h => ?_) (fun cdv A outer s H vs Q E hr h => ?_), F.binds (ps := ["kind", "sizes"]) (fun _ _ _ _ _ _ us hl => match us, hl with | [_, _], _ => rfl), F.kp, m⟩
  · obtain ⟨v, d, hl, _⟩ := h; exact hl
  obtain ⟨v, d, hl, hv, hd, hz, no, q⟩ := h
  match vs, hl, hv with
  | [x0, x1], _, hv =>
  cases hv
  refine ⟨_, (pss_cons (ps_expr (pe_calC C_need_kind (hr.mono (by first | decide | omega)) (passes_call (takes_of rfl rfl rfl rfl) (fun _ _ _ _ h => h)) (pa_cons (pv 0) pa_nil)))
  pss_never), ?_⟩
  exact ⟨_, rfl, _, d, rfl, hd, hz, fun h => absurd h (by rw [no]; decide), fun _ H1 s1 => q H1 s1⟩
abbrev s_many : Stmt := top 65
theorem sc_many : FnScope ["kind", "sizes", "whole"] ["kind", "sizes"] (defScope s_many) := ⟨rfl, rfl, rfl, by decide +kernel, rfl, by decide +kernel, by decide +kernel⟩
theorem ok_many_no (A : At K mg "many" s_many) (C_sized_kind : Cal P w K mg base (L2.CX P w) 5 "sized_kind" ["kind", "sizes"] (spR K CN 2 0)) : Cal P w K mg base (L2.CX P w) 6 "many" ["kind", "sizes"] (spR K CN 2 0) := by
  obtain ⟨f, fd, F, m⟩ := A
  refine ⟨f, fd, F.okX sc_many (fun vs H Q E h => ?_) (fun cdv A outer s H vs Q E hr h => ?_), F.binds (ps := ["kind", "sizes"]) (fun _ _ _ _ _ _ us hl => match us, hl with | [_, _], _ => rfl), F.kp, m⟩
  · obtain ⟨v, d, hl, _⟩ := h; exact hl
  obtain ⟨v, d, hl, hv, hd, hz, no, q⟩ := h
  match vs, hl, hv with
  | [x0, x1], _, hv =>
  cases hv
  refine ⟨_, (pss_cons (ps_set (i := 2) sc_many.nd rfl (by first | exact Or.inl rfl | exact Or.inr rfl) (pe_calC C_sized_kind (hr.mono (by first | decide | omega)) (passes_call (takes_of rfl rfl rfl rfl) (fun _ _ _ _ h => h)) (pa_cons (pv 0) (pa_cons (pv 1) pa_nil))))
  pss_never), ?_⟩
  exact ⟨_, rfl, _, rfl, _, d, rfl, rfl, hd, hz, no, q⟩
abbrev s_pub_rest : Stmt := top 66
theorem sc_pub_rest : FnScope ["kind", "sizes", "by", "whole"] ["kind", "sizes", "by"] (defScope s_pub_rest) := ⟨rfl, rfl, rfl, by decide +kernel, rfl, by decide +kernel, by decide +kernel⟩
theorem ok_rest_no (A : At K mg "rest" s_pub_rest) (C_sized_kind : Cal P w K mg base (L2.CX P w) 5 "sized_kind" ["kind", "sizes"] (spR K CN 2 0)) : Cal P w K mg base (L2.CX P w) 6 "rest" ["kind", "sizes", "by"] (spR K CN 3 0) := by
  obtain ⟨f, fd, F, m⟩ := A
  refine ⟨f, fd, F.okX sc_pub_rest (fun vs H Q E h => ?_) (fun cdv A outer s H vs Q E hr h => ?_), F.binds (ps := ["kind", "sizes", "by"]) (fun _ _ _ _ _ _ us hl => match us, hl with | [_, _, _], _ => rfl), F.kp, m⟩
  · obtain ⟨v, d, hl, _⟩ := h; exact hl
  obtain ⟨v, d, hl, hv, hd, hz, no, q⟩ := h
  match vs, hl, hv with
  | [x0, x1, x2], _, hv =>
  cases hv
  refine ⟨_, (pss_cons (ps_set (i := 3) sc_pub_rest.nd rfl (by first | exact Or.inl rfl | exact Or.inr rfl) (pe_calC C_sized_kind (hr.mono (by first | decide | omega)) (passes_call (takes_of rfl rfl rfl rfl) (fun _ _ _ _ h => h)) (pa_cons (pv 0) (pa_cons (pv 1) pa_nil))))
  pss_never), ?_⟩
  exact ⟨_, rfl, _, rfl, _, d, rfl, rfl, hd, hz, no, q⟩
abbrev s_worths : Stmt := top 127
theorem sc_worths : FnScope ["kind", "sizes", "whole"] ["kind", "sizes"] (defScope s_worths) := ⟨rfl, rfl, rfl, by decide +kernel, rfl, by decide +kernel, by decide +kernel⟩
theorem ok_worths_no (A : At K mg "worths" s_worths) (C_sized_kind : Cal P w K mg base (L2.CX P w) 5 "sized_kind" ["kind", "sizes"] (spR K CN 2 0)) : Cal P w K mg base (L2.CX P w) 6 "worths" ["kind", "sizes"] (spR K CN 2 0) := by
  obtain ⟨f, fd, F, m⟩ := A
  refine ⟨f, fd, F.okX sc_worths (fun vs H Q E h => ?_) (fun cdv A outer s H vs Q E hr h => ?_), F.binds (ps := ["kind", "sizes"]) (fun _ _ _ _ _ _ us hl => match us, hl with | [_, _], _ => rfl), F.kp, m⟩
  · obtain ⟨v, d, hl, _⟩ := h; exact hl
  obtain ⟨v, d, hl, hv, hd, hz, no, q⟩ := h
  match vs, hl, hv with
  | [x0, x1], _, hv =>
  cases hv
  refine ⟨_, (pss_cons (ps_set (i := 2) sc_worths.nd rfl (by first | exact Or.inl rfl | exact Or.inr rfl) (pe_calC C_sized_kind (hr.mono (by first | decide | omega)) (passes_call (takes_of rfl rfl rfl rfl) (fun _ _ _ _ h => h)) (pa_cons (pv 0) (pa_cons (pv 1) pa_nil))))
  pss_never), ?_⟩
  exact ⟨_, rfl, _, rfl, _, d, rfl, rfl, hd, hz, no, q⟩
abbrev s_is_worth : Stmt := top 128
theorem sc_is_worth : FnScope ["kind", "sizes", "thing", "whole"] ["kind", "sizes", "thing"] (defScope s_is_worth) := ⟨rfl, rfl, rfl, by decide +kernel, rfl, by decide +kernel, by decide +kernel⟩
theorem ok_is_worth_no (A : At K mg "is_worth" s_is_worth) (C_sized_kind : Cal P w K mg base (L2.CX P w) 5 "sized_kind" ["kind", "sizes"] (spR K CN 2 0)) : Cal P w K mg base (L2.CX P w) 6 "is_worth" ["kind", "sizes", "thing"] (spR K CN 3 0) := by
  obtain ⟨f, fd, F, m⟩ := A
  refine ⟨f, fd, F.okX sc_is_worth (fun vs H Q E h => ?_) (fun cdv A outer s H vs Q E hr h => ?_), F.binds (ps := ["kind", "sizes", "thing"]) (fun _ _ _ _ _ _ us hl => match us, hl with | [_, _, _], _ => rfl), F.kp, m⟩
  · obtain ⟨v, d, hl, _⟩ := h; exact hl
  obtain ⟨v, d, hl, hv, hd, hz, no, q⟩ := h
  match vs, hl, hv with
  | [x0, x1, x2], _, hv =>
  cases hv
  refine ⟨_, (pss_cons (ps_set (i := 3) sc_is_worth.nd rfl (by first | exact Or.inl rfl | exact Or.inr rfl) (pe_calC C_sized_kind (hr.mono (by first | decide | omega)) (passes_call (takes_of rfl rfl rfl rfl) (fun _ _ _ _ h => h)) (pa_cons (pv 0) (pa_cons (pv 1) pa_nil))))
  pss_never), ?_⟩
  exact ⟨_, rfl, _, rfl, _, d, rfl, rfl, hd, hz, no, q⟩
abbrev s_search : Stmt := top 117
theorem sc_search : FnScope ["library", "kind", "wished", "found", "name", "thing", "wants", "function"] ["library", "kind"] (defScope s_search) := ⟨rfl, rfl, rfl, by decide +kernel, rfl, by decide +kernel, by decide +kernel⟩
theorem ok_search_no (A : At K mg "search" s_search) (C_need_kind : Cal P w K mg base (L2.CX P w) 4 "need_kind" ["thing"] (spNeed K CN)) : Cal P w K mg base (L2.CX P w) 5 "search" ["library", "kind"] (spR K CN 2 1) := by
  obtain ⟨f, fd, F, m⟩ := A
  refine ⟨f, fd, F.okX sc_search (fun vs H Q E h => ?_) (fun cdv A outer s H vs Q E hr h => ?_), F.binds (ps := ["library", "kind"]) (fun _ _ _ _ _ _ us hl => match us, hl with | [_, _], _ => rfl), F.kp, m⟩
  · obtain ⟨v, d, hl, _⟩ := h; exact hl
  obtain ⟨v, d, hl, hv, hd, hz, no, q⟩ := h
  match vs, hl, hv with
  | [x0, x1], _, hv =>
  cases hv
  refine ⟨_, (pss_cons (ps_expr (pe_calC C_need_kind (hr.mono (by first | decide | omega)) (passes_call (takes_of rfl rfl rfl rfl) (fun _ _ _ _ h => h)) (pa_cons (pv 1) pa_nil)))
  pss_never), ?_⟩
  exact ⟨_, rfl, _, d, rfl, hd, hz, fun h => absurd h (by rw [no]; decide), fun _ H1 s1 => q H1 s1⟩
abbrev s_search_fault : Stmt := top 118
theorem sc_search_fault : FnScope ["library", "kind", "name", "thing", "looked_at", "wants", "there", "back"] ["library", "kind", "name", "thing"] (defScope s_search_fault) := ⟨rfl, rfl, rfl, by decide +kernel, rfl, by decide +kernel, by decide +kernel⟩
theorem ok_search_fault_no (A : At K mg "search_fault" s_search_fault) (C_need_kind : Cal P w K mg base (L2.CX P w) 4 "need_kind" ["thing"] (spNeed K CN)) : Cal P w K mg base (L2.CX P w) 5 "search_fault" ["library", "kind", "name", "thing"] (spR K CN 4 1) := by
  obtain ⟨f, fd, F, m⟩ := A
  refine ⟨f, fd, F.okX sc_search_fault (fun vs H Q E h => ?_) (fun cdv A outer s H vs Q E hr h => ?_), F.binds (ps := ["library", "kind", "name", "thing"]) (fun _ _ _ _ _ _ us hl => match us, hl with | [_, _, _, _], _ => rfl), F.kp, m⟩
  · obtain ⟨v, d, hl, _⟩ := h; exact hl
  obtain ⟨v, d, hl, hv, hd, hz, no, q⟩ := h
  match vs, hl, hv with
  | [x0, x1, x2, x3], _, hv =>
  cases hv
  refine ⟨_, (pss_cons (ps_expr (pe_calC C_need_kind (hr.mono (by first | decide | omega)) (passes_call (takes_of rfl rfl rfl rfl) (fun _ _ _ _ h => h)) (pa_cons (pv 1) pa_nil)))
  pss_never), ?_⟩
  exact ⟨_, rfl, _, d, rfl, hd, hz, fun h => absurd h (by rw [no]; decide), fun _ H1 s1 => q H1 s1⟩
abbrev s_apart : Stmt := top 69
theorem sc_apart : FnScope ["one", "other", "sizes", "state", "_", "one_rest", "other_rest"] ["one", "other"] (defScope s_apart) := ⟨rfl, rfl, rfl, by decide +kernel, rfl, by decide +kernel, by decide +kernel⟩
theorem ok_apart_no (A : At K mg "apart" s_apart) (C_alike : Cal P w K mg base (L2.CX P w) 83 "alike" ["one", "other"] (spAlike K CN)) : Cal P w K mg base (L2.CX P w) 84 "apart" ["one", "other"] (spRA K CN 0) := by
  obtain ⟨f, fd, F, m⟩ := A
  refine ⟨f, fd, F.okX sc_apart (fun vs H Q E h => ?_) (fun cdv A outer s H vs Q E hr h => ?_), F.binds (ps := ["one", "other"]) (fun _ _ _ _ _ _ us hl => match us, hl with | [_, _], _ => rfl), F.kp, m⟩
  · obtain ⟨v, d, v2, d2, r, rfl, hl, _⟩ := h; simp [hl]
  obtain ⟨v, d, v2, d2, r, rfl, hl, hd, hd2, hz, hz2, no, q⟩ := h
  match r, hl with
  | [], _ =>
  refine ⟨_, (pss_cons (ps_if (pt_val (pe_calC C_alike (hr.mono (by first | decide | omega)) (passes_call (takes_of rfl rfl rfl rfl) (fun _ _ _ _ h => h)) (pa_cons (pv 0) (pa_cons (pv 1) pa_nil))))
   (pss_one (ps_ret pe_non))
   pss_nil)
  pss_never), ?_⟩
  refine ⟨_, rfl, _, rfl, v, d, v2, d2, rfl, hd, hd2, hz, hz2, fun k k2 ok ok2 e1 e2 => ?_, fun _ H1 s1 => q H1 s1, fun h1 h2 => ⟨fun k ok e => ?_, q⟩⟩
  · rcases no with no | ⟨_, no⟩
    · rw [e1, isKd_dat k ok] at no; cases no
    · rw [e2, isKd_dat k2 ok2] at no; cases no
  · rcases no with no | ⟨⟨k', ok', e', b⟩, _⟩
    · rw [h1] at no; cases no
    · have : k.dat = k'.dat := e.symm.trans e'
      rw [Kd.dat_inj _ _ this]; exact b
abbrev s_turner : Stmt := top 112
theorem sc_turner : FnScope ["one", "other", "told", "nodes"] ["one", "other"] (defScope s_turner) := ⟨rfl, rfl, rfl, by decide +kernel, rfl, by decide +kernel, by decide +kernel⟩
theorem ok_turner_no (A : At K mg "turner" s_turner) (C_apart : Cal P w K mg base (L2.CX P w) 84 "apart" ["one", "other"] (spRA K CN 0)) : Cal P w K mg base (L2.CX P w) 85 "turner" ["one", "other"] (spRA K CN 0) := by
  obtain ⟨f, fd, F, m⟩ := A
  refine ⟨f, fd, F.okX sc_turner (fun vs H Q E h => ?_) (fun cdv A outer s H vs Q E hr h => ?_), F.binds (ps := ["one", "other"]) (fun _ _ _ _ _ _ us hl => match us, hl with | [_, _], _ => rfl), F.kp, m⟩
  · obtain ⟨v, d, v2, d2, r, rfl, hl, _⟩ := h; simp [hl]
  obtain ⟨v, d, v2, d2, r, rfl, hl, hd, hd2, hz, hz2, no, q⟩ := h
  match r, hl with
  | [], _ =>
  refine ⟨_, (pss_cons (ps_set (i := 2) sc_turner.nd rfl (by first | exact Or.inl rfl | exact Or.inr rfl) (pe_calC C_apart (hr.mono (by first | decide | omega)) (passes_call (takes_of rfl rfl rfl rfl) (fun _ _ _ _ h => h)) (pa_cons (pv 0) (pa_cons (pv 1) pa_nil))))
  pss_never), ?_⟩
  exact ⟨_, rfl, _, rfl, v, d, v2, d2, [], rfl, rfl, hd, hd2, hz, hz2, no, q⟩
abbrev s_apart_fault : Stmt := top 71
theorem sc_apart_fault : FnScope ["one", "other", "thing", "sizes", "by", "one_rest", "other_rest"] ["one", "other", "thing"] (defScope s_apart_fault) := ⟨rfl, rfl, rfl, by decide +kernel, rfl, by decide +kernel, by decide +kernel⟩
theorem ok_apart_fault_no (A : At K mg "apart_fault" s_apart_fault) (C_need_kind : Cal P w K mg base (L2.CX P w) 4 "need_kind" ["thing"] (spNeed K CN)) : Cal P w K mg base (L2.CX P w) 5 "apart_fault" ["one", "other", "thing"] (spRA K CN 1) := by
  obtain ⟨f, fd, F, m⟩ := A
  refine ⟨f, fd, F.okX sc_apart_fault (fun vs H Q E h => ?_) (fun cdv A outer s H vs Q E hr h => ?_), F.binds (ps := ["one", "other", "thing"]) (fun _ _ _ _ _ _ us hl => match us, hl with | [_, _, _], _ => rfl), F.kp, m⟩
  · obtain ⟨v, d, v2, d2, r, rfl, hl, _⟩ := h; simp [hl]
  obtain ⟨v, d, v2, d2, r, rfl, hl, hd, hd2, hz, hz2, no, q⟩ := h
  match r, hl with
  | [y0], _ =>
  refine ⟨_, (pss_cons (ps_expr (pe_calC C_need_kind (hr.mono (by first | decide | omega)) (passes_call (takes_of rfl rfl rfl rfl) (fun _ _ _ _ h => h)) (pa_cons (pv 0) pa_nil)))
  (pss_cons (ps_expr (pe_calC C_need_kind (hr.mono (by first | decide | omega)) (passes_call (takes_of rfl rfl rfl rfl) (fun _ _ _ _ h => h)) (pa_cons (pv 1) pa_nil)))
  pss_never)), ?_⟩
  refine ⟨_, rfl, v, d, rfl, hd, hz, fun h1 H1 s1 => ?_, fun _ H1 s1 => q H1 s1⟩
  have n2 : isKd d2 = false := by
    rcases no with no | ⟨_, no⟩
    · rw [h1] at no; cases no
    · exact no
  exact ⟨_, rfl, v2, d2, rfl, hd2.same s1, hz2, fun h => absurd h (by rw [n2]; decide), fun _ H2 s2 => q H2 (s1.trans s2)⟩
abbrev s_turn_fault : Stmt := top 113
theorem sc_turn_fault : FnScope ["one", "other", "there", "back", "there_part", "back_part"] ["one", "other", "there", "back"] (defScope s_turn_fault) := ⟨rfl, rfl, rfl, by decide +kernel, rfl, by decide +kernel, by decide +kernel⟩
theorem ok_turn_fault_no (A : At K mg "turn_fault" s_turn_fault) (C_need_kind : Cal P w K mg base (L2.CX P w) 4 "need_kind" ["thing"] (spNeed K CN)) : Cal P w K mg base (L2.CX P w) 5 "turn_fault" ["one", "other", "there", "back"] (spRA K CN 2) := by
  obtain ⟨f, fd, F, m⟩ := A
  refine ⟨f, fd, F.okX sc_turn_fault (fun vs H Q E h => ?_) (fun cdv A outer s H vs Q E hr h => ?_), F.binds (ps := ["one", "other", "there", "back"]) (fun _ _ _ _ _ _ us hl => match us, hl with | [_, _, _, _], _ => rfl), F.kp, m⟩
  · obtain ⟨v, d, v2, d2, r, rfl, hl, _⟩ := h; simp [hl]
  obtain ⟨v, d, v2, d2, r, rfl, hl, hd, hd2, hz, hz2, no, q⟩ := h
  match r, hl with
  | [y0, y1], _ =>
  refine ⟨_, (pss_cons (ps_expr (pe_calC C_need_kind (hr.mono (by first | decide | omega)) (passes_call (takes_of rfl rfl rfl rfl) (fun _ _ _ _ h => h)) (pa_cons (pv 0) pa_nil)))
  (pss_cons (ps_expr (pe_calC C_need_kind (hr.mono (by first | decide | omega)) (passes_call (takes_of rfl rfl rfl rfl) (fun _ _ _ _ h => h)) (pa_cons (pv 1) pa_nil)))
  pss_never)), ?_⟩
  refine ⟨_, rfl, v, d, rfl, hd, hz, fun h1 H1 s1 => ?_, fun _ H1 s1 => q H1 s1⟩
  have n2 : isKd d2 = false := by
    rcases no with no | ⟨_, no⟩
    · rw [h1] at no; cases no
    · exact no
  exact ⟨_, rfl, v2, d2, rfl, hd2.same s1, hz2, fun h => absurd h (by rw [n2]; decide), fun _ H2 s2 => q H2 (s1.trans s2)⟩
end
/-! ## the kind of a term by what is given -/
/-- whether data are a list of kinds -/
def isKs : PyData → Bool
  | .list ds => ds.all isKd
  | _ => false
def spNks (K : PySem.W.Frag) (CN : Addr) : Sp := fun vs H Q E => ∃ v d, vs = [v] ∧ Dq K H v d ∧ sz d ≤ 1000000 ∧ (isKs d = true → ∀ H', Same H H' → Q .non H') ∧ (isKs d = false → ∀ H', Same H H' → E (.ref CN) none H')
theorem sz_mem : ∀ {ds : List PyData} {i : Nat} {d : PyData}, ds[i]? = some d → sz d ≤ szs ds
  | [], i, d, h => by cases h
  | x :: r, 0, d, h => by cases h; simp only [szs]; omega
  | x :: r, i + 1, d, h => by have := sz_mem (ds := r) (i := i) h; simp only [szs]; omega
abbrev s_need_kinds : Stmt := top 97
theorem sc_need_kinds : FnScope ["thing", "kind"] ["thing"] (defScope s_need_kinds) := ⟨rfl, rfl, rfl, by decide +kernel, rfl, by decide +kernel, by decide +kernel⟩
abbrev s_is_row : Stmt := top 120
theorem sc_is_row : FnScope ["thing"] ["thing"] (defScope s_is_row) := ⟨rfl, rfl, rfl, by decide +kernel, rfl, by decide +kernel, by decide +kernel⟩
abbrev s_need_library : Stmt := top 119
theorem sc_need_library : FnScope ["thing", "row"] ["thing"] (defScope s_need_library) := ⟨rfl, rfl, rfl, by decide +kernel, rfl, by decide +kernel, by decide +kernel⟩
section
variable {P : Program} {w : World} {K : PySem.W.Frag} {mg : Str → Option Value} {base : Heap} {CN CT CL : Addr}
theorem ok_nks (A : At K mg "need_kinds" s_need_kinds) (T : Txt K mg w CN CT) (C_need_kind : Cal P w K mg base (L2.CX P w) 4 "need_kind" ["thing"] (spNeed K CN)) : Cal P w K mg base (L2.CX P w) 5 "need_kinds" ["thing"] (spNks K CN) := by
  obtain ⟨f, fd, F, m⟩ := A
  refine ⟨f, fd, F.okX sc_need_kinds (fun vs H Q E h => ?_) (fun cdv A outer s H vs Q E hr h => ?_), F.binds (ps := ["thing"]) (fun _ _ _ _ _ _ us hl => match us, hl with | [_], _ => rfl), F.kp, m⟩
  · obtain ⟨v, d, rfl, _⟩ := h; rfl
  obtain ⟨v, d, rfl, hd, hz, q1, q2⟩ := h
  refine ⟨_, (pss_cons (ps_if (pt_cmpR op_notTyB (pe_callTy call_type1 (by rfl) T.z_type (by decide +kernel) (pa_cons (pv 0) pa_nil)) (pe_bltn (v := .ty "list") (by rfl) T.z_list (by decide +kernel) rfl) (nomark _))
   (pss_one (ps_raiseO rfl (takes_of rfl rfl rfl rfl) T.e_NoKind))
   pss_nil)
  (pss_one (ps_for (passes_of rfl) rfl (pi_list (pv 0)) (pg_name (i := 1) sc_need_kinds.nd rfl (by first | exact Or.inl rfl | exact Or.inr rfl))
   (pss_one (ps_expr (pe_calC C_need_kind (hr.mono (by first | decide | omega)) (passes_call (takes_of rfl rfl rfl rfl) (fun _ _ _ _ h => h)) (pa_cons (pv 1) pa_nil))))))), ?_⟩
  refine ⟨_, rfl, _, _, rfl, hd.ty, _, _, rfl, rfl, _, rfl, ?_⟩
  by_cases ht : tyN d = "list"
  · rw [ht]
    refine iteF ?_
    cases hd <;> simp [tyN] at ht
    rename_i a xs ds hs ha
    have hlen := ha.length
    have isk : ∀ {i : Nat} {d : PyData}, ds[i]? = some d → isKd d = false → isKs (.list ds) = false := fun {i d} e h => by
      cases c : isKs (.list ds) with
      | false => rfl
      | true =>
        have h2 : ds.all isKd = true := c
        have h3 := List.all_eq_true.mp h2 d (List.mem_of_getElem? e)
        rw [h] at h3; cases h3
    refine ⟨_, rfl, a, rfl, ⟨_, hs⟩, ?_⟩
    refine for_list (K := K) (a := a) (xs := xs) (fun i σ H' => (∃ o : Option V, σ = [some (.ref a), o]) ∧ Same H H' ∧ ∀ j d, j < i → ds[j]? = some d → isKd d = true) ⟨⟨_, rfl⟩, Same.refl _, fun j d h => by omega⟩ (fun i σ H' _ h => L2.Same.seq h.2.1 hs) ?_ ?_
    · rintro i x σ H2 hx ⟨⟨o, rfl⟩, s2, hall⟩
      obtain ⟨dx, ex, dd⟩ := ha.get hx
      have zx : sz dx ≤ 1000000 := by
        have := sz_mem ex
        simp only [sz] at hz
        omega
      refine ⟨_, rfl, x, dx, rfl, dd.same s2, zx, fun hk H3 s3 => ⟨⟨_, rfl⟩, s2.trans s3, fun j d lt e => ?_⟩, fun hk H3 s3 => q2 (isk ex hk) _ (s2.trans s3)⟩
      by_cases c : j = i
      · subst c
        rw [ex] at e
        cases e
        exact hk
      · exact hall j d (by omega) e
    · rintro σ H2 ⟨⟨o, rfl⟩, s2, hall⟩
      refine q1 ?_ _ s2
      show ds.all isKd = true
      refine List.all_eq_true.mpr fun d hd => ?_
      obtain ⟨j, lt, rfl⟩ := List.getElem_of_mem hd
      exact hall j _ (by omega) (List.getElem?_eq_getElem lt)
  · refine iteT' (by simp [ht]) (q2 ?_ _ (Same.refl _))
    cases d <;> first | rfl | (simp [tyN] at ht)
def spG (K : PySem.W.Frag) (CN : Addr) (n i : Nat) : Sp := fun vs H _ E => ∃ v d, vs.length = n ∧ vs[i]? = some v ∧ Dq K H v d ∧ sz d ≤ 1000000 ∧ isKs d = false ∧ ∀ H', Same H H' → E (.ref CN) none H'
abbrev s_term_kind : Stmt := top 96
theorem sc_term_kind : FnScope ["term", "given"] ["term", "given"] (defScope s_term_kind) := ⟨rfl, rfl, rfl, by decide +kernel, rfl, by decide +kernel, by decide +kernel⟩
theorem ok_term_kind_no (A : At K mg "term_kind" s_term_kind) (C_need_kinds : Cal P w K mg base (L2.CX P w) 5 "need_kinds" ["thing"] (spNks K CN)) : Cal P w K mg base (L2.CX P w) 6 "term_kind" ["term", "given"] (spG K CN 2 1) := by
  obtain ⟨f, fd, F, m⟩ := A
  refine ⟨f, fd, F.okX sc_term_kind (fun vs H Q E h => ?_) (fun cdv A outer s H vs Q E hr h => ?_), F.binds (ps := ["term", "given"]) (fun _ _ _ _ _ _ us hl => match us, hl with | [_, _], _ => rfl), F.kp, m⟩
  · obtain ⟨v, d, hl, _⟩ := h; exact hl
  obtain ⟨v, d, hl, hv, hd, hz, no, q⟩ := h
  match vs, hl, hv with
  | [x0, x1], _, hv =>
  cases hv
  refine ⟨_, (pss_cons (ps_expr (pe_calC C_need_kinds (hr.mono (by first | decide | omega)) (passes_call (takes_of rfl rfl rfl rfl) (fun _ _ _ _ h => h)) (pa_cons (pv 1) pa_nil)))
  pss_never), ?_⟩
  exact ⟨_, rfl, _, d, rfl, hd, hz, fun h => absurd h (by rw [no]; decide), fun _ H1 s1 => q H1 s1⟩
abbrev s_plain : Stmt := top 99
theorem sc_plain : FnScope ["term", "given"] ["term", "given"] (defScope s_plain) := ⟨rfl, rfl, rfl, by decide +kernel, rfl, by decide +kernel, by decide +kernel⟩
theorem ok_plain_no (A : At K mg "plain" s_plain) (C_need_kinds : Cal P w K mg base (L2.CX P w) 5 "need_kinds" ["thing"] (spNks K CN)) : Cal P w K mg base (L2.CX P w) 6 "plain" ["term", "given"] (spG K CN 2 1) := by
  obtain ⟨f, fd, F, m⟩ := A
  refine ⟨f, fd, F.okX sc_plain (fun vs H Q E h => ?_) (fun cdv A outer s H vs Q E hr h => ?_), F.binds (ps := ["term", "given"]) (fun _ _ _ _ _ _ us hl => match us, hl with | [_, _], _ => rfl), F.kp, m⟩
  · obtain ⟨v, d, hl, _⟩ := h; exact hl
  obtain ⟨v, d, hl, hv, hd, hz, no, q⟩ := h
  match vs, hl, hv with
  | [x0, x1], _, hv =>
  cases hv
  refine ⟨_, (pss_cons (ps_expr (pe_calC C_need_kinds (hr.mono (by first | decide | omega)) (passes_call (takes_of rfl rfl rfl rfl) (fun _ _ _ _ h => h)) (pa_cons (pv 1) pa_nil)))
  pss_never), ?_⟩
  exact ⟨_, rfl, _, d, rfl, hd, hz, fun h => absurd h (by rw [no]; decide), fun _ H1 s1 => q H1 s1⟩
abbrev s_same : Stmt := top 100
theorem sc_same : FnScope ["one", "other", "given", "one_part", "other_part"] ["one", "other", "given"] (defScope s_same) := ⟨rfl, rfl, rfl, by decide +kernel, rfl, by decide +kernel, by decide +kernel⟩
theorem ok_same_no (A : At K mg "same" s_same) (C_need_kinds : Cal P w K mg base (L2.CX P w) 5 "need_kinds" ["thing"] (spNks K CN)) : Cal P w K mg base (L2.CX P w) 6 "same" ["one", "other", "given"] (spG K CN 3 2) := by
  obtain ⟨f, fd, F, m⟩ := A
  refine ⟨f, fd, F.okX sc_same (fun vs H Q E h => ?_) (fun cdv A outer s H vs Q E hr h => ?_), F.binds (ps := ["one", "other", "given"]) (fun _ _ _ _ _ _ us hl => match us, hl with | [_, _, _], _ => rfl), F.kp, m⟩
  · obtain ⟨v, d, hl, _⟩ := h; exact hl
  obtain ⟨v, d, hl, hv, hd, hz, no, q⟩ := h
  match vs, hl, hv with
  | [x0, x1, x2], _, hv =>
  cases hv
  refine ⟨_, (pss_cons (ps_expr (pe_calC C_need_kinds (hr.mono (by first | decide | omega)) (passes_call (takes_of rfl rfl rfl rfl) (fun _ _ _ _ h => h)) (pa_cons (pv 2) pa_nil)))
  pss_never), ?_⟩
  exact ⟨_, rfl, _, d, rfl, hd, hz, fun h => absurd h (by rw [no]; decide), fun _ H1 s1 => q H1 s1⟩
/-! ## libraries -/
def rowD (p : Str × PyData) : PyData := .tuple [.str p.1, p.2]
def spRow (K : PySem.W.Frag) : Sp := fun vs H Q _ => ∃ v p, vs = [v] ∧ Dq K H v (rowD p) ∧ sz p.2 ≤ 1000000 ∧ ∀ H', Same H H' → Q (.bl (isKd p.2)) H'
theorem ixT {K : PySem.W.Frag} {W : World} {a : Addr} {xs : List V} {j : Nat} {x : V} {H : Hp} {Q : VK} (hT : SqT K H a xs) (hj : xs[j]? = some x) (q : Q x H) : rIxB K W (.ref a) (.int (j : Nat)) H Q := .inl (.inr (.inl ⟨_, _, (j : Int), _, rfl, rfl, hT, atI_nat hj, q⟩))
def spNl (K : PySem.W.Frag) (CL : Addr) : Sp := fun vs H _ E => ∃ v ps, vs = [v] ∧ Dq K H v (.list (List.map rowD ps)) ∧ ps.length ≤ 1000 ∧ (∀ p ∈ ps, sz p.2 ≤ 1000000) ∧ (∃ p ∈ ps, isKd p.2 = false) ∧ ∀ H', Same H H' → E (.ref CL) none H'
theorem ok_is_row (A : At K mg "_is_row" s_is_row) (T : TxL K mg CL) (C_is_kind : Cal P w K mg base CX0 3 "is_kind" ["thing"] (spIsKd K)) : Cal P w K mg base CX0 4 "_is_row" ["thing"] (spRow K) := by
  obtain ⟨f, fd, F, m⟩ := A
  refine ⟨f, fd, F.ok sc_is_row (fun vs H Q E h => ?_) (fun cdv A outer s H vs Q E hr h => ?_), F.binds (ps := ["thing"]) (fun _ _ _ _ _ _ us hl => match us, hl with | [_], _ => rfl), F.kp, m⟩
  · obtain ⟨v, p, rfl, _⟩ := h; rfl
  obtain ⟨v, ⟨x, d⟩, rfl, hd, hz, q⟩ := h
  refine ⟨_, (pss_one (ps_ret (pe_and (pe_cmpR op_isTyB (pe_callTy call_type1 (by rfl) T.z_type (by decide +kernel) (pa_cons (pv 0) pa_nil)) (pe_bltn (v := .ty "tuple") (by rfl) T.z_tuple (by decide +kernel) rfl) (nomark _)) (pe_and (pe_cmpR (op_eqA (room200 hr)) (pe_callB call_len (by rfl) T.z_len (by decide +kernel) (pa_cons (pv 0) pa_nil)) pe_int (nomark _)) (pe_and (pe_cmpR op_isTyB (pe_callTy call_type1 (by rfl) T.z_type (by decide +kernel) (pa_cons (pe_ix ix_B (pv 0) pe_int (fun _ _ => rfl)) pa_nil)) (pe_bltn (v := .ty "str") (by rfl) T.z_str (by decide +kernel) rfl) (nomark _)) (pe_one (pe_calC C_is_kind (hr.mono (by first | decide | omega)) pass0 (pa_cons (pe_ix ix_B (pv 0) pe_int (fun _ _ => rfl)) pa_nil)))))))), ?_⟩
  cases hd with
  | tup hs ha =>
    rename_i a xs
    have hlen := ha.length
    cases ha with
    | cons h1 h2 =>
      cases h1
      cases h2 with
      | cons h3 h4 =>
        cases h4
        rename_i u
        refine ⟨_, rfl, _, _, rfl, Dq.ty (.tup hs (.cons (.str x) (.cons h3 .nil))), _, _, rfl, rfl, _, rfl, iteT' rfl ?_⟩
        refine ⟨_, rfl, _, _, rfl, .inr ⟨_, hs, rfl⟩, .inl ⟨rfl, _, rfl, iteT' rfl ?_⟩⟩
        refine ⟨_, rfl, .inl (.inr (.inl ⟨a, _, 0, _, rfl, rfl, hs, at0 _ _, ?_⟩))⟩
        refine ⟨_, _, rfl, Dq.ty (.str x), _, _, rfl, rfl, _, rfl, iteT' rfl ?_⟩
        refine ⟨_, rfl, ixT hs (j := 1) rfl ⟨u, d, rfl, h3, hz, q⟩⟩
theorem ok_need_library (A : At K mg "_need_library" s_need_library) (T : TxL K mg CL) (C_is_row : Cal P w K mg base CX0 4 "_is_row" ["thing"] (spRow K)) : Cal P w K mg base (L2.CX P w) 5 "_need_library" ["thing"] (spNl K CL) := by
  obtain ⟨f, fd, F, m⟩ := A
  refine ⟨f, fd, F.okX sc_need_library (fun vs H Q E h => ?_) (fun cdv A outer s H vs Q E hr h => ?_), F.binds (ps := ["thing"]) (fun _ _ _ _ _ _ us hl => match us, hl with | [_], _ => rfl), F.kp, m⟩
  · obtain ⟨v, ps, rfl, _⟩ := h; rfl
  obtain ⟨v, ps, rfl, hd, hle, hz, no, q⟩ := h
  refine ⟨_, (pss_cons (ps_if (PW.pt (pw_or (pt_cmpR op_notTyB (pe_callTy call_type1 (by rfl) T.z_type (by decide +kernel) (pa_cons (pv 0) pa_nil)) (pe_bltn (v := .ty "list") (by rfl) T.z_list (by decide +kernel) rfl) (nomark _)) (pw_or1 (pt_not (pt_val (pe_callB (cr_all rfl) (by rfl) T.z_all (by decide +kernel) (pa_cons (pe_lc (own := [("row", 1)]) (g := gName 1) (tt := tYes) (by rfl) sc_need_library.nd (pi_list (pv 0)) (blkOk_by (own := [("row", 1)]) (N := ["thing", "row"]) (sc := defScope s_need_library) (by decide +kernel)) (fun _ _ _ _ _ => (pg_name (i := 1) sc_need_library.nd rfl (by first | exact Or.inl rfl | exact Or.inr rfl))) (fun _ _ _ _ _ => pts_nil) (fun _ _ _ _ _ => (pe_calC C_is_row (hr.mono (by first | decide | omega)) pass0 (pa_cons (pv 1) pa_nil)))) pa_nil)))))))
   (pss_one (ps_raiseO rfl (takes_of rfl rfl rfl rfl) T.e_NoLibrary))
   pss_nil)
  pss_never), ?_⟩
  cases hd with
  | lst hs ha =>
  rename_i a xs
  refine ⟨_, rfl, _, _, rfl, Dq.ty (.lst hs ha), _, _, rfl, rfl, _, rfl, iteF' rfl ?_⟩
  have hlen := ha.length
  rw [List.length_map] at hlen
  refine ⟨_, rfl, a, rfl, ⟨_, hs⟩, fun D hD => ?_⟩
  refine lc_list (K := K) (a := a) (xs := xs) (fun j H' => H' D = some (.lst (((ps.take j).map fun p => isKd p.2).map V.bl)) ∧ Same H (out D H')) ⟨upd_same, same_out hD (same_new hD _)⟩ (fun j H' _ h => L2.Same.seq (of_out h.2) hs) ?_ ?_
  · rintro i x H2 hx ⟨e2, s2⟩
    obtain ⟨dx, ex, dd⟩ := ha.get hx
    rw [List.getElem?_map] at ex
    obtain ⟨p, ep, rfl⟩ := Option.map_eq_some_iff.mp ex
    refine ⟨rfl, _, rfl, x, p, rfl, dd.same (of_out s2), hz p (List.mem_of_getElem? ep), fun H3 s3 => ⟨_, s3 _ _ e2, ?_, ?_, ?_⟩⟩
    · simp only [List.length_map, List.length_take]
      have : (1000 : Nat) < sizeLine := by decide
      omega
    · rw [upd_same, List.take_add_one, ep]
      simp
    · exact s2.trans ((out_same s3).trans (out_set _))
  · rintro H2 ⟨e2, s2⟩
    rw [List.take_of_length_le (by omega)] at e2
    refine ⟨D, _, rfl, .of e2, ?_⟩
    refine ⟨_, rfl, iteT' ?_ (q _ (of_out s2))⟩
    obtain ⟨p, hp, hk⟩ := no
    have : ((ps.map fun p => isKd p.2).all id) = false := by
      rw [List.all_eq_false]
      exact ⟨false, List.mem_map.mpr ⟨p, hp, hk⟩, by simp⟩
    rw [this]; rfl
def spSl (K : PySem.W.Frag) (CL : Addr) (n : Nat) : Sp := fun vs H _ E => ∃ v u r ps d, vs = v :: u :: r ∧ r.length = n ∧ Dq K H v (.list (List.map rowD ps)) ∧ Dq K H u d ∧ sz d ≤ 1000000 ∧ isKd d = true ∧ ps.length ≤ 1000 ∧ (∀ p ∈ ps, sz p.2 ≤ 1000000) ∧ (∃ p ∈ ps, isKd p.2 = false) ∧ ∀ H', Same H H' → E (.ref CL) none H'
theorem ok_search_nl (A : At K mg "search" s_search) (C_need_kind : Cal P w K mg base (L2.CX P w) 4 "need_kind" ["thing"] (spNeed K CN)) (C_need_library : Cal P w K mg base (L2.CX P w) 5 "_need_library" ["thing"] (spNl K CL)) : Cal P w K mg base (L2.CX P w) 6 "search" ["library", "kind"] (spSl K CL 0) := by
  obtain ⟨f, fd, F, m⟩ := A
  refine ⟨f, fd, F.okX sc_search (fun vs H Q E h => ?_) (fun cdv A outer s H vs Q E hr h => ?_), F.binds (ps := ["library", "kind"]) (fun _ _ _ _ _ _ us hl => match us, hl with | [_, _], _ => rfl), F.kp, m⟩
  · obtain ⟨v, u, r, ps, d, rfl, hl, _⟩ := h; simp [hl]
  obtain ⟨v, u, r, ps, d, rfl, hl, hd, hu, hz, ok, hle, hzs, no, q⟩ := h
  match r, hl with
  | [], _ =>
  refine ⟨_, (pss_cons (ps_expr (pe_calC C_need_kind (hr.mono (by first | decide | omega)) (passes_call (takes_of rfl rfl rfl rfl) (fun _ _ _ _ h => h)) (pa_cons (pv 1) pa_nil)))
  (pss_cons (ps_expr (pe_calC C_need_library (hr.mono (by first | decide | omega)) (passes_call (takes_of rfl rfl rfl rfl) (fun _ _ _ _ h => h)) (pa_cons (pv 0) pa_nil)))
  pss_never)), ?_⟩
  refine ⟨_, rfl, u, d, rfl, hu, hz, fun _ H1 s1 => ?_, fun h => absurd ok (by rw [h]; decide)⟩
  exact ⟨_, rfl, v, ps, rfl, hd.same s1, hle, hzs, no, fun H2 s2 => q H2 (s1.trans s2)⟩
theorem ok_search_fault_nl (A : At K mg "search_fault" s_search_fault) (C_need_kind : Cal P w K mg base (L2.CX P w) 4 "need_kind" ["thing"] (spNeed K CN)) (C_need_library : Cal P w K mg base (L2.CX P w) 5 "_need_library" ["thing"] (spNl K CL)) : Cal P w K mg base (L2.CX P w) 6 "search_fault" ["library", "kind", "name", "thing"] (spSl K CL 2) := by
  obtain ⟨f, fd, F, m⟩ := A
  refine ⟨f, fd, F.okX sc_search_fault (fun vs H Q E h => ?_) (fun cdv A outer s H vs Q E hr h => ?_), F.binds (ps := ["library", "kind", "name", "thing"]) (fun _ _ _ _ _ _ us hl => match us, hl with | [_, _, _, _], _ => rfl), F.kp, m⟩
  · obtain ⟨v, u, r, ps, d, rfl, hl, _⟩ := h; simp [hl]
  obtain ⟨v, u, r, ps, d, rfl, hl, hd, hu, hz, ok, hle, hzs, no, q⟩ := h
  match r, hl with
  | [y0, y1], _ =>
  refine ⟨_, (pss_cons (ps_expr (pe_calC C_need_kind (hr.mono (by first | decide | omega)) (passes_call (takes_of rfl rfl rfl rfl) (fun _ _ _ _ h => h)) (pa_cons (pv 1) pa_nil)))
  (pss_cons (ps_expr (pe_calC C_need_library (hr.mono (by first | decide | omega)) (passes_call (takes_of rfl rfl rfl rfl) (fun _ _ _ _ h => h)) (pa_cons (pv 0) pa_nil)))
  pss_never)), ?_⟩
  refine ⟨_, rfl, u, d, rfl, hu, hz, fun _ H1 s1 => ?_, fun h => absurd ok (by rw [h]; decide)⟩
  exact ⟨_, rfl, v, ps, rfl, hd.same s1, hle, hzs, no, fun H2 s2 => q H2 (s1.trans s2)⟩
end
/-! ## what was put together stays -/
structure Kp (K : PySem.W.Frag) (wl : Addr) (H0 H : Hp) (fs : List (V × PyData)) : Prop where
  aft : Aft wl H0 H
  all : ∀ p ∈ fs, Dq K (out wl H) p.1 p.2
section
variable {K : PySem.W.Frag} {wl : Addr} {H0 H H' : Hp} {fs : List (V × PyData)}
theorem Kp.start (w : Well H wl) : Kp K wl H H [] := ⟨Aft.refl w, fun p h => by cases h⟩
theorem Kp.aft' (S : Kp K wl H0 H fs) (a : Aft wl H H') : Kp K wl H0 H' fs := ⟨S.aft.trans a, fun p hp => (S.all p hp).same a.but⟩
theorem Kp.put (S : Kp K wl H0 H fs) {v : V} {d : PyData} (h : Dq K (out wl H) v d) : Kp K wl H0 H ((v, d) :: fs) := ⟨S.aft, fun p hp => by
  rcases List.mem_cons.mp hp with rfl | hp
  · exact h
  · exact S.all p hp⟩
theorem Kp.tup (S : Kp K wl H0 H fs) {p : Addr} (hp : H p = none) {xs : List V} {ds : List PyData} (a : DqAll K (out wl H) xs ds) : Kp K wl H0 (upd H p (.tup xs)) ((.ref p, .tuple ds) :: fs) :=
  (S.aft' ((Aft.refl S.aft.well).new hp _)).put (.tup (.of (S.aft.well.laid hp _)) (a.same (out_new hp _)))
theorem Kp.lst (S : Kp K wl H0 H fs) {p : Addr} (hp : H p = none) {xs : List V} {ds : List PyData} (a : DqAll K (out wl H) xs ds) : Kp K wl H0 (upd H p (.lst xs)) ((.ref p, .list ds) :: fs) :=
  (S.aft' ((Aft.refl S.aft.well).new hp _)).put (.lst (.of (S.aft.well.laid hp _)) (a.same (out_new hp _)))
theorem Kp.dct (S : Kp K wl H0 H fs) {p : Addr} (hp : H p = none) : Kp K wl H0 (upd H p (.dK [])) ((.ref p, .dict []) :: fs) :=
  (S.aft' ((Aft.refl S.aft.well).new hp _)).put (.dct (S.aft.well.laid hp _))
theorem Kp.sub (S : Kp K wl H0 H fs) {gs : List (V × PyData)} (h : ∀ p ∈ gs, p ∈ fs) : Kp K wl H0 H gs := ⟨S.aft, fun p hp => S.all p (h p hp)⟩
theorem Kp.here {v : V} {d : PyData} (S : Kp K wl H0 H ((v, d) :: fs)) : Dq K (out wl H) v d := S.all _ List.mem_cons_self
theorem Kp.tail {p : V × PyData} (S : Kp K wl H0 H (p :: fs)) : Kp K wl H0 H fs := S.sub fun q hq => List.mem_cons_of_mem _ hq
theorem two {v1 v2 : V} {d1 d2 : PyData} (a : Dq K H v1 d1) (b : Dq K H v2 d2) : DqAll K H [v1, v2] [d1, d2] := .cons a (.cons b .nil)
theorem Aft.app {l p : Addr} {o1 o2 o3 : HO} (w : Well H wl) (hl : H l = none) (hp : upd H l o1 p = none) : Aft wl H (upd (upd (upd H l o1) p o2) l o3) := by
  have e : ∀ b o, H b = some o → upd (upd (upd H l o1) p o2) l o3 b = some o := fun b o h => by
    have n1 : b ≠ l := ne_of_none h hl
    have n2 : b ≠ p := ne_of_none (by rw [upd_ne n1]; exact h : upd H l o1 b = some o) hp
    rw [upd_ne n1, upd_ne n2, upd_ne n1]; exact h
  refine ⟨?_, fun b o h => ?_⟩
  · obtain ⟨x, y, z, h⟩ := w
    exact ⟨x, y, z, e _ _ h⟩
  · have h2 := out_some h
    exact out_at h2.1 (e _ _ h2.2)
theorem cat_q {x y : V} {ds es : List PyData} {Q : VK} (S : Kp K wl H0 H fs) (h1 : Dq K (out wl H) x (.tuple ds)) (h2 : Dq K (out wl H) y (.tuple es)) (hz : ds.length + es.length ≤ 2000000) (q : ∀ v H', Aft wl H H' → Dq K (out wl H') v (.tuple (ds ++ es)) → Q v H') : KB.rCatA K x y H Q := by
  have h1' := h1
  have h2' := h2
  have hw := S.aft.well
  cases h1 with
  | tup s1 a1 =>
    cases h2 with
    | tup s2 a2 =>
      have l1 := a1.length
      have l2 := a2.length
      refine ⟨_, _, _, _, rfl, rfl, KB.Same.tup (out_sub wl H) s1, KB.Same.tup (out_sub wl H) s2, by omega, fun e => ?_, fun _ e => ?_, fun _ _ p hp => ?_⟩
      · refine q _ _ (Aft.refl hw) ?_
        subst e
        cases a1
        exact h2'
      · refine q _ _ (Aft.refl hw) ?_
        subst e
        cases a2
        rw [List.append_nil]
        exact h1'
      · exact q _ _ ((Aft.refl hw).new hp _) (.tup (.of (hw.laid hp _)) ((a1.append a2).same (out_new hp _)))
theorem cut_q {x : V} {ds : List PyData} {lo hi : Option Int} {Q : VK} (S : Kp K wl H0 H fs) (h1 : Dq K (out wl H) x (.tuple ds))
    (q : ∀ v H', Aft wl H H' → Dq K (out wl H') v (.tuple ((ds.drop (HT.sIx ds.length 0 lo)).take (HT.sIx ds.length ds.length hi - HT.sIx ds.length 0 lo))) → Q v H') : L2.rSlA K x lo hi H Q := by
  have h1' := h1
  have hw := S.aft.well
  cases h1 with
  | tup s1 a1 =>
    have l1 := a1.length
    refine ⟨_, _, rfl, KB.Same.tup (out_sub wl H) s1, fun e => ?_, fun _ p hp => ?_⟩
    · refine q _ _ (Aft.refl hw) ?_
      rw [l1] at e
      rw [e.1, e.2, List.drop_zero, Nat.sub_zero, List.take_of_length_le (Nat.le_refl _)]
      exact h1'
    · refine q _ _ ((Aft.refl hw).new hp _) ?_
      unfold cutV
      rw [l1]
      exact .tup (.of (hw.laid hp _)) (((a1.drop _).take _).same (out_new hp _))
theorem cat_l {l b : Addr} {us zs : List V} {Q : VK} (e1 : H l = some (.lst us)) (e2 : H b = some (.lst zs)) (hz : us.length + zs.length ≤ 1000) (q : ∀ p, H p = none → Q (.ref p) (upd H p (.lst (us ++ zs)))) : rAddA K (.ref l) (.ref b) H Q :=
  .inr (.inr (.inl ⟨l, b, us, zs, rfl, rfl, e1, e2, Nat.le_trans hz (by decide), q⟩))
/-- LIST[i] -/
theorem ix_q {W : World} {v : V} {ds : List PyData} {i : Int} {Q : VK} (h : Dq K (out wl H) v (.list ds)) (h0 : 0 ≤ i) (h1 : i < (ds.length : Nat)) (q : ∀ x d, ds[i.toNat]? = some d → Dq K (out wl H) x d → Q x H) : rIxB K W v (.int i) H Q := by
  cases h with
  | lst hs ha =>
    rename_i a xs
    have hl := ha.length
    obtain ⟨d, ed⟩ : ∃ d, ds[i.toNat]? = some d := ⟨_, List.getElem?_eq_getElem (by omega)⟩
    obtain ⟨x, ex, hx⟩ : ∃ x, xs[i.toNat]? = some x ∧ Dq K (out wl H) x d := by
      obtain ⟨x, ex⟩ : ∃ x, xs[i.toNat]? = some x := ⟨_, List.getElem?_eq_getElem (by omega)⟩
      obtain ⟨d', ed', hx⟩ := ha.get ex
      rw [ed] at ed'; cases ed'
      exact ⟨x, ex, hx⟩
    have hi : i = ((i.toNat : Nat) : Int) := by omega
    rw [hi]
    exact ixLi (L2.Same.seq (out_sub wl H) hs) ex (q x d ed hx)
end
/-! ## a kind so deep -/
def spDeepK (K : PySem.W.Frag) : Sp := fun vs H Q _ => ∃ (wl : Addr) (n : Int), vs = [.ref wl, .int n] ∧ Well H wl ∧ 0 ≤ n ∧ n ≤ 12 ∧ ∀ (k : Kd) (v : V) (H' : Hp), k.ok → k.leaves ≤ 25 → Dq K (out wl H') v k.dat → Aft wl H H' → Q v H'
def DeepI (K : PySem.W.Frag) (wl : Addr) (n : Int) (H : Hp) (i : Nat) (σ : L2.St) (H' : Hp) : Prop :=
  ∃ (v : V) (k : Kd) (o3 o4 o5 : Option V), σ = [some (.ref wl), some (.int n), some v, o3, o4, o5] ∧ Kp K wl H H' [(v, k.dat)] ∧ k.ok ∧ k.leaves ≤ 2 * i + 1
abbrev s_law_deep : Stmt := top 132
theorem sc_law_deep : FnScope ["well", "deep", "kind", "turn", "side", "word"] ["well", "deep"] (defScope s_law_deep) := ⟨rfl, rfl, rfl, by decide +kernel, rfl, by decide +kernel, by decide +kernel⟩
section
variable {P : Program} {w : World} {K : PySem.W.Frag} {mg : Str → Option Value} {base : Heap} {CN CT : Addr}
theorem ok_deep (A : At K mg "_law_deep" s_law_deep) (T : Txt K mg w CN CT) (C_law_draw : Cal P w K mg base CX0 1 "_law_draw" ["well", "width"] spDraw) : Cal P w K mg base CX0 2 "_law_deep" ["well", "deep"] (spDeepK K) := by
  obtain ⟨f, fd, F, m⟩ := A
  refine ⟨f, fd, F.ok sc_law_deep (fun vs H Q E h => ?_) (fun cdv A outer s H vs Q E hr h => ?_), F.binds (ps := ["well", "deep"]) (fun _ _ _ _ _ _ us hl => match us, hl with | [_, _], _ => rfl), F.kp, m⟩
  · obtain ⟨w, n, rfl, _⟩ := h; rfl
  obtain ⟨wl, n, rfl, hw, n0, n1, q⟩ := h
  refine ⟨_, (pss_cons (ps_set (i := 2) sc_law_deep.nd rfl (by first | exact Or.inl rfl | exact Or.inr rfl) (pe_ix ix_B (pe_lst (pa_cons (pe_tup (pa_cons pe_str pa_nil)) (pa_cons (pe_tup (pa_cons pe_str (pa_cons (pe_calC C_law_draw (hr.mono (by first | decide | omega)) pass0 (pa_cons (pv 0) (pa_cons pe_int pa_nil))) pa_nil))) pa_nil))) (pe_calC C_law_draw (hr.mono (by first | decide | omega)) pass0 (pa_cons (pv 0) (pa_cons pe_int pa_nil))) (fun _ _ => rfl)))
  (pss_cons (ps_for PassesOwn.never rfl (pi_range1 (by rfl) T.z_range (pa_cons (pv 1) pa_nil)) (pg_name (i := 3) sc_law_deep.nd rfl (by first | exact Or.inl rfl | exact Or.inr rfl))
   (pss_cons (ps_set (i := 4) sc_law_deep.nd rfl (by first | exact Or.inl rfl | exact Or.inr rfl) (pe_ix ix_B (pe_lst (pa_cons (pe_tup (pa_cons pe_str pa_nil)) (pa_cons (pe_tup (pa_cons pe_str (pa_cons (pe_calC C_law_draw (hr.mono (by first | decide | omega)) pass0 (pa_cons (pv 0) (pa_cons pe_int pa_nil))) pa_nil))) (pa_cons (pe_tup (pa_cons pe_str (pa_cons (pe_tup (pa_cons pe_str (pa_cons pe_int pa_nil))) (pa_cons (pe_tup (pa_cons pe_str pa_nil)) pa_nil)))) pa_nil)))) (pe_calC C_law_draw (hr.mono (by first | decide | omega)) pass0 (pa_cons (pv 0) (pa_cons pe_int pa_nil))) (fun _ _ => rfl)))
  (pss_cons (ps_set (i := 5) sc_law_deep.nd rfl (by first | exact Or.inl rfl | exact Or.inr rfl) (pe_ix ix_B (pe_lst (pa_cons pe_str (pa_cons pe_str pa_nil))) (pe_calC C_law_draw (hr.mono (by first | decide | omega)) pass0 (pa_cons (pv 0) (pa_cons pe_int pa_nil))) (fun _ _ => rfl)))
  (pss_one (ps_set (i := 2) sc_law_deep.nd rfl (by first | exact Or.inl rfl | exact Or.inr rfl) (pe_ix ix_B (pe_lst (pa_cons (pe_tup (pa_cons (pv 5) (pa_cons (pv 2) (pa_cons (pv 4) pa_nil)))) (pa_cons (pe_tup (pa_cons (pv 5) (pa_cons (pv 4) (pa_cons (pv 2) pa_nil)))) pa_nil))) (pe_calC C_law_draw (hr.mono (by first | decide | omega)) pass0 (pa_cons (pv 0) (pa_cons pe_int pa_nil))) (fun _ _ => rfl)))))))
  (pss_one (ps_ret (pv 2))))), ?_⟩
  have S0 : Kp K wl H H [] := Kp.start hw
  refine ⟨(by show 1 ≤ sizeLine; decide), fun p1 hp1 => ?_⟩
  have S1 := S0.tup hp1 (.cons (.str "unit") .nil)
  refine ⟨_, rfl, wl, 8, rfl, S1.aft.well, by decide, by decide, fun d H1 d0 d1 a1 => ?_⟩
  have S2 := S1.aft' a1
  refine ⟨(by show 2 ≤ sizeLine; decide), fun p2 hp2 => ?_⟩
  have S3 := S2.tup hp2 (two (.str "base") (.int d))
  refine ⟨(by show 2 ≤ sizeLine; decide), fun l hl => ?_⟩
  have S4 := S3.lst hl (two (S3.all (.ref p1, .tuple [.str "unit"]) (by simp)) S3.here)
  refine ⟨_, rfl, wl, 2, rfl, S4.aft.well, by decide, by decide, fun i H2 i0 i1 a2 => ?_⟩
  have S5 := S4.aft' a2
  refine ix_q S5.here i0 (by simpa using i1) fun x dd ed hx => ?_
  have S6 : Kp K wl H H2 [(x, dd)] := ((Kp.put S5 hx).sub fun p hp => by rw [List.mem_singleton.mp hp]; exact List.mem_cons_self)
  obtain ⟨k, ok, lk, rfl⟩ : ∃ k : Kd, k.ok ∧ k.leaves ≤ 1 ∧ dd = k.dat := by
    have e : i = 0 ∨ i = 1 := by omega
    rcases e with rfl | rfl
    · cases ed; exact ⟨.u, trivial, by simp [Kd.leaves], rfl⟩
    · cases ed; exact ⟨.b d.toNat, by show d.toNat < 8; omega, by simp [Kd.leaves], by rw [show d = ((d.toNat : Nat) : Int) by omega]; rfl⟩
  refine ⟨_, rfl, n, rfl, by omega, by omega, ?_⟩
  refine for_range (n := n.toNat) (DeepI K wl n H) ⟨x, k, _, _, _, rfl, S6, ok, by omega⟩ ?_ ?_
  · rintro j σ H3 hj ⟨v, k, o3, o4, o5, rfl, T0, ok, lk⟩
    refine ⟨(by show 1 ≤ sizeLine; decide), fun p1 hp1 => ?_⟩
    have T1 := T0.tup hp1 (.cons (.str "unit") .nil)
    refine ⟨_, rfl, wl, 8, rfl, T1.aft.well, by decide, by decide, fun d H4 d0 d1 a4 => ?_⟩
    have T2 := T1.aft' a4
    refine ⟨(by show 2 ≤ sizeLine; decide), fun p2 hp2 => ?_⟩
    have T3 := T2.tup hp2 (two (.str "base") (.int d))
    refine ⟨(by show 2 ≤ sizeLine; decide), fun p3 hp3 => ?_⟩
    have T4 := T3.tup hp3 (two (.str "base") (.int 1))
    refine ⟨(by show 1 ≤ sizeLine; decide), fun p4 hp4 => ?_⟩
    have T5 := T4.tup hp4 (.cons (.str "unit") .nil)
    refine ⟨(by show 3 ≤ sizeLine; decide), fun p5 hp5 => ?_⟩
    have T6 := T5.tup hp5 (.cons (.str "both") (two T5.tail.here T5.here))
    refine ⟨(by show 3 ≤ sizeLine; decide), fun l hl => ?_⟩
    have T7 := T6.lst hl (.cons (T6.all (.ref p1, .tuple [.str "unit"]) (by simp)) (two (T6.all (.ref p2, .tuple [.str "base", .int d]) (by simp)) T6.here))
    refine ⟨_, rfl, wl, 3, rfl, T7.aft.well, by decide, by decide, fun i H5 i0 i1 a5 => ?_⟩
    have T8 := T7.aft' a5
    refine ix_q T8.here i0 (by simpa using i1) fun y dd ed hy => ?_
    obtain ⟨k2, ok2, lk2, rfl⟩ : ∃ k : Kd, k.ok ∧ k.leaves ≤ 2 ∧ dd = k.dat := by
      have e : i = 0 ∨ i = 1 ∨ i = 2 := by omega
      rcases e with rfl | rfl | rfl
      · cases ed; exact ⟨.u, trivial, by simp [Kd.leaves], rfl⟩
      · cases ed; exact ⟨.b d.toNat, by show d.toNat < 8; omega, by simp [Kd.leaves], by rw [show d = ((d.toNat : Nat) : Int) by omega]; rfl⟩
      · cases ed; exact ⟨.p (.b 1) .u, ⟨by show 1 < 8; decide, trivial⟩, by simp [Kd.leaves], rfl⟩
    have T9 : Kp K wl H H5 [(y, k2.dat), (v, k.dat)] := (Kp.put T8 hy).sub fun p hp => by
      simp only [List.mem_cons, List.not_mem_nil, or_false] at hp ⊢
      rcases hp with rfl | rfl <;> simp
    refine ⟨(by show 2 ≤ sizeLine; decide), fun l2 hl2 => ?_⟩
    have U1 := T9.lst hl2 (two (.str "both") (.str "from"))
    refine ⟨_, rfl, wl, 2, rfl, U1.aft.well, by decide, by decide, fun i2 H6 i20 i21 a6 => ?_⟩
    have U2 := U1.aft' a6
    refine ix_q U2.here i20 (by simpa using i21) fun z ww ew hw2 => ?_
    obtain ⟨ws, rfl, rfl, hws⟩ : ∃ ws : Str, ww = .str ws ∧ z = .str ws ∧ (ws = "both" ∨ ws = "from") := by
      have e : i2 = 0 ∨ i2 = 1 := by omega
      rcases e with rfl | rfl <;> cases ew <;> cases hw2
      · exact ⟨_, rfl, rfl, .inl rfl⟩
      · exact ⟨_, rfl, rfl, .inr rfl⟩
    have U3 := U2.tail
    refine ⟨_, rfl, _, rfl, _, rfl, (by show 3 ≤ sizeLine; decide), fun p6 hp6 => ?_⟩
    have U4 := U3.tup hp6 (.cons (.str ws) (two (U3.all (v, k.dat) (by simp)) U3.here))
    refine ⟨_, rfl, _, rfl, _, rfl, (by show 3 ≤ sizeLine; decide), fun p7 hp7 => ?_⟩
    have U5 := U4.tup hp7 (.cons (.str ws) (two (U4.all (y, k2.dat) (by simp)) (U4.all (v, k.dat) (by simp))))
    refine ⟨(by show 2 ≤ sizeLine; decide), fun l3 hl3 => ?_⟩
    have U6 := U5.lst hl3 (two (U5.tail.here) U5.here)
    refine ⟨_, rfl, wl, 2, rfl, U6.aft.well, by decide, by decide, fun i3 H7 i30 i31 a7 => ?_⟩
    have U7 := U6.aft' a7
    refine ix_q U7.here i30 (by simpa using i31) fun x2 d2 e2 hx2 => ?_
    obtain ⟨k3, ok3, lk3, rfl⟩ : ∃ k3 : Kd, k3.ok ∧ k3.leaves ≤ 2 * (j + 1) + 1 ∧ d2 = k3.dat := by
      have e : i3 = 0 ∨ i3 = 1 := by omega
      rcases e with rfl | rfl <;> cases e2 <;> rcases hws with rfl | rfl
      · exact ⟨.p k k2, ⟨ok, ok2⟩, by simp only [Kd.leaves]; omega, rfl⟩
      · exact ⟨.f k k2, ⟨ok, ok2⟩, by simp only [Kd.leaves]; omega, rfl⟩
      · exact ⟨.p k2 k, ⟨ok2, ok⟩, by simp only [Kd.leaves]; omega, rfl⟩
      · exact ⟨.f k2 k, ⟨ok2, ok⟩, by simp only [Kd.leaves]; omega, rfl⟩
    exact ⟨x2, k3, _, _, _, rfl, (Kp.put U7 hx2).sub fun p hp => by rw [List.mem_singleton.mp hp]; exact List.mem_cons_self, ok3, lk3⟩
  · rintro σ H3 ⟨v, k, o3, o4, o5, rfl, T0, ok, lk⟩
    refine ⟨_, rfl, q k v H3 ok (by omega) T0.here T0.aft⟩
end
/-! ## what is no kind, made of a kind -/
def spOddK (K : PySem.W.Frag) : Sp := fun vs H Q _ => ∃ (wl : Addr) (v : V) (k : Kd), vs = [.ref wl, v] ∧ Well H wl ∧ Dq K (out wl H) v k.dat ∧ k.ok ∧ k.leaves ≤ 25 ∧ ∀ (d : PyData) (v' : V) (H' : Hp), isKd d = false → sz d ≤ 2 * sz k.dat + 10 → Dq K (out wl H') v' d → Aft wl H H' → Q v' H'
abbrev s_law_odd : Stmt := top 133
theorem sc_law_odd : FnScope ["well", "kind", "some"] ["well", "kind"] (defScope s_law_odd) := ⟨rfl, rfl, rfl, by decide +kernel, rfl, by decide +kernel, by decide +kernel⟩
section
variable {P : Program} {w : World} {K : PySem.W.Frag} {mg : Str → Option Value} {base : Heap} {CN CT : Addr}
theorem dat_t (k : Kd) : ∃ ds, k.dat = .tuple ds ∧ ds.length ≤ 3 := by cases k <;> exact ⟨_, rfl, by simp⟩
def BadK (k : Kd) (d : PyData) : Prop := isKd d = false ∧ sz d ≤ 2 * sz k.dat + 10
theorem bad3 (k : Kd) (ds0 : List PyData) (e0 : k.dat = .tuple ds0) (d : PyData) (h : d ∈ [.list ds0, .tuple ((ds0.drop (HT.sIx ds0.length 0 none)).take (HT.sIx ds0.length ds0.length (some (-1)) - HT.sIx ds0.length 0 none)), .tuple (ds0 ++ [.tuple [.str "unit"]]), .tuple [], .none, .int 7, .str "a", .bool true, .dict [], .tuple [.str "units"], .tuple [.tuple ds0]]) : BadK k d := by
  have sp := sz_pos k.dat
  have e1 : sz k.dat = sz (.tuple ds0) := by rw [e0]
  simp only [List.mem_cons, List.not_mem_nil, or_false] at h
  rcases h with rfl | rfl | rfl | rfl | rfl | rfl | rfl | rfl | rfl | rfl | rfl
  · exact ⟨by rw [isKd_turn]; rfl, by rw [e1]; simp only [sz]; omega⟩
  · refine ⟨?_, ?_⟩
    · cases k <;> cases e0 <;> (rw [isKd_turn]; rfl)
    · cases k <;> cases e0 <;> (show sz (.tuple _) ≤ _; simp [HT.sIx, sz, szs, Kd.dat] <;> omega)
  · refine ⟨?_, ?_⟩
    · cases k <;> cases e0 <;> (rw [isKd_turn]; rfl)
    · rw [e1]; simp only [sz, szs_append, szs]; omega
  all_goals first
    | exact ⟨by rw [isKd_turn]; rfl, by rw [e1]; simp only [sz, szs]; omega⟩
    | exact ⟨by decide +kernel, by simp only [sz, szs]; omega⟩
theorem bad4 (k : Kd) (ds0 : List PyData) (e0 : k.dat = .tuple ds0) (d : PyData) (h : d ∈ [.tuple [.str "base"], .tuple [.str "base", .int 1, .int 2], .tuple [.str "unit", .tuple [.str "unit"]], .tuple [.str "Both", .tuple ds0, .tuple ds0], .tuple [.str "both", .tuple ds0], .tuple [.none, .tuple ds0]]) : BadK k d := by
  have sp := sz_pos k.dat
  have e1 : sz k.dat = sz (.tuple ds0) := by rw [e0]
  simp only [List.mem_cons, List.not_mem_nil, or_false] at h
  rcases h with rfl | rfl | rfl | rfl | rfl | rfl
  all_goals first
    | exact ⟨by rw [isKd_turn]; rfl, by rw [e1]; simp only [sz, szs]; omega⟩
    | exact ⟨by decide +kernel, by simp only [sz, szs]; omega⟩
def OdI (K : PySem.W.Frag) (wl : Addr) (v : V) (k : Kd) (H : Hp) (Q : VK) (n : Nat) : TS := fun D σ H1 => ∃ (ol : Addr) (us : List V) (ds : List PyData), σ = [some (.ref wl), some v, some (.ref ol)] ∧ Kp K wl H H1 [(v, k.dat)] ∧ ol ≠ wl ∧ H1 ol = some (.lst us) ∧ DqAll K (out wl H1) us ds ∧ ds.length = n ∧ (∀ d ∈ ds, BadK k d) ∧ ∀ v' H', Q v' H' → D.rt v' H'
theorem ok_odd (A : At K mg "_law_odd" s_law_odd) (T : Txt K mg w CN CT) (C_law_draw : Cal P w K mg base CX0 1 "_law_draw" ["well", "width"] spDraw) : Cal P w K mg base CX0 2 "_law_odd" ["well", "kind"] (spOddK K) := by
  obtain ⟨f, fd, F, m⟩ := A
  refine ⟨f, fd, F.ok sc_law_odd (fun vs H Q E h => ?_) (fun cdv A outer s H vs Q E hr h => ?_), F.binds (ps := ["well", "kind"]) (fun _ _ _ _ _ _ us hl => match us, hl with | [_, _], _ => rfl), F.kp, m⟩
  · obtain ⟨w, v, k, rfl, _⟩ := h; rfl
  obtain ⟨wl, v, k, rfl, hw, hd, ok, lk, q⟩ := h
  refine ⟨_, (pss_cons (ps_set (i := 2) sc_law_odd.nd rfl (by first | exact Or.inl rfl | exact Or.inr rfl) (pe_lst (pa_cons (pe_tup (pa_cons pe_str (pa_cons pe_int pa_nil))) (pa_cons (pe_tup (pa_cons pe_str (pa_cons (pe_un un_neg pe_int) pa_nil))) (pa_cons (pe_tup (pa_cons pe_str (pa_cons pe_bl pa_nil))) (pa_cons (pe_tup (pa_cons pe_str (pa_cons pe_str pa_nil))) (pa_cons (pe_tup (pa_cons pe_str (pa_cons pe_non pa_nil))) (pa_cons (pe_tup (pa_cons pe_str (pa_cons (pe_tup (pa_cons pe_int pa_nil)) pa_nil))) pa_nil))))))))
  (pss_cons (ps_expr (pe_bm PySem.F.plainAttrs_list PySem.F.slot_list_append PySem.F.type_list_append mt_append (pv 2) (pa_cons (pe_tup (pa_cons pe_str (pa_cons (pe_op op_pow pe_int pe_int) pa_nil))) pa_nil)))
  (pss_gen (I := (OdI K wl v k H Q 7)) (pss_cons (ps_set (i := 2) sc_law_odd.nd rfl (by first | exact Or.inl rfl | exact Or.inr rfl) (pe_op op_addA (pv 2) (pe_lst (pa_cons (pe_callTy call_list_of (by rfl) T.z_list (by decide +kernel) (pa_cons (pv 1) pa_nil)) (pa_cons (pe_slice sl_tupA (pv 1) po_none (po_some (pe_un un_neg pe_int))) (pa_cons (pe_op op_catD (pv 1) (pe_tup (pa_cons (pe_tup (pa_cons pe_str pa_nil)) pa_nil))) (pa_cons (pe_tup pa_nil) (pa_cons pe_non (pa_cons pe_int (pa_cons pe_str (pa_cons pe_bl (pa_cons pe_dnewK (pa_cons (pe_tup (pa_cons pe_str pa_nil)) (pa_cons (pe_tup (pa_cons (pv 1) pa_nil)) pa_nil))))))))))))))
  (pss_gen (I := (OdI K wl v k H Q 18)) (pss_cons (ps_set (i := 2) sc_law_odd.nd rfl (by first | exact Or.inl rfl | exact Or.inr rfl) (pe_op op_addA (pv 2) (pe_lst (pa_cons (pe_tup (pa_cons pe_str pa_nil)) (pa_cons (pe_tup (pa_cons pe_str (pa_cons pe_int (pa_cons pe_int pa_nil)))) (pa_cons (pe_tup (pa_cons pe_str (pa_cons (pe_tup (pa_cons pe_str pa_nil)) pa_nil))) (pa_cons (pe_tup (pa_cons pe_str (pa_cons (pv 1) (pa_cons (pv 1) pa_nil)))) (pa_cons (pe_tup (pa_cons pe_str (pa_cons (pv 1) pa_nil))) (pa_cons (pe_tup (pa_cons pe_non (pa_cons (pv 1) pa_nil))) pa_nil)))))))))
  (pss_gen (I := (OdI K wl v k H Q 24)) (pss_one (ps_ret (pe_ix ix_B (pv 2) (pe_calC C_law_draw (hr.mono (by first | decide | omega)) pass0 (pa_cons (pv 0) (pa_cons pe_int pa_nil))) (fun _ _ => rfl)))) ?g4)) ?g3)) ?g2))), ?_⟩
  case g4 =>
    rintro D σ H1 ⟨ol, us, ds, rfl, S, nol, eo, au, ln, bad, qr⟩
    refine ⟨_, rfl, _, rfl, wl, 24, rfl, S.aft.well, by decide, by decide, fun i H2 i0 i1 a2 => ?_⟩
    have hL : Dq K (out wl H2) (.ref ol) (.list ds) := .lst (.of (out_at nol (a2.at_ nol eo))) (au.same a2.but)
    refine ix_q hL i0 (by rw [ln]; exact i1) fun x d ed hx => ?_
    have b := bad d (List.mem_of_getElem? ed)
    exact qr x H2 (q d x H2 b.1 b.2 hx (S.aft.trans a2))
  case g3 =>
    rintro D σ H1 ⟨ol, us, ds, rfl, S, nol, eo, au, ln, bad, qr⟩
    obtain ⟨ds0, e0, lz⟩ := dat_t k
    have T0 : Kp K wl H1 H1 [(v, .tuple ds0)] := (Kp.start S.aft.well).put (by rw [← e0]; exact S.here)
    refine ⟨_, rfl, (by show 1 ≤ sizeLine; decide), fun p1 hp1 => ?_⟩
    have T1 := T0.tup hp1 (.cons (.str "base") .nil)
    refine ⟨(by show 3 ≤ sizeLine; decide), fun p2 hp2 => ?_⟩
    have T2 := T1.tup hp2 (.cons (.str "base") (two (.int 1) (.int 2)))
    refine ⟨(by show 1 ≤ sizeLine; decide), fun p3 hp3 => ?_⟩
    have T3 := T2.tup hp3 (.cons (.str "unit") .nil)
    refine ⟨(by show 2 ≤ sizeLine; decide), fun p4 hp4 => ?_⟩
    have T4 := T3.tup hp4 (two (.str "unit") T3.here)
    refine ⟨_, rfl, _, rfl, (by show 3 ≤ sizeLine; decide), fun p5 hp5 => ?_⟩
    have T5 := T4.tup hp5 (.cons (.str "Both") (two (T4.all (v, .tuple ds0) (by simp)) (T4.all (v, .tuple ds0) (by simp))))
    refine ⟨_, rfl, (by show 2 ≤ sizeLine; decide), fun p6 hp6 => ?_⟩
    have T6 := T5.tup hp6 (two (.str "both") (T5.all (v, .tuple ds0) (by simp)))
    refine ⟨_, rfl, (by show 2 ≤ sizeLine; decide), fun p7 hp7 => ?_⟩
    have T7 := T6.tup hp7 (two .non (T6.all (v, .tuple ds0) (by simp)))
    refine ⟨(by show 6 ≤ sizeLine; decide), fun l hl => ?_⟩
    have T8 := T7.aft' ((Aft.refl T7.aft.well).new hl (.lst [.ref p1, .ref p2, .ref p4, .ref p5, .ref p6, .ref p7]))
    have lu := au.length
    refine cat_l (T8.aft.at_ nol eo) upd_same (by simp only [List.length_cons, List.length_nil]; omega) fun r hr => ?_
    have T9 := T8.aft' ((Aft.refl T8.aft.well).new hr (.lst (us ++ [.ref p1, .ref p2, .ref p4, .ref p5, .ref p6, .ref p7])))
    refine ⟨r, _, ds ++ [.tuple [.str "base"], .tuple [.str "base", .int 1, .int 2], .tuple [.str "unit", .tuple [.str "unit"]], .tuple [.str "Both", .tuple ds0, .tuple ds0], .tuple [.str "both", .tuple ds0], .tuple [.none, .tuple ds0]], rfl, ⟨S.aft.trans T9.aft, fun p hp => ?_⟩, T8.aft.well.ne hr, upd_same, (au.same T9.aft.but).append (.cons (T9.all (.ref p1, .tuple [.str "base"]) (by simp)) (.cons (T9.all (.ref p2, .tuple [.str "base", .int 1, .int 2]) (by simp)) (.cons (T9.all (.ref p4, .tuple [.str "unit", .tuple [.str "unit"]]) (by simp)) (.cons (T9.all (.ref p5, .tuple [.str "Both", .tuple ds0, .tuple ds0]) (by simp)) (.cons (T9.all (.ref p6, .tuple [.str "both", .tuple ds0]) (by simp)) (.cons (T9.all (.ref p7, .tuple [.none, .tuple ds0]) (by simp)) .nil)))))), by rw [List.length_append, ln]; rfl, fun d hd' => ?_, qr⟩
    · rw [List.mem_singleton.mp hp, e0]
      exact T9.all (v, .tuple ds0) (by simp)
    · rcases List.mem_append.mp hd' with hd' | hd'
      · exact bad d hd'
      · exact bad4 k ds0 e0 d hd'
  case g2 =>
    rintro D σ H1 ⟨ol, us, ds, rfl, S, nol, eo, au, ln, bad, qr⟩
    obtain ⟨ds0, e0, lz⟩ := dat_t k
    have T0 : Kp K wl H1 H1 [(v, .tuple ds0)] := (Kp.start S.aft.well).put (by rw [← e0]; exact S.here)
    have hv := T0.here
    cases hv with
    | tup hs ha =>
    rename_i a xs
    have hs1 : SqT K H1 a xs := KB.Same.tup (out_sub wl H1) hs
    refine ⟨_, rfl, _, rfl, a, xs, rfl, .inr hs1, fun p1 hp1 => ?_⟩
    have T1 := T0.lst hp1 ha
    refine ⟨_, rfl, 1, rfl, -1, rfl, cut_q T1 T1.tail.here fun v2 H2 a2 h2 => ?_⟩
    have T2 := (T1.aft' a2).put h2
    refine ⟨_, rfl, (by show 1 ≤ sizeLine; decide), fun p3 hp3 => ?_⟩
    have T3 := T2.tup hp3 (.cons (.str "unit") .nil)
    refine ⟨(by show 1 ≤ sizeLine; decide), fun p4 hp4 => ?_⟩
    have T4 := T3.tup hp4 (.cons T3.here .nil)
    refine cat_q T4 (T4.all (.ref a, .tuple ds0) (by simp)) T4.here (by show ds0.length + 1 ≤ 2000000; omega) fun v5 H5 a5 h5 => ?_
    have T5 := (T4.aft' a5).put h5
    refine ⟨(by show 0 ≤ sizeLine; decide), fun p6 hp6 => ?_⟩
    have T6 := T5.tup hp6 .nil
    intro p7 hp7
    have T7 := T6.dct hp7
    refine ⟨(by show 1 ≤ sizeLine; decide), fun p8 hp8 => ?_⟩
    have T8 := T7.tup hp8 (.cons (.str "units") .nil)
    refine ⟨_, rfl, (by show 1 ≤ sizeLine; decide), fun p9 hp9 => ?_⟩
    have T9 := T8.tup hp9 (.cons (T8.all (.ref a, .tuple ds0) (by simp)) .nil)
    refine ⟨(by show 11 ≤ sizeLine; decide), fun l hl => ?_⟩
    have T10 := T9.aft' ((Aft.refl T9.aft.well).new hl (.lst [.ref p1, v2, v5, .ref p6, .non, .int 7, .str "a", .bl true, .ref p7, .ref p8, .ref p9]))
    have lu := au.length
    refine cat_l (T10.aft.at_ nol eo) upd_same (by simp only [List.length_cons, List.length_nil]; omega) fun r hr => ?_
    have T11 := T10.aft' ((Aft.refl T10.aft.well).new hr (.lst (us ++ [.ref p1, v2, v5, .ref p6, .non, .int 7, .str "a", .bl true, .ref p7, .ref p8, .ref p9])))
    have hz := sz_pos k.dat
    refine ⟨r, _, ds ++ [.list ds0, .tuple ((ds0.drop (HT.sIx ds0.length 0 none)).take (HT.sIx ds0.length ds0.length (some (-1)) - HT.sIx ds0.length 0 none)), .tuple (ds0 ++ [.tuple [.str "unit"]]), .tuple [], .none, .int 7, .str "a", .bool true, .dict [], .tuple [.str "units"], .tuple [.tuple ds0]], rfl, ⟨S.aft.trans T11.aft, fun p hp => ?_⟩, T10.aft.well.ne hr, upd_same, (au.same T11.aft.but).append (.cons (T11.all (.ref p1, .list ds0) (by simp)) (.cons (T11.all (v2, .tuple ((ds0.drop (HT.sIx ds0.length 0 none)).take (HT.sIx ds0.length ds0.length (some (-1)) - HT.sIx ds0.length 0 none))) (by simp)) (.cons (T11.all (v5, .tuple (ds0 ++ [.tuple [.str "unit"]])) (by simp)) (.cons (T11.all (.ref p6, .tuple []) (by simp)) (.cons .non (.cons (.int 7) (.cons (.str "a") (.cons (.bl true) (.cons (T11.all (.ref p7, .dict []) (by simp)) (.cons (T11.all (.ref p8, .tuple [.str "units"]) (by simp)) (.cons (T11.all (.ref p9, .tuple [.tuple ds0]) (by simp)) .nil))))))))))), by rw [List.length_append, ln]; rfl, fun d hd' => ?_, qr⟩
    · rw [List.mem_singleton.mp hp, e0]
      exact T11.all (.ref a, .tuple ds0) (by simp)
    · rcases List.mem_append.mp hd' with hd' | hd'
      · exact bad d hd'
      · exact bad3 k ds0 e0 d hd'
  ·
    have S0 : Kp K wl H H [(v, k.dat)] := (Kp.start hw).put hd
    refine ⟨(by show 2 ≤ sizeLine; decide), fun p1 hp1 => ?_⟩
    have S1 := S0.tup hp1 (.cons (.str "base") (.cons (.int 8) .nil))
    refine ⟨1, rfl, ?_⟩
    refine ⟨(by show 2 ≤ sizeLine; decide), fun p2 hp2 => ?_⟩
    have S2 := S1.tup hp2 (.cons (.str "base") (.cons (.int (-1)) .nil))
    refine ⟨(by show 2 ≤ sizeLine; decide), fun p3 hp3 => ?_⟩
    have S3 := S2.tup hp3 (.cons (.str "base") (.cons (.bl true) .nil))
    refine ⟨(by show 2 ≤ sizeLine; decide), fun p4 hp4 => ?_⟩
    have S4 := S3.tup hp4 (.cons (.str "base") (.cons (.str "1") .nil))
    refine ⟨(by show 2 ≤ sizeLine; decide), fun p5 hp5 => ?_⟩
    have S5 := S4.tup hp5 (.cons (.str "base") (.cons .non .nil))
    refine ⟨(by show 1 ≤ sizeLine; decide), fun p6 hp6 => ?_⟩
    have S6 := S5.tup hp6 (.cons (.int 0) .nil)
    refine ⟨(by show 2 ≤ sizeLine; decide), fun p7 hp7 => ?_⟩
    have S7 := S6.tup hp7 (.cons (.str "base") (.cons S6.here .nil))
    refine ⟨(by show 6 ≤ sizeLine; decide), fun l hl => ?_⟩
    have nl := S7.aft.well.ne hl
    refine ⟨_, rfl, .inl ⟨rfl, _, .of upd_same⟩, ?_⟩
    refine ⟨_, _, rfl, rfl, ⟨by decide, by decide, by decide⟩, ?_⟩
    refine ⟨(by show 2 ≤ sizeLine; decide), fun p hp => ?_⟩
    have nlp : l ≠ p := ne_of_none upd_same hp
    refine ⟨l, _, _, rfl, rfl, by rw [upd_ne nlp]; exact upd_same, (by show 6 < sizeLine; decide), ?_⟩
    have a := Aft.app (o1 := .lst [V.ref p1, V.ref p2, V.ref p3, V.ref p4, V.ref p5, V.ref p7]) (o2 := .tup [V.str "base", V.int (10 ^ 30)]) (o3 := .lst [V.ref p1, V.ref p2, V.ref p3, V.ref p4, V.ref p5, V.ref p7, V.ref p]) S7.aft.well hl hp
    have Z := S7.aft' a
    have np : p ≠ wl := (S7.aft.well.new hl _).ne hp
    have hz := sz_pos k.dat
    refine ⟨l, _, [.tuple [.str "base", .int 8], .tuple [.str "base", .int (-1)], .tuple [.str "base", .bool true], .tuple [.str "base", .str "1"], .tuple [.str "base", .none], .tuple [.str "base", .tuple [.int 0]], .tuple [.str "base", .int (10 ^ 30)]], rfl, Z.sub (fun p hp => by simp at hp; subst hp; simp), nl, upd_same, ?_, rfl, ?_, fun _ _ h => h⟩
    · exact .cons (Z.all (.ref p1, .tuple [.str "base", .int 8]) (by simp)) (.cons (Z.all (.ref p2, .tuple [.str "base", .int (-1)]) (by simp)) (.cons (Z.all (.ref p3, .tuple [.str "base", .bool true]) (by simp)) (.cons (Z.all (.ref p4, .tuple [.str "base", .str "1"]) (by simp)) (.cons (Z.all (.ref p5, .tuple [.str "base", .none]) (by simp)) (.cons (Z.all (.ref p7, .tuple [.str "base", .tuple [.int 0]]) (by simp)) (.cons (.tup (.of (out_at np ((upd_ne (Ne.symm nlp)).trans upd_same))) (two (.str _) (.int _))) .nil))))))
    · intro d hd'
      simp only [List.mem_cons, List.not_mem_nil, or_false] at hd'
      rcases hd' with rfl | rfl | rfl | rfl | rfl | rfl | rfl <;> exact ⟨by decide +kernel, by simp only [sz, szs]; omega⟩
end
/-- a kind by its first word -/
theorem kd_split {K : PySem.W.Frag} {H : Hp} {v : V} (k : Kd) (hd : Dq K H v k.dat) :
    (∃ a n, k = .b n ∧ v = .ref a ∧ SqT K H a [.str "base", .int (n : Nat)]) ∨ (∃ a, k = .u ∧ v = .ref a ∧ SqT K H a [.str "unit"]) ∨
    ∃ (mk : Kd → Kd → Kd) (wd : Str) (x y : Kd) (a : Addr) (v1 v2 : V), k = mk x y ∧ Mk2 mk wd ∧ ((mk = Kd.p ∧ wd = "both") ∨ (mk = Kd.f ∧ wd = "from")) ∧ v = .ref a ∧ SqT K H a [.str wd, v1, v2] ∧ Dq K H v1 x.dat ∧ Dq K H v2 y.dat := by
  cases k with
  | b n =>
    cases hd with
    | tup hS hA =>
      cases hA with
      | cons h1 h2 =>
        cases h1
        cases h2 with
        | cons h3 h4 =>
          cases h4; cases h3
          exact .inl ⟨_, _, rfl, rfl, hS⟩
  | u =>
    cases hd with
    | tup hS hA =>
      cases hA with
      | cons h1 h2 => cases h1; cases h2; exact .inr (.inl ⟨_, rfl, rfl, hS⟩)
  | p x y =>
    cases hd with
    | tup hS hA =>
      cases hA with
      | cons h1 h2 =>
        cases h1
        cases h2 with
        | cons h3 h4 => cases h4 with | cons h5 h6 => cases h6; exact .inr (.inr ⟨_, _, x, y, _, _, _, rfl, mk_p, .inl ⟨rfl, rfl⟩, rfl, hS, h3, h5⟩)
  | f x y =>
    cases hd with
    | tup hS hA =>
      cases hA with
      | cons h1 h2 =>
        cases h1
        cases h2 with
        | cons h3 h4 => cases h4 with | cons h5 h6 => cases h6; exact .inr (.inr ⟨_, _, x, y, _, _, _, rfl, mk_f, .inr ⟨rfl, rfl⟩, rfl, hS, h3, h5⟩)
/-! ## a kind with something in it that is no kind -/
def spSpoilt (K : PySem.W.Frag) (N : Nat) : Sp := fun vs H Q _ => ∃ (wl : Addr) (v : V) (k : Kd), vs = [.ref wl, v] ∧ Well H wl ∧ Dq K (out wl H) v k.dat ∧ k.ok ∧ k.leaves ≤ 25 ∧ k.deep < N ∧ ∀ (d : PyData) (v' : V) (H' : Hp), isKd d = false → sz d ≤ 2 * sz k.dat + 10 → Dq K (out wl H') v' d → Aft wl H H' → Q v' H'
abbrev s_law_spoilt : Stmt := top 134
theorem sc_law_spoilt : FnScope ["well", "kind"] ["well", "kind"] (defScope s_law_spoilt) := ⟨rfl, rfl, rfl, by decide +kernel, rfl, by decide +kernel, by decide +kernel⟩
section
variable {P : Program} {w : World} {K : PySem.W.Frag} {mg : Str → Option Value} {base : Heap} {CN CT : Addr}
theorem ok_spoilt1 {N : Nat} (A : At K mg "_law_spoilt" s_law_spoilt) (T : Txt K mg w CN CT) (C_law_draw : Cal P w K mg base CX0 1 "_law_draw" ["well", "width"] spDraw) (C_law_odd : Cal P w K mg base CX0 2 "_law_odd" ["well", "kind"] (spOddK K)) (C_law_spoilt : Cal P w K mg base CX0 (N + 2) "_law_spoilt" ["well", "kind"] (spSpoilt K N)) : Cal P w K mg base CX0 (N + 3) "_law_spoilt" ["well", "kind"] (spSpoilt K (N + 1)) := by
  obtain ⟨f, fd, F, m⟩ := A
  refine ⟨f, fd, F.ok sc_law_spoilt (fun vs H Q E h => ?_) (fun cdv A outer s H vs Q E hr h => ?_), F.binds (ps := ["well", "kind"]) (fun _ _ _ _ _ _ us hl => match us, hl with | [_, _], _ => rfl), F.kp, m⟩
  · obtain ⟨w, v, k, rfl, _⟩ := h; rfl
  obtain ⟨wl, v, k, rfl, hw, hd, ok, lk, hN, q⟩ := h
  refine ⟨_, (pss_cons (ps_if (PW.pt (pw_or (pt_cmpR op_in_seq (pe_ix ix_B (pv 1) pe_int (fun _ _ => rfl)) (pe_lst (pa_cons pe_str (pa_cons pe_str pa_nil))) rfl) (pw_or1 (pt_cmpR (op_eqA (room200 hr)) (pe_calC C_law_draw (hr.mono (by first | decide | omega)) pass0 (pa_cons (pv 0) (pa_cons pe_int pa_nil))) pe_int (nomark _)))))
   (pss_one (ps_ret (pe_calC C_law_odd (hr.mono (by first | decide | omega)) pass0 (pa_cons (pv 0) (pa_cons (pv 1) pa_nil)))))
   pss_nil)
  (pss_cons (ps_if (pt_cmpR (op_eqA (room200 hr)) (pe_calC C_law_draw (hr.mono (by first | decide | omega)) pass0 (pa_cons (pv 0) (pa_cons pe_int pa_nil))) pe_int (nomark _))
   (pss_one (ps_ret (pe_tup (pa_cons (pe_ix ix_B (pv 1) pe_int (fun _ _ => rfl)) (pa_cons (pe_calC C_law_spoilt (hr.mono (by first | decide | omega)) pass0 (pa_cons (pv 0) (pa_cons (pe_ix ix_B (pv 1) pe_int (fun _ _ => rfl)) pa_nil))) (pa_cons (pe_ix ix_B (pv 1) pe_int (fun _ _ => rfl)) pa_nil))))))
   pss_nil)
  (pss_one (ps_ret (pe_tup (pa_cons (pe_ix ix_B (pv 1) pe_int (fun _ _ => rfl)) (pa_cons (pe_ix ix_B (pv 1) pe_int (fun _ _ => rfl)) (pa_cons (pe_calC C_law_spoilt (hr.mono (by first | decide | omega)) pass0 (pa_cons (pv 0) (pa_cons (pe_ix ix_B (pv 1) pe_int (fun _ _ => rfl)) pa_nil))) pa_nil)))))))), ?_⟩
  have okd : ∀ (v2 : V) (H2 : Hp), Aft wl H H2 → v2 = v → spOddK K [.ref wl, v2] H2 Q E0 := fun v2 H2 a2 e => by
    subst e
    exact ⟨wl, v2, k, rfl, a2.well, hd.same a2.but, ok, lk, fun d v' H' hb hz h a => q d v' H' hb hz h (a2.trans a)⟩
  rcases kd_split k hd with ⟨a, n, rfl, rfl, hS0⟩ | ⟨a, rfl, rfl, hS0⟩ | ⟨mk, wd, x, y, a, v1, v2, rfl, M, hw2, rfl, hS0, hx, hy⟩ <;> have hS := KB.Same.tup (out_sub wl H) hS0
  · refine ⟨_, rfl, ixT hS (j := 0) rfl ⟨(by show 2 ≤ sizeLine; decide), fun l hl => ⟨l, _, rfl, .inl (.of upd_same), rfl, rfl, _, rfl, iteT' (by decide +kernel) ?_⟩⟩⟩
    exact ⟨_, rfl, _, rfl, okd _ _ ((Aft.refl hw).new hl _) rfl⟩
  · refine ⟨_, rfl, ixT hS (j := 0) rfl ⟨(by show 2 ≤ sizeLine; decide), fun l hl => ⟨l, _, rfl, .inl (.of upd_same), rfl, rfl, _, rfl, iteT' (by decide +kernel) ?_⟩⟩⟩
    exact ⟨_, rfl, _, rfl, okd _ _ ((Aft.refl hw).new hl _) rfl⟩
  · have nin : inV (V.str wd) [.str "base", .str "unit"] = false := by rcases hw2 with ⟨_, rfl⟩ | ⟨_, rfl⟩ <;> decide +kernel
    refine ⟨_, rfl, ixT hS (j := 0) rfl ⟨(by show 2 ≤ sizeLine; decide), fun l hl => ⟨l, _, rfl, .inl (.of upd_same), rfl, rfl, _, rfl, iteF' (by simpa using nin) ?_⟩⟩⟩
    have a1 := (Aft.refl hw).new hl (.lst [.str "base", .str "unit"])
    refine ⟨_, rfl, wl, 8, rfl, a1.well, by decide, by decide, fun i H2 i0 i1 a2 => .inl ⟨rfl, _, rfl, ?_⟩⟩
    have a3 := a1.trans a2
    refine ite2 (fun _ => ⟨_, rfl, _, rfl, okd _ _ a3 rfl⟩) (fun _ => ?_)
    refine ⟨_, rfl, wl, 2, rfl, a3.well, by decide, by decide, fun i2 H3 i20 i21 a4 => .inl ⟨rfl, _, rfl, ?_⟩⟩
    have a5 := a3.trans a4
    have dx : x.deep < N ∧ y.deep < N := by have := M.deep x y; omega
    have lx : x.leaves ≤ 25 ∧ y.leaves ≤ 25 := by have := M.leaves x y; omega
    have okx : x.ok ∧ y.ok := (M.ok x y).mp ok
    have S3 : ∀ {H' : Hp}, Aft wl H H' → SqT K H' a [.str wd, v1, v2] := fun a' => KB.Same.tup (out_sub wl _) (KB.Same.tup a'.but hS0)
    have bad : ∀ (d e : PyData), (isKd d = false ∨ isKd e = false) → isKd (.tuple [.str wd, d, e]) = false := fun d e h => by
      rw [isKd_turn]
      have : kids (.tuple [.str wd, d, e]) = [d, e] := by simp only [kids]; rw [if_pos M.wd]
      rw [this]
      rcases h with h | h <;> simp [h]
    have zk : sz (mk x y).dat = 2 + sz x.dat + sz y.dat := by rw [M.dat]; simp only [sz, szs]; omega
    refine ite2 (fun _ => ?_) (fun _ => ?_)
    · refine ⟨_, rfl, ixT (S3 a5) (j := 0) rfl ?_⟩
      refine ⟨_, rfl, _, rfl, ixT (S3 a5) (j := 1) rfl ?_⟩
      refine ⟨wl, v1, x, rfl, a5.well, hx.same a5.but, okx.1, lx.1, dx.1, fun d v' H4 hb hz h a6 => ?_⟩
      have a7 := a5.trans a6
      refine ⟨_, rfl, ixT (S3 a7) (j := 2) rfl ?_⟩
      refine ⟨(by show 3 ≤ sizeLine; decide), fun p hp => ?_⟩
      exact q (.tuple [.str wd, d, y.dat]) _ _ (bad d y.dat (.inl hb)) (by rw [zk]; simp only [sz, szs]; omega) (.tup (.of (a7.well.laid hp _)) (.cons (.str wd) (two (h.same (out_new hp _)) ((hy.same a7.but).same (out_new hp _))))) (a7.new hp _)
    · refine ⟨_, rfl, ixT (S3 a5) (j := 0) rfl ?_⟩
      refine ⟨_, rfl, ixT (S3 a5) (j := 1) rfl ?_⟩
      refine ⟨_, rfl, _, rfl, ixT (S3 a5) (j := 2) rfl ?_⟩
      refine ⟨wl, v2, y, rfl, a5.well, hy.same a5.but, okx.2, lx.2, dx.2, fun d v' H4 hb hz h a6 => ?_⟩
      have a7 := a5.trans a6
      refine ⟨(by show 3 ≤ sizeLine; decide), fun p hp => ?_⟩
      exact q (.tuple [.str wd, x.dat, d]) _ _ (bad x.dat d (.inr hb)) (by rw [zk]; simp only [sz, szs]; omega) (.tup (.of (a7.well.laid hp _)) (.cons (.str wd) (two ((hx.same a7.but).same (out_new hp _)) (h.same (out_new hp _))))) (a7.new hp _)
theorem ok_spoilt (A : At K mg "_law_spoilt" s_law_spoilt) (T : Txt K mg w CN CT) (C_law_draw : Cal P w K mg base CX0 1 "_law_draw" ["well", "width"] spDraw) (C_law_odd : Cal P w K mg base CX0 2 "_law_odd" ["well", "kind"] (spOddK K)) : ∀ N : Nat, Cal P w K mg base CX0 (N + 2) "_law_spoilt" ["well", "kind"] (spSpoilt K N)
  | 0 => cal_vac A (fun f fd F => F.binds (ps := ["well", "kind"]) (fun _ _ _ _ _ _ us hl => match us, hl with | [_, _], _ => rfl)) fun vs H Q E ⟨wl, v, k, _, _, _, _, _, h, _⟩ => absurd h (Nat.not_lt_zero _)
  | N + 1 => ok_spoilt1 A T C_law_draw C_law_odd (ok_spoilt A T C_law_draw C_law_odd N)
end
/-! ## which error is raised -/
structure TxW (K : PySem.W.Frag) (mg : Str → Option Value) (CN CL : Addr) : Prop where
  z_isinstance : mg "isinstance" = none
  z_int : mg "int" = none
  g_NoKind : mg "NoKind" = some (.ref CN)
  g_NoLibrary : mg "NoLibrary" = some (.ref CL)
  x0 : ExcC K CN
  kn : PySem.W.kitOne K (.ref CN) (.ref CL) = some false
  hn : PySem.W.exmOne K (.ref CN) (.ref CN) = some true
  nl : PySem.W.exmOne K (.ref CL) (.ref CN) = some false
  hl : PySem.W.exmOne K (.ref CL) (.ref CL) = some true
def spWord (P : Program) (w : World) (K : PySem.W.Frag) (mg : Str → Option Value) (base : Heap) (CN CL : Addr) : Sp := fun vs H Q _ => ∃ v, vs = [v] ∧
  ((Raises P w K mg base 86 CN H v ∧ ∀ H', Same H H' → Q (.str "kind") H') ∨ (Raises P w K mg base 86 CL H v ∧ ∀ H', Same H H' → Q (.str "library") H'))
abbrev s_law_word : Stmt := top 135
theorem sc_law_word : FnScope ["ask", "found", "e"] ["ask"] (defScope s_law_word) := ⟨rfl, rfl, rfl, by decide +kernel, rfl, by decide +kernel, by decide +kernel⟩
section
variable {P : Program} {w : World} {K : PySem.W.Frag} {mg : Str → Option Value} {base : Heap} {CN CT CL : Addr}
theorem ok_word (A : At K mg "_law_word" s_law_word) (T : TxW K mg CN CL) : Cal P w K mg base CX0 87 "_law_word" ["ask"] (spWord P w K mg base CN CL) := by
  obtain ⟨f, fd, F, m⟩ := A
  have gN := T.g_NoKind
  have gL := T.g_NoLibrary
  refine ⟨f, fd, F.ok sc_law_word (fun vs H Q E h => ?_) (fun cdv A outer s H vs Q E hr h => ?_), F.binds (ps := ["ask"]) (fun _ _ _ _ _ _ us hl => match us, hl with | [_], _ => rfl), F.kp, m⟩
  · obtain ⟨v, rfl, _⟩ := h; rfl
  obtain ⟨v, rfl, h⟩ := h
  refine ⟨_, (pss_cons (ps_set (i := 1) sc_law_word.nd rfl (by first | exact Or.inl rfl | exact Or.inr rfl) pe_str)
  (pss_cons (ps_try_mix (i := 2) (S := fun C => C = CN) (c := .ref CN) (c2 := .ref CL) rfl rfl sc_law_word.nd rfl rfl ⟨by rfl, by decide, .inl gN⟩ ⟨by rfl, by decide, .inl gL⟩ (fun W pn xe tk _ => pss_one (ps_expr (pe_askS (P := P) (w := w) (K := K) (mg := mg) (base := base) (i := 0) (k := 86) rfl rfl rfl rfl rfl (hr.mono (by first | decide | omega)) (fun z => passAt tk z) rfl (by exact Or.inl rfl)))) (fun D hD a oe pn hz hf => pss_one (ps_set (i := 1) sc_law_word.nd rfl (by first | exact Or.inl rfl | exact Or.inr rfl) (pe_ix ix_BS (pe_lst (pa_cons pe_str (pa_cons pe_str pa_nil))) (pe_callTy call_int1 (by rfl) T.z_int (by decide +kernel) (pa_cons (pe_callB (call_caught (hD ▸ T.x0) hz hf) (by rfl) T.z_isinstance (by decide +kernel) (pa_cons (pv 2) (pa_cons (pe_glob (v := V.ref CL) (by rfl) T.g_NoLibrary (by exact rfl)) pa_nil))) pa_nil)) (fun _ _ => rfl)))) (fun D a oe pn hz hf => pss_one (ps_set (i := 1) sc_law_word.nd rfl (by first | exact Or.inl rfl | exact Or.inr rfl) pe_str)))
  (pss_one (ps_ret (pv 1))))), ?_⟩
  rcases h with ⟨r, q⟩ | ⟨r, q⟩
  · refine ⟨v, rfl, r H (LamX.ExtN.refl H) _ _ fun H1 s1 => ⟨CN, rfl, rfl, .inl ⟨rfl, T.hn, fun a ha => ?_⟩⟩⟩
    refine ⟨(by show 2 ≤ sizeLine; decide), fun l hl => ⟨_, rfl, .inl ⟨.ref CL, .ref CL, false, rfl, fun u h => h, T.kn, .inr ⟨false, rfl, .inl (.inl ⟨l, _, _, .str "kind", rfl, rfl, .of upd_same, rfl, ?_⟩)⟩⟩⟩⟩
    exact ⟨_, rfl, q _ (s1.trans (same_new hl _))⟩
  · refine ⟨v, rfl, r H (LamX.ExtN.refl H) _ _ fun H1 s1 => ⟨CL, rfl, rfl, .inr ⟨T.nl, T.hl, fun a ha => ?_⟩⟩⟩
    exact ⟨_, rfl, q _ s1⟩
end
/-! ## calls that must be refused -/
def lamA : Str := (envOfC "_law_asks" (defScope s_law_word) 0 0 .none).qual ++ "<lambda>"
def lamL : Str := (envOfC "_law_lists_right" (defScope s_law_word) 0 0 .none).qual ++ "<lambda>"
def AtC (K : PySem.W.Frag) (mg : Str → Option Value) (x : Str) (st : Stmt) (cc : Addr) : Prop := ∃ f fd, Fun K x x st f fd ∧ mg x = some (.ref f) ∧ fd.code = .ref cc
/-- the two tables of code -/
def T05 (PA PL : Addr) : List (Addr × Str) := [(PA, lamA), (PL, lamL)]
theorem T05.a {PA PL : Addr} (ne : PA ≠ PL) : ∀ p ∈ T05 PA PL, p.1 = PA → p.2 = lamA := fun p hp e => by
  rcases List.mem_cons.mp hp with rfl | hp
  · rfl
  · rw [List.mem_singleton.mp hp] at e
    exact absurd e.symm ne
theorem T05.l {PA PL : Addr} (ne : PA ≠ PL) : ∀ p ∈ T05 PA PL, p.1 = PL → p.2 = lamL := fun p hp e => by
  rcases List.mem_cons.mp hp with rfl | hp
  · exact absurd e ne
  · rw [List.mem_singleton.mp hp]
def spAsks (P : Program) (w : World) (K : PySem.W.Frag) (mg : Str → Option Value) (base : Heap) (PA PL CN : Addr) : Sp := fun vs H Q _ => ∃ (vb vg vo : V) (d : PyData) (k : Kd), vs = [vb, vg, vo] ∧ Dq K H vb d ∧ sz d ≤ 1000000 ∧ isKd d = false ∧ Dq K H vg k.dat ∧ k.ok ∧ k.leaves ≤ 10 ∧ (∃ T, TyB K H vo T) ∧
  LamX.Tabs (T05 PA PL) H ∧ ∀ (p : Addr) (us : List V) (H' : Hp), Nw H p → H' p = some (.lst us) → us.length = 18 → (∀ u ∈ us, Raises P w K mg base 86 CN H' u) → LamX.Tabs (T05 PA PL) H' → LamX.ExtN H H' → Q (.ref p) H'
theorem no_kd {d : PyData} (no : isKd d = false) {k : Kd} (ok : k.ok) (e : d = k.dat) {A : Prop} : A := by rw [e, isKd_dat k ok] at no; cases no
theorem not_kd {k : Kd} {A : Prop} (ok : k.ok) (h : isKd k.dat = false) : A := by rw [isKd_dat k ok] at h; cases h
theorem pick {K : PySem.W.Frag} {W : World} {H : Hp} {l : Addr} {x y : V} {Q : VK} (e : H l = some (.lst [x, y])) (kk : Bool) (q : ∀ v, Q v H) : rIxB K W (.ref l) (.int (if kk = true then 1 else 0)) H Q := by
  cases kk
  · exact ixLi (j := 0) (.of e) rfl (q _)
  · exact ixLi (j := 1) (.of e) rfl (q _)
/-- between two of the lambdas -/
def AskI (X : Cx) (PA PL CN : Addr) (H0 : Hp) (vb vg vo : V) (n : Nat) : (V → L2.St → Hp → Prop) → L2.St → Hp → Prop := fun R σ H1 => ∃ (s b t l : V) (fl : Addr) (us : List V), σ = [some vb, some vg, some vo, some s, some b, some t, some l, some (.ref fl)] ∧ Nw H0 fl ∧ H1 fl = some (.lst us) ∧ us.length = n ∧
  (∀ u ∈ us, Made X σ 86 CN (out fl H1) u) ∧ LamX.Tabs (T05 PA PL) H1 ∧ LamX.ExtN H0 (out fl H1) ∧ ∀ σ' H', (∃ (s b t l : V) (fl : Addr) (us : List V), σ' = [some vb, some vg, some vo, some s, some b, some t, some l, some (.ref fl)] ∧ Nw H0 fl ∧ H' fl = some (.lst us) ∧ us.length = 18 ∧ (∀ u ∈ us, Made X σ' 86 CN (out fl H') u) ∧ LamX.Tabs (T05 PA PL) H' ∧ LamX.ExtN H0 (out fl H')) → ∀ fl, σ'[7]? = some (some (.ref fl)) → R (.ref fl) σ' H'
def BI (PA PL : Addr) (H0 : Hp) (vb vg vo : V) (m : Nat) (X : Cx) (CN : Addr) : (V → L2.St → Hp → Prop) → L2.St → Hp → Prop := fun R σ H1 => ∃ (s b t l : V), σ = [some vb, some vg, some vo, some s, some b, if 1 ≤ m then some t else none, if 2 ≤ m then some l else none, none] ∧ Same H0 H1 ∧ LamX.Tabs (T05 PA PL) H1 ∧
  ∀ σ' H', (∃ (s b t l : V) (fl : Addr) (us : List V), σ' = [some vb, some vg, some vo, some s, some b, some t, some l, some (.ref fl)] ∧ Nw H0 fl ∧ H' fl = some (.lst us) ∧ us.length = 18 ∧ (∀ u ∈ us, Made X σ' 86 CN (out fl H') u) ∧ LamX.Tabs (T05 PA PL) H' ∧ LamX.ExtN H0 (out fl H')) → ∀ fl, σ'[7]? = some (some (.ref fl)) → R (.ref fl) σ' H'
theorem out_extN {fl : Addr} {H H2 : Hp} {o : HO} (e : LamX.ExtN H H2) : LamX.ExtN (out fl H) (out fl (upd H2 fl o)) := fun b u h n => by
  have h2 := out_some h
  exact out_at h2.1 ((upd_ne h2.1).trans (e b u h2.2 n))
theorem LamAt.out {X : Cx} {f fl : Addr} {F : NdefX.NF} {b : Expr} {fr : List Str} {js : List Nat} {H : Hp} {us : List V} {o : HO} (l : LamAt X f F b fr js H) (e : H fl = some (.lst us)) : LamAt X f F b fr js (out fl (upd H fl o)) := by
  have n1 : f ≠ fl := fun z => by have := l.obj; rw [z, e] at this; unfold LamO at this; cases this
  have n2 : F.c ≠ fl := fun z => by have := l.code; rw [z, e] at this; unfold LamX.CodeO at this; cases this
  exact ⟨out_at n1 ((upd_ne n1).trans l.obj), out_at n2 ((upd_ne n2).trans l.code), l.caps, l.sub⟩
theorem tabs_upd {T : List (Addr × Str)} {H : Hp} {fl : Addr} {us vs : List V} (t : LamX.Tabs T H) (e : H fl = some (.lst us)) : LamX.Tabs T (upd H fl (.lst vs)) := fun p hp => by
  obtain ⟨ps, h1, h2, h3⟩ := t p hp
  refine ⟨ps, (upd_ne (ne_of h1 e (by intro z; cases z))).trans h1, h2, fun pos cv hc => ?_⟩
  obtain ⟨c, e1, e2⟩ := h3 pos cv hc
  refine ⟨c, e1, (upd_ne (ne_of e2 e ?_)).trans e2⟩
  unfold LamX.CodeO; intro z; cases z
theorem app_step {X : Cx} {K : PySem.W.Frag} {PA PL CN : Addr} {H0 : Hp} {vb vg vo : V} {n : Nat} {fr : List Str} {js : List Nat} {sp : List (Option V) → Hp → VK → XK → Prop} {R : V → L2.St → Hp → Prop} {σ : L2.St} {H1 : Hp} (hn : n ≤ 20) (I : AskI X PA PL CN H0 vb vg vo n R σ H1)
    (ref : ∀ (s b t l x : V) (H' : Hp), LamX.ExtN H0 H' → ∀ (Q : VK) (E : XK), (∀ H'', Same H' H'' → E (.ref CN) none H'') → sp (js.map (NdefX.slotAt [some vb, some vg, some vo, some s, some b, some t, some l, some x])) H' Q E) :
    tSeqC (tDrop (tBM K "list" rAppend (tVar 7) (tCons (tLamV X (T05 PA PL) 86 fr js sp) tNil))) (AskI X PA PL CN H0 vb vg vo (n + 1)) R σ H1 := by
  obtain ⟨s, b, t, l, fl, us, rfl, f0, e1, ln, md, tb, ex, r⟩ := I
  refine ⟨_, rfl, .inl ⟨rfl, _, .of e1⟩, tb, fun f F bd H2 eN T2 fN la ok => ?_⟩
  have e2 : H2 fl = some (.lst us) := eN _ _ e1 fun ps z => by cases z
  refine ⟨fl, us, _, rfl, rfl, e2, by rw [ln]; exact Nat.lt_of_le_of_lt hn (by decide), ?_⟩
  have eo : LamX.ExtN (out fl H1) (out fl (upd H2 fl (.lst (us ++ [.ref f])))) := out_extN eN
  refine ⟨s, b, t, l, fl, us ++ [.ref f], rfl, f0, upd_same, by rw [List.length_append, ln]; rfl, fun u hu => ?_, tabs_upd T2 e2, ex.trans eo, r⟩
  rcases List.mem_append.mp hu with hu | hu
  · exact (md u hu).ext eo
  · rw [List.mem_singleton.mp hu]
    exact ⟨f, F, bd, fr, js, sp, rfl, KW.LamAt.out la e2, ok, fun H' e' Q E hE => ref s b t l (.ref fl) H' ((ex.trans eo).trans e') Q E hE⟩
abbrev s_law_asks : Stmt := top 136
theorem sc_law_asks : FnScope ["bad", "good", "odd", "sizes", "by", "term", "library", "found"] ["bad", "good", "odd"] (defScope s_law_asks) := ⟨rfl, rfl, rfl, by decide +kernel, rfl, by decide +kernel, by decide +kernel⟩
section
variable {P : Program} {w : World} {K : PySem.W.Frag} {mg : Str → Option Value} {base : Heap} {CN CT CL : Addr}
theorem ok_asks {cc PA PL : Addr} (A : AtC K mg "_law_asks" s_law_asks cc) (TB : LamX.TabB base mg cc PA) (ne : PA ≠ PL) (T : Txt K mg w CN CT)
    (C_kind_text : Cal P w K mg base (L2.CX P w) 5 "kind_text" ["kind"] (spKText K CN)) (C_form : Cal P w K mg base (L2.CX P w) 82 "form" ["kind"] (spForm K CN)) (C_alike : Cal P w K mg base (L2.CX P w) 83 "alike" ["one", "other"] (spAlike K CN))
    (C_many : Cal P w K mg base (L2.CX P w) 6 "many" ["kind", "sizes"] (spR K CN 2 0)) (C_pub_rest : Cal P w K mg base (L2.CX P w) 6 "rest" ["kind", "sizes", "by"] (spR K CN 3 0)) (C_apart : Cal P w K mg base (L2.CX P w) 84 "apart" ["one", "other"] (spRA K CN 0)) (C_apart_fault : Cal P w K mg base (L2.CX P w) 5 "apart_fault" ["one", "other", "thing"] (spRA K CN 1))
    (C_worths : Cal P w K mg base (L2.CX P w) 6 "worths" ["kind", "sizes"] (spR K CN 2 0)) (C_is_worth : Cal P w K mg base (L2.CX P w) 6 "is_worth" ["kind", "sizes", "thing"] (spR K CN 3 0)) (C_turner : Cal P w K mg base (L2.CX P w) 85 "turner" ["one", "other"] (spRA K CN 0)) (C_turn_fault : Cal P w K mg base (L2.CX P w) 5 "turn_fault" ["one", "other", "there", "back"] (spRA K CN 2))
    (C_search : Cal P w K mg base (L2.CX P w) 5 "search" ["library", "kind"] (spR K CN 2 1)) (C_search_fault : Cal P w K mg base (L2.CX P w) 5 "search_fault" ["library", "kind", "name", "thing"] (spR K CN 4 1)) : Cal P w K mg base (L2.CX P w) 87 "_law_asks" ["bad", "good", "odd"] (spAsks P w K mg base PA PL CN) := by
  obtain ⟨f, fd, F, m, hcode⟩ := A
  have bI : Binds K fd ["bad", "good", "odd"] [] := F.binds (ps := ["bad", "good", "odd"]) (fun _ _ _ _ _ _ us hl => match us, hl with | [_, _, _], _ => rfl)
  have kp := F.kp
  obtain ⟨oc, od, kV, doc, pm, an, cdv, ct, osl, rfl, lk, hcd⟩ := F.ex
  have hcc : cdv = .ref cc := hcode
  subst hcc
  refine ⟨f, _, fn_ofC lk hcd sc_law_asks (fun vs H Q E h => ?_) (fun A outer s H vs Q E hr h => ?_), bI, kp, m⟩
  · obtain ⟨vb, vg, vo, d, k, rfl, _⟩ := h; rfl
  obtain ⟨vb, vg, vo, d, k, rfl, hb, zb, no, hg, ok, lk5, ⟨To, ho⟩, tabs, q⟩ := h
  have zg : sz k.dat ≤ 1000000 := by have := k.sz_dat; omega
  have bd : k.rk ≤ 80 ∧ k.leaves ≤ 5000 := by have := k.rk_deep; have := k.deep_le; omega
  refine ⟨_, (psc_cons (ps_asg (pe_tup (pa_cons (pe_ix ix_B (pe_lst (pa_cons (pe_op op_mulA (pe_lst (pa_cons pe_int pa_nil)) pe_int) (pa_cons (pv 2) pa_nil))) (pe_callTy call_int1 (by rfl) T.z_int (by decide +kernel) (pa_cons (pe_cmpR op_notN (pv 2) pe_non (nomark _)) pa_nil)) (fun _ _ => rfl)) (pa_cons (pe_ix ix_B (pe_lst (pa_cons pe_int (pa_cons (pv 2) pa_nil))) (pe_callTy call_int1 (by rfl) T.z_int (by decide +kernel) (pa_cons (pe_cmpR op_notN (pv 2) pe_non (nomark _)) pa_nil)) (fun _ _ => rfl)) pa_nil))) (pg_tup (by rfl) (pgs_cons (pg_name (i := 3) sc_law_asks.nd rfl (by first | exact Or.inl rfl | exact Or.inr rfl)) (pgs_cons (pg_name (i := 4) sc_law_asks.nd rfl (by first | exact Or.inl rfl | exact Or.inr rfl)) pgs_nil))))
  (psc_gen (I := (BI PA PL H vb vg vo 0 (cxOf (L2.CX P w) P w K mg base ["bad", "good", "odd", "sizes", "by", "term", "library", "found"] "_law_asks" (defScope s_law_asks) f (.ref cc) A outer s H E) CN)) (psc_cons (ps_set (i := 5) sc_law_asks.nd rfl (by first | exact Or.inl rfl | exact Or.inr rfl) (pe_ix ix_B (pe_lst (pa_cons (pe_tup (pa_cons pe_str pa_nil)) (pa_cons (pv 2) pa_nil))) (pe_callTy call_int1 (by rfl) T.z_int (by decide +kernel) (pa_cons (pe_cmpR op_notN (pv 2) pe_non (nomark _)) pa_nil)) (fun _ _ => rfl)))
  (psc_gen (I := (BI PA PL H vb vg vo 1 (cxOf (L2.CX P w) P w K mg base ["bad", "good", "odd", "sizes", "by", "term", "library", "found"] "_law_asks" (defScope s_law_asks) f (.ref cc) A outer s H E) CN)) (psc_cons (ps_set (i := 6) sc_law_asks.nd rfl (by first | exact Or.inl rfl | exact Or.inr rfl) (pe_ix ix_B (pe_lst (pa_cons (pe_lst (pa_cons (pe_tup (pa_cons pe_str (pa_cons (pv 1) pa_nil))) pa_nil)) (pa_cons (pv 2) pa_nil))) (pe_callTy call_int1 (by rfl) T.z_int (by decide +kernel) (pa_cons (pe_cmpR op_notN (pv 2) pe_non (nomark _)) pa_nil)) (fun _ _ => rfl)))
  (psc_gen (I := (BI PA PL H vb vg vo 2 (cxOf (L2.CX P w) P w K mg base ["bad", "good", "odd", "sizes", "by", "term", "library", "found"] "_law_asks" (defScope s_law_asks) f (.ref cc) A outer s H E) CN)) (psc_cons (ps_set (i := 7) sc_law_asks.nd rfl (by first | exact Or.inl rfl | exact Or.inr rfl) (pe_lst (pa_cons (pe_lamV (sc := defScope s_law_asks) (k := 86) (fr := ["bad"]) (js := [0]) (sp := (fun ws H Q E => ∃ a0 : V, ws = [some a0] ∧ (spKText K CN) [a0] H Q E)) TB rfl (List.mem_cons_self : (PA, lamA) ∈ T05 PA PL) (T05.a ne) rfl (by decide +kernel) rfl (lam_ok (k := 85) (by decide +kernel) (fun _ _ _ _ => rfl) (fun f cl c' A outer s H ws Q E hr h => ⟨_, (pe_calC C_kind_text (hr.mono (by first | decide | omega)) (passes_call (takes_of rfl rfl rfl rfl) (fun _ _ _ _ h => h)) (pa_cons (pv 0) pa_nil)), by obtain ⟨a0, rfl, h⟩ := h; exact ⟨_, rfl, h⟩⟩))) pa_nil)))
  (psc_gen (I := (AskI (cxOf (L2.CX P w) P w K mg base ["bad", "good", "odd", "sizes", "by", "term", "library", "found"] "_law_asks" (defScope s_law_asks) f (.ref cc) A outer s H E) PA PL CN H vb vg vo 1)) (psc_cons (ps_expr (pe_bm PySem.F.plainAttrs_list PySem.F.slot_list_append PySem.F.type_list_append mt_append (pv 7) (pa_cons (pe_lamV (sc := defScope s_law_asks) (k := 86) (fr := ["bad"]) (js := [0]) (sp := (fun ws H Q E => ∃ a0 : V, ws = [some a0] ∧ (spForm K CN) [a0] H Q E)) TB rfl (List.mem_cons_self : (PA, lamA) ∈ T05 PA PL) (T05.a ne) rfl (by decide +kernel) rfl (lam_ok (k := 85) (by decide +kernel) (fun _ _ _ _ => rfl) (fun f cl c' A outer s H ws Q E hr h => ⟨_, (pe_calC C_form (hr.mono (by first | decide | omega)) (passes_call (takes_of rfl rfl rfl rfl) (fun _ _ _ _ h => h)) (pa_cons (pv 0) pa_nil)), by obtain ⟨a0, rfl, h⟩ := h; exact ⟨_, rfl, h⟩⟩))) pa_nil)))
  (psc_gen (I := (AskI (cxOf (L2.CX P w) P w K mg base ["bad", "good", "odd", "sizes", "by", "term", "library", "found"] "_law_asks" (defScope s_law_asks) f (.ref cc) A outer s H E) PA PL CN H vb vg vo 2)) (psc_cons (ps_expr (pe_bm PySem.F.plainAttrs_list PySem.F.slot_list_append PySem.F.type_list_append mt_append (pv 7) (pa_cons (pe_lamV (sc := defScope s_law_asks) (k := 86) (fr := ["bad", "good"]) (js := [0, 1]) (sp := (fun ws H Q E => ∃ a0 a1 : V, ws = [some a0, some a1] ∧ (spAlike K CN) [a0, a1] H Q E)) TB rfl (List.mem_cons_self : (PA, lamA) ∈ T05 PA PL) (T05.a ne) rfl (by decide +kernel) rfl (lam_ok (k := 85) (by decide +kernel) (fun _ _ _ _ => rfl) (fun f cl c' A outer s H ws Q E hr h => ⟨_, (pe_calC C_alike (hr.mono (by first | decide | omega)) (passes_call (takes_of rfl rfl rfl rfl) (fun _ _ _ _ h => h)) (pa_cons (pv 0) (pa_cons (pv 1) pa_nil))), by obtain ⟨a0, a1, rfl, h⟩ := h; exact ⟨_, rfl, _, rfl, h⟩⟩))) pa_nil)))
  (psc_gen (I := (AskI (cxOf (L2.CX P w) P w K mg base ["bad", "good", "odd", "sizes", "by", "term", "library", "found"] "_law_asks" (defScope s_law_asks) f (.ref cc) A outer s H E) PA PL CN H vb vg vo 3)) (psc_cons (ps_expr (pe_bm PySem.F.plainAttrs_list PySem.F.slot_list_append PySem.F.type_list_append mt_append (pv 7) (pa_cons (pe_lamV (sc := defScope s_law_asks) (k := 86) (fr := ["good", "bad"]) (js := [1, 0]) (sp := (fun ws H Q E => ∃ a0 a1 : V, ws = [some a0, some a1] ∧ (spAlike K CN) [a0, a1] H Q E)) TB rfl (List.mem_cons_self : (PA, lamA) ∈ T05 PA PL) (T05.a ne) rfl (by decide +kernel) rfl (lam_ok (k := 85) (by decide +kernel) (fun _ _ _ _ => rfl) (fun f cl c' A outer s H ws Q E hr h => ⟨_, (pe_calC C_alike (hr.mono (by first | decide | omega)) (passes_call (takes_of rfl rfl rfl rfl) (fun _ _ _ _ h => h)) (pa_cons (pv 0) (pa_cons (pv 1) pa_nil))), by obtain ⟨a0, a1, rfl, h⟩ := h; exact ⟨_, rfl, _, rfl, h⟩⟩))) pa_nil)))
  (psc_gen (I := (AskI (cxOf (L2.CX P w) P w K mg base ["bad", "good", "odd", "sizes", "by", "term", "library", "found"] "_law_asks" (defScope s_law_asks) f (.ref cc) A outer s H E) PA PL CN H vb vg vo 4)) (psc_cons (ps_expr (pe_bm PySem.F.plainAttrs_list PySem.F.slot_list_append PySem.F.type_list_append mt_append (pv 7) (pa_cons (pe_lamV (sc := defScope s_law_asks) (k := 86) (fr := ["bad", "sizes"]) (js := [0, 3]) (sp := (fun ws H Q E => ∃ a0 a1 : V, ws = [some a0, some a1] ∧ (spR K CN 2 0) [a0, a1] H Q E)) TB rfl (List.mem_cons_self : (PA, lamA) ∈ T05 PA PL) (T05.a ne) rfl (by decide +kernel) rfl (lam_ok (k := 85) (by decide +kernel) (fun _ _ _ _ => rfl) (fun f cl c' A outer s H ws Q E hr h => ⟨_, (pe_calC C_many (hr.mono (by first | decide | omega)) (passes_call (takes_of rfl rfl rfl rfl) (fun _ _ _ _ h => h)) (pa_cons (pv 0) (pa_cons (pv 1) pa_nil))), by obtain ⟨a0, a1, rfl, h⟩ := h; exact ⟨_, rfl, _, rfl, h⟩⟩))) pa_nil)))
  (psc_gen (I := (AskI (cxOf (L2.CX P w) P w K mg base ["bad", "good", "odd", "sizes", "by", "term", "library", "found"] "_law_asks" (defScope s_law_asks) f (.ref cc) A outer s H E) PA PL CN H vb vg vo 5)) (psc_cons (ps_expr (pe_bm PySem.F.plainAttrs_list PySem.F.slot_list_append PySem.F.type_list_append mt_append (pv 7) (pa_cons (pe_lamV (sc := defScope s_law_asks) (k := 86) (fr := ["bad", "sizes", "by"]) (js := [0, 3, 4]) (sp := (fun ws H Q E => ∃ a0 a1 a2 : V, ws = [some a0, some a1, some a2] ∧ (spR K CN 3 0) [a0, a1, a2] H Q E)) TB rfl (List.mem_cons_self : (PA, lamA) ∈ T05 PA PL) (T05.a ne) rfl (by decide +kernel) rfl (lam_ok (k := 85) (by decide +kernel) (fun _ _ _ _ => rfl) (fun f cl c' A outer s H ws Q E hr h => ⟨_, (pe_calC C_pub_rest (hr.mono (by first | decide | omega)) (passes_call (takes_of rfl rfl rfl rfl) (fun _ _ _ _ h => h)) (pa_cons (pv 0) (pa_cons (pv 1) (pa_cons (pv 2) pa_nil)))), by obtain ⟨a0, a1, a2, rfl, h⟩ := h; exact ⟨_, rfl, _, rfl, _, rfl, h⟩⟩))) pa_nil)))
  (psc_gen (I := (AskI (cxOf (L2.CX P w) P w K mg base ["bad", "good", "odd", "sizes", "by", "term", "library", "found"] "_law_asks" (defScope s_law_asks) f (.ref cc) A outer s H E) PA PL CN H vb vg vo 6)) (psc_cons (ps_expr (pe_bm PySem.F.plainAttrs_list PySem.F.slot_list_append PySem.F.type_list_append mt_append (pv 7) (pa_cons (pe_lamV (sc := defScope s_law_asks) (k := 86) (fr := ["bad", "good"]) (js := [0, 1]) (sp := (fun ws H Q E => ∃ a0 a1 : V, ws = [some a0, some a1] ∧ (spRA K CN 0) [a0, a1] H Q E)) TB rfl (List.mem_cons_self : (PA, lamA) ∈ T05 PA PL) (T05.a ne) rfl (by decide +kernel) rfl (lam_ok (k := 85) (by decide +kernel) (fun _ _ _ _ => rfl) (fun f cl c' A outer s H ws Q E hr h => ⟨_, (pe_calC C_apart (hr.mono (by first | decide | omega)) (passes_call (takes_of rfl rfl rfl rfl) (fun _ _ _ _ h => h)) (pa_cons (pv 0) (pa_cons (pv 1) pa_nil))), by obtain ⟨a0, a1, rfl, h⟩ := h; exact ⟨_, rfl, _, rfl, h⟩⟩))) pa_nil)))
  (psc_gen (I := (AskI (cxOf (L2.CX P w) P w K mg base ["bad", "good", "odd", "sizes", "by", "term", "library", "found"] "_law_asks" (defScope s_law_asks) f (.ref cc) A outer s H E) PA PL CN H vb vg vo 7)) (psc_cons (ps_expr (pe_bm PySem.F.plainAttrs_list PySem.F.slot_list_append PySem.F.type_list_append mt_append (pv 7) (pa_cons (pe_lamV (sc := defScope s_law_asks) (k := 86) (fr := ["good", "bad"]) (js := [1, 0]) (sp := (fun ws H Q E => ∃ a0 a1 : V, ws = [some a0, some a1] ∧ (spRA K CN 0) [a0, a1] H Q E)) TB rfl (List.mem_cons_self : (PA, lamA) ∈ T05 PA PL) (T05.a ne) rfl (by decide +kernel) rfl (lam_ok (k := 85) (by decide +kernel) (fun _ _ _ _ => rfl) (fun f cl c' A outer s H ws Q E hr h => ⟨_, (pe_calC C_apart (hr.mono (by first | decide | omega)) (passes_call (takes_of rfl rfl rfl rfl) (fun _ _ _ _ h => h)) (pa_cons (pv 0) (pa_cons (pv 1) pa_nil))), by obtain ⟨a0, a1, rfl, h⟩ := h; exact ⟨_, rfl, _, rfl, h⟩⟩))) pa_nil)))
  (psc_gen (I := (AskI (cxOf (L2.CX P w) P w K mg base ["bad", "good", "odd", "sizes", "by", "term", "library", "found"] "_law_asks" (defScope s_law_asks) f (.ref cc) A outer s H E) PA PL CN H vb vg vo 8)) (psc_cons (ps_expr (pe_bm PySem.F.plainAttrs_list PySem.F.slot_list_append PySem.F.type_list_append mt_append (pv 7) (pa_cons (pe_lamV (sc := defScope s_law_asks) (k := 86) (fr := ["bad", "good", "odd"]) (js := [0, 1, 2]) (sp := (fun ws H Q E => ∃ a0 a1 a2 : V, ws = [some a0, some a1, some a2] ∧ (spRA K CN 1) [a0, a1, a2] H Q E)) TB rfl (List.mem_cons_self : (PA, lamA) ∈ T05 PA PL) (T05.a ne) rfl (by decide +kernel) rfl (lam_ok (k := 85) (by decide +kernel) (fun _ _ _ _ => rfl) (fun f cl c' A outer s H ws Q E hr h => ⟨_, (pe_calC C_apart_fault (hr.mono (by first | decide | omega)) (passes_call (takes_of rfl rfl rfl rfl) (fun _ _ _ _ h => h)) (pa_cons (pv 0) (pa_cons (pv 1) (pa_cons (pv 2) pa_nil)))), by obtain ⟨a0, a1, a2, rfl, h⟩ := h; exact ⟨_, rfl, _, rfl, _, rfl, h⟩⟩))) pa_nil)))
  (psc_gen (I := (AskI (cxOf (L2.CX P w) P w K mg base ["bad", "good", "odd", "sizes", "by", "term", "library", "found"] "_law_asks" (defScope s_law_asks) f (.ref cc) A outer s H E) PA PL CN H vb vg vo 9)) (psc_cons (ps_expr (pe_bm PySem.F.plainAttrs_list PySem.F.slot_list_append PySem.F.type_list_append mt_append (pv 7) (pa_cons (pe_lamV (sc := defScope s_law_asks) (k := 86) (fr := ["good", "bad", "odd"]) (js := [1, 0, 2]) (sp := (fun ws H Q E => ∃ a0 a1 a2 : V, ws = [some a0, some a1, some a2] ∧ (spRA K CN 1) [a0, a1, a2] H Q E)) TB rfl (List.mem_cons_self : (PA, lamA) ∈ T05 PA PL) (T05.a ne) rfl (by decide +kernel) rfl (lam_ok (k := 85) (by decide +kernel) (fun _ _ _ _ => rfl) (fun f cl c' A outer s H ws Q E hr h => ⟨_, (pe_calC C_apart_fault (hr.mono (by first | decide | omega)) (passes_call (takes_of rfl rfl rfl rfl) (fun _ _ _ _ h => h)) (pa_cons (pv 0) (pa_cons (pv 1) (pa_cons (pv 2) pa_nil)))), by obtain ⟨a0, a1, a2, rfl, h⟩ := h; exact ⟨_, rfl, _, rfl, _, rfl, h⟩⟩))) pa_nil)))
  (psc_gen (I := (AskI (cxOf (L2.CX P w) P w K mg base ["bad", "good", "odd", "sizes", "by", "term", "library", "found"] "_law_asks" (defScope s_law_asks) f (.ref cc) A outer s H E) PA PL CN H vb vg vo 10)) (psc_cons (ps_expr (pe_bm PySem.F.plainAttrs_list PySem.F.slot_list_append PySem.F.type_list_append mt_append (pv 7) (pa_cons (pe_lamV (sc := defScope s_law_asks) (k := 86) (fr := ["bad", "sizes"]) (js := [0, 3]) (sp := (fun ws H Q E => ∃ a0 a1 : V, ws = [some a0, some a1] ∧ (spR K CN 2 0) [a0, a1] H Q E)) TB rfl (List.mem_cons_self : (PA, lamA) ∈ T05 PA PL) (T05.a ne) rfl (by decide +kernel) rfl (lam_ok (k := 85) (by decide +kernel) (fun _ _ _ _ => rfl) (fun f cl c' A outer s H ws Q E hr h => ⟨_, (pe_calC C_worths (hr.mono (by first | decide | omega)) (passes_call (takes_of rfl rfl rfl rfl) (fun _ _ _ _ h => h)) (pa_cons (pv 0) (pa_cons (pv 1) pa_nil))), by obtain ⟨a0, a1, rfl, h⟩ := h; exact ⟨_, rfl, _, rfl, h⟩⟩))) pa_nil)))
  (psc_gen (I := (AskI (cxOf (L2.CX P w) P w K mg base ["bad", "good", "odd", "sizes", "by", "term", "library", "found"] "_law_asks" (defScope s_law_asks) f (.ref cc) A outer s H E) PA PL CN H vb vg vo 11)) (psc_cons (ps_expr (pe_bm PySem.F.plainAttrs_list PySem.F.slot_list_append PySem.F.type_list_append mt_append (pv 7) (pa_cons (pe_lamV (sc := defScope s_law_asks) (k := 86) (fr := ["bad", "sizes"]) (js := [0, 3]) (sp := (fun ws H Q E => ∃ a0 a1 : V, ws = [some a0, some a1] ∧ (spR K CN 3 0) [a0, a1, .int 0] H Q E)) TB rfl (List.mem_cons_self : (PA, lamA) ∈ T05 PA PL) (T05.a ne) rfl (by decide +kernel) rfl (lam_ok (k := 85) (by decide +kernel) (fun _ _ _ _ => rfl) (fun f cl c' A outer s H ws Q E hr h => ⟨_, (pe_calC C_is_worth (hr.mono (by first | decide | omega)) (passes_call (takes_of rfl rfl rfl rfl) (fun _ _ _ _ h => h)) (pa_cons (pv 0) (pa_cons (pv 1) (pa_cons pe_int pa_nil)))), by obtain ⟨a0, a1, rfl, h⟩ := h; exact ⟨_, rfl, _, rfl, h⟩⟩))) pa_nil)))
  (psc_gen (I := (AskI (cxOf (L2.CX P w) P w K mg base ["bad", "good", "odd", "sizes", "by", "term", "library", "found"] "_law_asks" (defScope s_law_asks) f (.ref cc) A outer s H E) PA PL CN H vb vg vo 12)) (psc_cons (ps_expr (pe_bm PySem.F.plainAttrs_list PySem.F.slot_list_append PySem.F.type_list_append mt_append (pv 7) (pa_cons (pe_lamV (sc := defScope s_law_asks) (k := 86) (fr := ["bad", "good"]) (js := [0, 1]) (sp := (fun ws H Q E => ∃ a0 a1 : V, ws = [some a0, some a1] ∧ (spRA K CN 0) [a0, a1] H Q E)) TB rfl (List.mem_cons_self : (PA, lamA) ∈ T05 PA PL) (T05.a ne) rfl (by decide +kernel) rfl (lam_ok (k := 85) (by decide +kernel) (fun _ _ _ _ => rfl) (fun f cl c' A outer s H ws Q E hr h => ⟨_, (pe_calC C_turner (hr.mono (by first | decide | omega)) (passes_call (takes_of rfl rfl rfl rfl) (fun _ _ _ _ h => h)) (pa_cons (pv 0) (pa_cons (pv 1) pa_nil))), by obtain ⟨a0, a1, rfl, h⟩ := h; exact ⟨_, rfl, _, rfl, h⟩⟩))) pa_nil)))
  (psc_gen (I := (AskI (cxOf (L2.CX P w) P w K mg base ["bad", "good", "odd", "sizes", "by", "term", "library", "found"] "_law_asks" (defScope s_law_asks) f (.ref cc) A outer s H E) PA PL CN H vb vg vo 13)) (psc_cons (ps_expr (pe_bm PySem.F.plainAttrs_list PySem.F.slot_list_append PySem.F.type_list_append mt_append (pv 7) (pa_cons (pe_lamV (sc := defScope s_law_asks) (k := 86) (fr := ["good", "bad"]) (js := [1, 0]) (sp := (fun ws H Q E => ∃ a0 a1 : V, ws = [some a0, some a1] ∧ (spRA K CN 0) [a0, a1] H Q E)) TB rfl (List.mem_cons_self : (PA, lamA) ∈ T05 PA PL) (T05.a ne) rfl (by decide +kernel) rfl (lam_ok (k := 85) (by decide +kernel) (fun _ _ _ _ => rfl) (fun f cl c' A outer s H ws Q E hr h => ⟨_, (pe_calC C_turner (hr.mono (by first | decide | omega)) (passes_call (takes_of rfl rfl rfl rfl) (fun _ _ _ _ h => h)) (pa_cons (pv 0) (pa_cons (pv 1) pa_nil))), by obtain ⟨a0, a1, rfl, h⟩ := h; exact ⟨_, rfl, _, rfl, h⟩⟩))) pa_nil)))
  (psc_gen (I := (AskI (cxOf (L2.CX P w) P w K mg base ["bad", "good", "odd", "sizes", "by", "term", "library", "found"] "_law_asks" (defScope s_law_asks) f (.ref cc) A outer s H E) PA PL CN H vb vg vo 14)) (psc_cons (ps_expr (pe_bm PySem.F.plainAttrs_list PySem.F.slot_list_append PySem.F.type_list_append mt_append (pv 7) (pa_cons (pe_lamV (sc := defScope s_law_asks) (k := 86) (fr := ["bad", "good", "term"]) (js := [0, 1, 5]) (sp := (fun ws H Q E => ∃ a0 a1 a2 : V, ws = [some a0, some a1, some a2] ∧ (spRA K CN 2) [a0, a1, a2, a2] H Q E)) TB rfl (List.mem_cons_self : (PA, lamA) ∈ T05 PA PL) (T05.a ne) rfl (by decide +kernel) rfl (lam_ok (k := 85) (by decide +kernel) (fun _ _ _ _ => rfl) (fun f cl c' A outer s H ws Q E hr h => ⟨_, (pe_calC C_turn_fault (hr.mono (by first | decide | omega)) (passes_call (takes_of rfl rfl rfl rfl) (fun _ _ _ _ h => h)) (pa_cons (pv 0) (pa_cons (pv 1) (pa_cons (pv 2) (pa_cons (pv 2) pa_nil))))), by obtain ⟨a0, a1, a2, rfl, h⟩ := h; exact ⟨_, rfl, _, rfl, _, rfl, _, rfl, h⟩⟩))) pa_nil)))
  (psc_gen (I := (AskI (cxOf (L2.CX P w) P w K mg base ["bad", "good", "odd", "sizes", "by", "term", "library", "found"] "_law_asks" (defScope s_law_asks) f (.ref cc) A outer s H E) PA PL CN H vb vg vo 15)) (psc_cons (ps_expr (pe_bm PySem.F.plainAttrs_list PySem.F.slot_list_append PySem.F.type_list_append mt_append (pv 7) (pa_cons (pe_lamV (sc := defScope s_law_asks) (k := 86) (fr := ["good", "bad", "term"]) (js := [1, 0, 5]) (sp := (fun ws H Q E => ∃ a0 a1 a2 : V, ws = [some a0, some a1, some a2] ∧ (spRA K CN 2) [a0, a1, a2, a2] H Q E)) TB rfl (List.mem_cons_self : (PA, lamA) ∈ T05 PA PL) (T05.a ne) rfl (by decide +kernel) rfl (lam_ok (k := 85) (by decide +kernel) (fun _ _ _ _ => rfl) (fun f cl c' A outer s H ws Q E hr h => ⟨_, (pe_calC C_turn_fault (hr.mono (by first | decide | omega)) (passes_call (takes_of rfl rfl rfl rfl) (fun _ _ _ _ h => h)) (pa_cons (pv 0) (pa_cons (pv 1) (pa_cons (pv 2) (pa_cons (pv 2) pa_nil))))), by obtain ⟨a0, a1, a2, rfl, h⟩ := h; exact ⟨_, rfl, _, rfl, _, rfl, _, rfl, h⟩⟩))) pa_nil)))
  (psc_gen (I := (AskI (cxOf (L2.CX P w) P w K mg base ["bad", "good", "odd", "sizes", "by", "term", "library", "found"] "_law_asks" (defScope s_law_asks) f (.ref cc) A outer s H E) PA PL CN H vb vg vo 16)) (psc_cons (ps_expr (pe_bm PySem.F.plainAttrs_list PySem.F.slot_list_append PySem.F.type_list_append mt_append (pv 7) (pa_cons (pe_lamV (sc := defScope s_law_asks) (k := 86) (fr := ["library", "bad"]) (js := [6, 0]) (sp := (fun ws H Q E => ∃ a0 a1 : V, ws = [some a0, some a1] ∧ (spR K CN 2 1) [a0, a1] H Q E)) TB rfl (List.mem_cons_self : (PA, lamA) ∈ T05 PA PL) (T05.a ne) rfl (by decide +kernel) rfl (lam_ok (k := 85) (by decide +kernel) (fun _ _ _ _ => rfl) (fun f cl c' A outer s H ws Q E hr h => ⟨_, (pe_calC C_search (hr.mono (by first | decide | omega)) (passes_call (takes_of rfl rfl rfl rfl) (fun _ _ _ _ h => h)) (pa_cons (pv 0) (pa_cons (pv 1) pa_nil))), by obtain ⟨a0, a1, rfl, h⟩ := h; exact ⟨_, rfl, _, rfl, h⟩⟩))) pa_nil)))
  (psc_gen (I := (AskI (cxOf (L2.CX P w) P w K mg base ["bad", "good", "odd", "sizes", "by", "term", "library", "found"] "_law_asks" (defScope s_law_asks) f (.ref cc) A outer s H E) PA PL CN H vb vg vo 17)) (psc_cons (ps_expr (pe_bm PySem.F.plainAttrs_list PySem.F.slot_list_append PySem.F.type_list_append mt_append (pv 7) (pa_cons (pe_lamV (sc := defScope s_law_asks) (k := 86) (fr := ["library", "bad", "odd"]) (js := [6, 0, 2]) (sp := (fun ws H Q E => ∃ a0 a1 a2 : V, ws = [some a0, some a1, some a2] ∧ (spR K CN 4 1) [a0, a1, .str "x", a2] H Q E)) TB rfl (List.mem_cons_self : (PA, lamA) ∈ T05 PA PL) (T05.a ne) rfl (by decide +kernel) rfl (lam_ok (k := 85) (by decide +kernel) (fun _ _ _ _ => rfl) (fun f cl c' A outer s H ws Q E hr h => ⟨_, (pe_calC C_search_fault (hr.mono (by first | decide | omega)) (passes_call (takes_of rfl rfl rfl rfl) (fun _ _ _ _ h => h)) (pa_cons (pv 0) (pa_cons (pv 1) (pa_cons pe_str (pa_cons (pv 2) pa_nil))))), by obtain ⟨a0, a1, a2, rfl, h⟩ := h; exact ⟨_, rfl, _, rfl, _, rfl, h⟩⟩))) pa_nil)))
  (psc_gen (I := (AskI (cxOf (L2.CX P w) P w K mg base ["bad", "good", "odd", "sizes", "by", "term", "library", "found"] "_law_asks" (defScope s_law_asks) f (.ref cc) A outer s H E) PA PL CN H vb vg vo 18)) (psc_ret (pv 7)) ?g21)) ?g20)) ?g19)) ?g18)) ?g17)) ?g16)) ?g15)) ?g14)) ?g13)) ?g12)) ?g11)) ?g10)) ?g9)) ?g8)) ?g7)) ?g6)) ?g5)) ?g4)) ?g3)) ?g2)) ?g1)), ?_⟩
  case g21 =>
    rintro R σ H1 ⟨s, b, t, l, fl, us, rfl, f0, e1, ln, md, tb, ex, r⟩
    exact ⟨_, rfl, r _ H1 ⟨s, b, t, l, fl, us, rfl, f0, e1, ln, md, tb, ex⟩ fl rfl⟩
  case g20 => exact fun R σ H1 I => app_step (by decide) I (fun s b t l x H' e Q E hE => ⟨l, vb, vo, rfl, vb, d, rfl, rfl, Dq.extN e hb, zb, no, hE⟩)
  case g19 => exact fun R σ H1 I => app_step (by decide) I (fun s b t l x H' e Q E hE => ⟨l, vb, rfl, vb, d, rfl, rfl, Dq.extN e hb, zb, no, hE⟩)
  case g18 => exact fun R σ H1 I => app_step (by decide) I (fun s b t l x H' e Q E hE => ⟨vg, vb, t, rfl, vg, k.dat, vb, d, _, rfl, rfl, Dq.extN e hg, Dq.extN e hb, zg, zb, .inr ⟨⟨k, ok, rfl, bd⟩, no⟩, hE⟩)
  case g17 => exact fun R σ H1 I => app_step (by decide) I (fun s b t l x H' e Q E hE => ⟨vb, vg, t, rfl, vb, d, vg, k.dat, _, rfl, rfl, Dq.extN e hb, Dq.extN e hg, zb, zg, .inl no, hE⟩)
  case g16 => exact fun R σ H1 I => app_step (by decide) I (fun s b t l x H' e Q E hE => ⟨vg, vb, rfl, vg, k.dat, vb, d, _, rfl, rfl, Dq.extN e hg, Dq.extN e hb, zg, zb, .inr ⟨⟨k, ok, rfl, bd⟩, no⟩, hE⟩)
  case g15 => exact fun R σ H1 I => app_step (by decide) I (fun s b t l x H' e Q E hE => ⟨vb, vg, rfl, vb, d, vg, k.dat, _, rfl, rfl, Dq.extN e hb, Dq.extN e hg, zb, zg, .inl no, hE⟩)
  case g14 => exact fun R σ H1 I => app_step (by decide) I (fun s b t l x H' e Q E hE => ⟨vb, s, rfl, vb, d, rfl, rfl, Dq.extN e hb, zb, no, hE⟩)
  case g13 => exact fun R σ H1 I => app_step (by decide) I (fun s b t l x H' e Q E hE => ⟨vb, s, rfl, vb, d, rfl, rfl, Dq.extN e hb, zb, no, hE⟩)
  case g12 => exact fun R σ H1 I => app_step (by decide) I (fun s b t l x H' e Q E hE => ⟨vg, vb, vo, rfl, vg, k.dat, vb, d, _, rfl, rfl, Dq.extN e hg, Dq.extN e hb, zg, zb, .inr ⟨⟨k, ok, rfl, bd⟩, no⟩, hE⟩)
  case g11 => exact fun R σ H1 I => app_step (by decide) I (fun s b t l x H' e Q E hE => ⟨vb, vg, vo, rfl, vb, d, vg, k.dat, _, rfl, rfl, Dq.extN e hb, Dq.extN e hg, zb, zg, .inl no, hE⟩)
  case g10 => exact fun R σ H1 I => app_step (by decide) I (fun s b t l x H' e Q E hE => ⟨vg, vb, rfl, vg, k.dat, vb, d, _, rfl, rfl, Dq.extN e hg, Dq.extN e hb, zg, zb, .inr ⟨⟨k, ok, rfl, bd⟩, no⟩, hE⟩)
  case g9 => exact fun R σ H1 I => app_step (by decide) I (fun s b t l x H' e Q E hE => ⟨vb, vg, rfl, vb, d, vg, k.dat, _, rfl, rfl, Dq.extN e hb, Dq.extN e hg, zb, zg, .inl no, hE⟩)
  case g8 => exact fun R σ H1 I => app_step (by decide) I (fun s b t l x H' e Q E hE => ⟨vb, s, b, rfl, vb, d, rfl, rfl, Dq.extN e hb, zb, no, hE⟩)
  case g7 => exact fun R σ H1 I => app_step (by decide) I (fun s b t l x H' e Q E hE => ⟨vb, s, rfl, vb, d, rfl, rfl, Dq.extN e hb, zb, no, hE⟩)
  case g6 => exact fun R σ H1 I => app_step (by decide) I (fun s b t l x H' e Q E hE => ⟨vg, vb, rfl, vg, k.dat, vb, d, rfl, Dq.extN e hg, Dq.extN e hb, zg, zb, fun _ k' _ ok' _ ek => no_kd no ok' ek, fun h => not_kd ok h, fun _ _ => ⟨fun k' ok' ek => (by rw [← Kd.dat_inj _ _ ek]; exact bd), hE⟩⟩)
  case g5 => exact fun R σ H1 I => app_step (by decide) I (fun s b t l x H' e Q E hE => ⟨vb, vg, rfl, vb, d, vg, k.dat, rfl, Dq.extN e hb, Dq.extN e hg, zb, zg, fun k' _ ok' _ ek => no_kd no ok' ek, fun _ => hE, fun h => absurd h (by rw [no]; decide)⟩)
  case g4 => exact fun R σ H1 I => app_step (by decide) I (fun s b t l x H' e Q E hE => ⟨vb, rfl, vb, d, rfl, Dq.extN e hb, zb, fun k' ok' ek => no_kd no ok' ek, fun _ => hE⟩)
  case g3 =>
    rintro R σ H1 ⟨s, b, t, l, rfl, sm, tb, r⟩
    refine ⟨tb, fun f F bd' H2 eN T2 fN la ok2 => ⟨(by show 1 ≤ sizeLine; decide), fun fl hfl => ?_⟩⟩
    have e1 : LamX.ExtN H H2 := (LamX.ExtN.of sm).trans eN
    have f0 : Nw H fl := Nw.back e1 (Nw.of hfl)
    have s3 := same_new hfl (.lst [.ref f])
    have eo : ∀ b o, H2 b = some o → out fl (upd H2 fl (.lst [.ref f])) b = some o := fun b o h => by
      have n := ne_of_none h hfl
      exact out_at n ((upd_ne n).trans h)
    have lo : LamAt _ f F bd' ["bad"] [0] (out fl (upd H2 fl (.lst [.ref f]))) := la.ext (LamX.ExtN.of eo)
    refine ⟨s, b, t, l, fl, [.ref f], rfl, f0, upd_same, rfl, fun u hu => ?_, T2.ext s3, e1.trans (LamX.ExtN.of eo), r⟩
    rw [List.mem_singleton.mp hu]
    refine ⟨f, F, bd', _, _, _, rfl, lo, ok2, fun H' e' Q E hE => ?_⟩
    have e := (e1.trans (LamX.ExtN.of eo)).trans e'
    exact ⟨vb, rfl, vb, d, rfl, Dq.extN e hb, zb, fun k' ok' ek => no_kd no ok' ek, fun _ => hE⟩
  case g2 =>
    rintro R σ H1 ⟨s, b, t, l, rfl, sm, tb, r⟩
    refine ⟨_, rfl, (by show 2 ≤ sizeLine; decide), fun p1 hp1 => ?_⟩
    have s1 := sm.trans (same_new hp1 (.tup [.str "x", vg]))
    refine ⟨(by show 1 ≤ sizeLine; decide), fun p2 hp2 => ?_⟩
    have s2 := s1.trans (same_new hp2 (.lst [.ref p1]))
    refine ⟨_, rfl, (by show 2 ≤ sizeLine; decide), fun p3 hp3 => ?_⟩
    have s3 := s2.trans (same_new hp3 (.lst [.ref p2, vo]))
    have t3 := (((tb.ext (same_new hp1 (.tup [.str "x", vg]))).ext (same_new hp2 (.lst [.ref p1]))).ext (same_new hp3 (.lst [.ref p2, vo])))
    refine ⟨_, rfl, rfl, .inr ⟨_, rfl, pick upd_same _ fun v => ⟨s, b, t, v, rfl, s3, t3, r⟩⟩⟩
  case g1 =>
    rintro R σ H1 ⟨s, b, t, l, rfl, sm, tb, r⟩
    refine ⟨(by show 1 ≤ sizeLine; decide), fun p1 hp1 => ?_⟩
    have s1 := sm.trans (same_new hp1 (.tup [.str "unit"]))
    refine ⟨_, rfl, (by show 2 ≤ sizeLine; decide), fun p3 hp3 => ?_⟩
    have s3 := s1.trans (same_new hp3 (.lst [.ref p1, vo]))
    have t3 := ((tb.ext (same_new hp1 (.tup [.str "unit"]))).ext (same_new hp3 (.lst [.ref p1, vo])))
    refine ⟨_, rfl, rfl, .inr ⟨_, rfl, pick upd_same _ fun v => ⟨s, b, v, v, rfl, s3, t3, r⟩⟩⟩
  refine ⟨(by show 1 ≤ sizeLine; decide), fun p1 hp1 => ?_⟩
  have s1 := same_new hp1 (.lst [.int 2])
  refine .inr ⟨p1, 8, _, rfl, rfl, upd_same, by decide, by decide, (by show 1 * 8 ≤ sizeLine; decide), fun p2 hp2 => ?_⟩
  have s2 := s1.trans (same_new hp2 (.lst (List.replicate (8 : Int).toNat [V.int 2]).flatten))
  refine ⟨_, rfl, (by show 2 ≤ sizeLine; decide), fun p3 hp3 => ?_⟩
  have s3 := s2.trans (same_new hp3 (.lst [.ref p2, vo]))
  refine ⟨_, rfl, rfl, .inr ⟨_, rfl, pick upd_same _ fun v1 => ?_⟩⟩
  refine ⟨_, rfl, (by show 2 ≤ sizeLine; decide), fun p4 hp4 => ?_⟩
  have s4 := s3.trans (same_new hp4 (.lst [.int 7, vo]))
  refine ⟨_, rfl, rfl, .inr ⟨_, rfl, pick upd_same _ fun v2 => ?_⟩⟩
  refine ⟨(by show 2 ≤ sizeLine; decide), fun p5 hp5 => ⟨p5, _, rfl, .of upd_same, rfl, _, _, rfl, _, _, rfl, rfl, ?_⟩⟩
  have s5 := s4.trans (same_new hp5 (.tup [v1, v2]))
  refine ⟨v1, v2, v1, v1, rfl, s5, tabs.ext s5, ?_⟩
  rintro σ' H' ⟨s, b, t, l, fl, us, rfl, f0, e1, ln, md, tb, ex⟩ fl2 hfl2 H'' Tr
  cases hfl2
  have os : LamX.ExtN (out fl H') H' := LamX.ExtN.of (out_sub fl H')
  exact q fl us H'' f0 (Tr.sub _ _ e1) ln (fun u hu => ((md u hu).ext os).raises Tr) (tb.ext Tr.sub) ((ex.trans os).trans (LamX.ExtN.of Tr.sub))
end
/-! ## the words of a row of calls, out of their maker's frame -/
def tLive (X : Cx) (sp : Sp) (t : TA) : L2.St → TE := fun σ σ' H' Q => t σ' H' fun vs H1 => ∀ H2, Trk X σ H1 H2 → sp vs H2 (fun v H3 => Q v (offL (cellsL X) H3)) fun _ _ _ => False
theorem wipe1 (σ : L2.St) (j : Nat) (o : Option V) : wipe (σ.set j o) [j] = wipe σ [j] := by simp [wipe]
theorem words_q {X : Cx} {K : PySem.W.Frag} {CN CL C : Addr} {σ : L2.St} {i j : Nat} {a : Addr} {us : List V} {H1 : Hp} {Q : VK} {word : Str} (hj : j < σ.length) (ei : σ[i]? = some (some (.ref a))) (hs : SqL K H1 a us) (hl : us.length ≤ 1000)
    (cw : (C = CN ∧ word = "kind") ∨ (C = CL ∧ word = "library")) (md : ∀ u ∈ us, Made X σ 86 C H1 u) (q : ∀ D H', H1 D = none → H' D = some (.lst (List.replicate us.length (.str word))) → Same H1 (out D H') → Q (.ref D) H') :
    tLc (iList K (tVar i)) (gName j) tYes (tLive X (spWord X.prog X.w X.K X.mg X.base CN CL) (tCons (tVar j) tNil) σ) [j] σ H1 Q := by
  refine ⟨_, ei, a, rfl, ⟨us, hs⟩, fun D hD => ?_⟩
  refine lc_list (K := K) (a := a) (xs := us) (fun n H' => H' D = some (.lst (List.replicate n (.str word))) ∧ Same H1 (out D H')) ⟨upd_same, same_out hD (same_new hD _)⟩ (fun n H' _ h => L2.Same.seq (of_out h.2) hs) ?_ (fun H' h => q D H' hD h.1 h.2)
  rintro n u H2 hu ⟨e2, s2⟩
  refine ⟨wipe1 _ _ _ |>.trans (by simp [wipe]), ?_⟩
  have mu := (md u (List.mem_of_getElem? hu)).ext (LamX.ExtN.of (of_out s2))
  have lw : j < (wipe σ [j]).length := by rw [wipe_length]; exact hj
  refine ⟨u, by simp [gName, lw], fun H3 T => ?_⟩
  have fin : ∀ H4, Same H3 H4 → ∃ acc, (offL (cellsL X) H4) D = some (.lst acc) ∧ acc.length < sizeLine ∧ ((upd (offL (cellsL X) H4) D (.lst (acc ++ [.str word]))) D = some (.lst (List.replicate (n + 1) (.str word))) ∧ Same H1 (out D (upd (offL (cellsL X) H4) D (.lst (acc ++ [.str word]))))) := fun H4 s4 => by
    have nl : ∀ b o, H2 b = some o → b ∉ cellsL X := fun b o e m => by
      obtain ⟨x, hx⟩ := cellsL_mem.mp m
      rw [T.non x b hx] at e; cases e
    have up : ∀ b o, H2 b = some o → offL (cellsL X) H4 b = some o := fun b o e => by
      rw [offL_out (nl b o e)]; exact s4 _ _ (T.sub _ _ e)
    have hn : n < us.length := by
      rcases Nat.lt_or_ge n us.length with h | h
      · exact h
      · rw [List.getElem?_eq_none h] at hu; cases hu
    refine ⟨_, up _ _ e2, by rw [List.length_replicate]; exact Nat.lt_of_lt_of_le hn (Nat.le_trans hl (by decide)), by rw [upd_same, List.replicate_succ'], fun b o e => ?_⟩
    have h := out_some (s2 b o e)
    exact out_at h.1 ((upd_ne h.1).trans (up _ _ h.2))
  refine ⟨u, rfl, ?_⟩
  rcases cw with ⟨rfl, rfl⟩ | ⟨rfl, rfl⟩
  · exact .inl ⟨mu.raises T, fun H4 s4 => fin H4 s4⟩
  · exact .inr ⟨mu.raises T, fun H4 s4 => fin H4 s4⟩
/-! ## lists of kinds and libraries with what is no kind -/
theorem cal_x {P : Program} {w : World} {K : PySem.W.Frag} {mg : Str → Option Value} {base : Heap} {k : Nat} {x : Str} {ps : List Str} {sp : Sp} (C : Cal P w K mg base CX0 k x ps sp) : Cal P w K mg base (L2.CX P w) k x ps sp := by
  obtain ⟨f, fd, F, b, kp, m⟩ := C
  refine ⟨f, fd, ⟨F.len, fun A outer s H args us vs Q E hr e0 hb r hs => codeAny_mono (F.run A outer s H args us vs Q E hr e0 hb r hs) fun r s' z => ?_⟩, b, kp, m⟩
  cases r with
  | error e => exact False.elim z
  | ok fl => cases fl <;> exact z
/-- what stays but the well and tables of code -/
structure AftN (wl : Addr) (H H' : Hp) : Prop where
  well : Well H' wl
  but : LamX.ExtN (out wl H) (out wl H')
def spLists (K : PySem.W.Frag) (PA PL : Addr) : Sp := fun vs H Q _ => ∃ (wl : Addr) (vb vg : V) (d : PyData) (k : Kd), vs = [.ref wl, vb, vg] ∧ Well H wl ∧ Dq K (out wl H) vb d ∧ sz d ≤ 1000 ∧ isKd d = false ∧ Dq K (out wl H) vg k.dat ∧ k.ok ∧ k.leaves ≤ 10 ∧
  LamX.Tabs (T05 PA PL) H ∧ ∀ H', AftN wl H H' → LamX.Tabs (T05 PA PL) H' → Q (.bl true) H'
theorem AftN.of {wl : Addr} {H H' : Hp} (a : Aft wl H H') : AftN wl H H' := ⟨a.well, LamX.ExtN.of a.but⟩
theorem AftN.trans {wl : Addr} {H H1 H2 : Hp} (a : AftN wl H H1) (b : AftN wl H1 H2) : AftN wl H H2 := ⟨b.well, a.but.trans b.but⟩
theorem ext_out {wl : Addr} {H H' : Hp} (e : LamX.ExtN H H') : LamX.ExtN (out wl H) (out wl H') := fun b o h n => by
  have h2 := out_some h
  exact out_at h2.1 (e b o h2.2 n)
theorem AftN.lam {wl : Addr} {H H' : Hp} (w : Well H wl) (e : LamX.ExtN H H') : AftN wl H H' := by
  obtain ⟨x, y, z, h⟩ := w
  exact ⟨⟨x, y, z, e _ _ h fun ps q => by cases q⟩, ext_out e⟩
theorem tabs_aft {T : List (Addr × Str)} {wl : Addr} {H H' : Hp} (w : Well H wl) (t : LamX.Tabs T H) (a : Aft wl H H') : LamX.Tabs T H' := fun p hp => by
  obtain ⟨x, y, z, hw⟩ := w
  obtain ⟨ps, h1, h2, h3⟩ := t p hp
  have at_ : ∀ b o, H b = some o → o ≠ .lst [.int x, .int y, .int z] → H' b = some o := fun b o h n => (out_some (a.but b o (out_at (ne_of h hw n) h))).2
  refine ⟨ps, at_ _ _ h1 (by intro z; cases z), h2, fun pos cv hc => ?_⟩
  obtain ⟨c, e1, e2⟩ := h3 pos cv hc
  exact ⟨c, e1, at_ _ _ e2 (by unfold LamX.CodeO; intro z; cases z)⟩
/-- what is known besides: both kinds, the row of kinds with what is none -/
structure GvF (K : PySem.W.Frag) (PA PL wl : Addr) (vb vg : V) (d : PyData) (k : Kd) (gl : Addr) (us : List V) (ds : List PyData) (H0 H : Hp) : Prop where
  aft : AftN wl H0 H
  tabs : LamX.Tabs (T05 PA PL) H
  b : Dq K (out wl H) vb d
  g : Dq K (out wl H) vg k.dat
  gn : gl ≠ wl
  ge : H gl = some (.lst us)
  gd : DqAll K (out wl H) us ds
  bad : ∃ x ∈ ds, isKd x = false
  small : ∀ x ∈ ds, sz x ≤ 1000
  few : ds.length ≤ 10
theorem dqs_ext {K : PySem.W.Frag} {H H' : Hp} {ds : List PyData} {vs : List V} (s : LamX.ExtN H H') (h : DqAll K H vs ds) : DqAll K H' vs ds := (h.notab.same (notab_ext s)).same (notab_sub H')
theorem GvF.ext {K : PySem.W.Frag} {PA PL wl : Addr} {vb vg : V} {d : PyData} {k : Kd} {gl : Addr} {us : List V} {ds : List PyData} {H0 H H' : Hp} (G : GvF K PA PL wl vb vg d k gl us ds H0 H) (a : AftN wl H H') (t : LamX.Tabs (T05 PA PL) H') : GvF K PA PL wl vb vg d k gl us ds H0 H' :=
  ⟨G.aft.trans a, t, Dq.extN a.but G.b, Dq.extN a.but G.g, G.gn, (out_some (a.but gl _ (out_at G.gn G.ge) fun ps z => by cases z)).2, dqs_ext a.but G.gd, G.bad, G.small, G.few⟩
theorem GvF.lst {K : PySem.W.Frag} {PA PL wl : Addr} {vb vg : V} {d : PyData} {k : Kd} {gl : Addr} {us : List V} {ds : List PyData} {H0 H : Hp} (G : GvF K PA PL wl vb vg d k gl us ds H0 H) : Dq K (out wl H) (.ref gl) (.list ds) := .lst (.of (out_at G.gn G.ge)) G.gd
theorem szs_le {n m : Nat} : ∀ {ds : List PyData}, (∀ x ∈ ds, sz x ≤ n) → ds.length ≤ m → szs ds ≤ m * n
  | [], _, _ => by simp [szs]
  | x :: r, h, hl => by
    obtain ⟨m', rfl⟩ : ∃ m', m = m' + 1 := ⟨m - 1, by simp at hl; omega⟩
    have := szs_le (m := m') (fun y hy => h y (List.mem_cons_of_mem _ hy)) (by simp at hl; omega)
    have := h x List.mem_cons_self
    simp only [szs, Nat.succ_mul]; omega
theorem GvF.sz {K : PySem.W.Frag} {PA PL wl : Addr} {vb vg : V} {d : PyData} {k : Kd} {gl : Addr} {us : List V} {ds : List PyData} {H0 H : Hp} (G : GvF K PA PL wl vb vg d k gl us ds H0 H) : KB.sz (.list ds) ≤ 1000000 := by
  have := szs_le G.small G.few
  simp only [KB.sz]; omega
theorem GvF.ks {K : PySem.W.Frag} {PA PL wl : Addr} {vb vg : V} {d : PyData} {k : Kd} {gl : Addr} {us : List V} {ds : List PyData} {H0 H : Hp} (G : GvF K PA PL wl vb vg d k gl us ds H0 H) : isKs (.list ds) = false := by
  obtain ⟨x, hx, hk⟩ := G.bad
  show ds.all isKd = false
  rw [List.all_eq_false]
  exact ⟨x, hx, by rw [hk]; decide⟩
theorem ext_h {wl : Addr} {H H' : Hp} (e : LamX.ExtN H H') : LamX.ExtN (out wl H) H' := fun b o h n => e b o (out_some h).2 n
theorem LbFew {ps : List (Str × PyData)} {ds : List PyData} (e : ps.map (·.2) = ds) (h : ds.length ≤ 10) : ps.length ≤ 1000 := by
  have := congrArg List.length e
  rw [List.length_map] at this
  omega
theorem LbSmall {ps : List (Str × PyData)} {ds : List PyData} (e : ps.map (·.2) = ds) (h : ∀ x ∈ ds, sz x ≤ 1000) : ∀ p ∈ ps, sz p.2 ≤ 1000000 := fun p hp => by
  have := h p.2 (by rw [← e]; exact List.mem_map.mpr ⟨p, hp, rfl⟩)
  omega
theorem LbBad {ps : List (Str × PyData)} {ds : List PyData} (e : ps.map (·.2) = ds) (h : ∃ x ∈ ds, isKd x = false) : ∃ p ∈ ps, isKd p.2 = false := by
  obtain ⟨x, hx, hk⟩ := h
  rw [← e] at hx
  obtain ⟨p, hp, rfl⟩ := List.mem_map.mp hx
  exact ⟨p, hp, hk⟩
theorem cut_dq {K : PySem.W.Frag} {H : Hp} {xs : List V} {ds : List PyData} (lo hi : Option Int) (a : DqAll K H xs ds) : ∃ es, DqAll K H (cutV xs lo hi) es ∧ (∀ x ∈ es, x ∈ ds) ∧ es.length ≤ ds.length := by
  refine ⟨_, ((a.drop _).take _), fun x hx => List.mem_of_mem_drop (List.mem_of_mem_take hx), ?_⟩
  rw [List.length_take, List.length_drop]; omega
/-- equal lists of data -/
theorem eq_same {K : PySem.W.Frag} {H : Hp} {a b : Addr} {us vs : List V} {ds : List PyData} {Q : VK} (e1 : H a = some (.lst us)) (d1 : DqAll K H us ds) (e2 : H b = some (.lst vs)) (d2 : DqAll K H vs ds) (lay : PyData.canLayAll0 ds = true) (dp : PyData.depthAll ds ≤ 180) (q : Q (.bl true) H) : rEqA K (.ref a) (.ref b) H Q := by
  have c : (PyData.list ds).canLay0 = true := by rw [PyData.canLay0]; exact lay
  refine .inr ⟨_, _, (Dq.lst (.of e1) d1).dp c, (Dq.lst (.of e2) d2).dp c, c, c, by simp only [PyData.depth]; omega, ?_⟩
  rw [SeqAt.eqv_refl _ c]
  exact q
theorem ne_same {K : PySem.W.Frag} {H : Hp} {a b : Addr} {us vs : List V} {ds : List PyData} {Q : VK} (e1 : H a = some (.lst us)) (d1 : DqAll K H us ds) (e2 : H b = some (.lst vs)) (d2 : DqAll K H vs ds) (lay : PyData.canLayAll0 ds = true) (dp : PyData.depthAll ds ≤ 180) (q : Q (.bl false) H) : rNeA K (.ref a) (.ref b) H Q := by
  have c : (PyData.list ds).canLay0 = true := by rw [PyData.canLay0]; exact lay
  refine .inr ⟨_, _, (Dq.lst (.of e1) d1).dp c, (Dq.lst (.of e2) d2).dp c, c, c, by simp only [PyData.depth]; omega, ?_⟩
  rw [SeqAt.eqv_refl _ c]
  exact q
/-- between two of the lambdas -/
structure AskL (X : Cx) (PA PL C : Addr) (n : Nat) (Hb : Hp) (σ0 : L2.St) (al : Addr) (σ : L2.St) (H1 : Hp) (vs : List V) : Prop where
  st : σ = σ0.set 7 (some (.ref al))
  lg : 7 < σ0.length
  nw : Nw Hb al
  at_ : H1 al = some (.lst vs)
  len : vs.length = n
  md : ∀ u ∈ vs, Made X σ 86 C (out al H1) u
  tabs : LamX.Tabs (T05 PA PL) H1
  ext : LamX.ExtN Hb (out al H1)
theorem appL {X : Cx} {K : PySem.W.Frag} {PA PL C al : Addr} {n : Nat} {Hb : Hp} {σ0 σ : L2.St} {H1 : Hp} {vs : List V} {fr : List Str} {js : List Nat} {sp : List (Option V) → Hp → VK → XK → Prop} {D : Ends} (hn : n ≤ 20) (I : AskL X PA PL C n Hb σ0 al σ H1 vs)
    (ref : ∀ (H' : Hp), LamX.ExtN Hb H' → ∀ (Q : VK) (E : XK), (∀ H'', Same H' H'' → E (.ref C) none H'') → sp (js.map (NdefX.slotAt (σ0.set 7 (some (.ref al))))) H' Q E) (nx : ∀ H2 vs2, AskL X PA PL C (n + 1) Hb σ0 al σ H2 vs2 → D.nx σ H2) :
    tDrop (tBM K "list" rAppend (tVar 7) (tCons (tLamV X (T05 PA PL) 86 fr js sp) tNil)) D σ H1 := by
  have e7 : σ[7]? = some (some (.ref al)) := by rw [I.st, List.getElem?_set_self I.lg]
  refine ⟨_, e7, .inl ⟨rfl, _, .of I.at_⟩, I.tabs, fun f F bd H2 eN T2 fN la ok => ?_⟩
  have e2 : H2 al = some (.lst vs) := eN _ _ I.at_ fun ps z => by cases z
  refine ⟨al, vs, _, rfl, rfl, e2, by rw [I.len]; exact Nat.lt_of_le_of_lt hn (by decide), ?_⟩
  have eo : LamX.ExtN (out al H1) (out al (upd H2 al (.lst (vs ++ [.ref f])))) := out_extN eN
  refine nx _ _ ⟨I.st, I.lg, I.nw, upd_same, by rw [List.length_append, I.len]; rfl, fun u hu => ?_, tabs_upd T2 e2, I.ext.trans eo⟩
  rcases List.mem_append.mp hu with hu | hu
  · exact (I.md u hu).ext eo
  · rw [List.mem_singleton.mp hu]
    exact ⟨f, F, bd, fr, js, sp, rfl, KW.LamAt.out la e2, ok, fun H' e' Q E hE => by rw [I.st]; exact ref H' ((I.ext.trans eo).trans e') Q E hE⟩
theorem newL {X : Cx} {PA PL C : Addr} {Hb : Hp} {σ0 : L2.St} {fr : List Str} {js : List Nat} {sp : List (Option V) → Hp → VK → XK → Prop} {D : Ends} (lg : 7 < σ0.length) (tb : LamX.Tabs (T05 PA PL) Hb)
    (ref : ∀ (al : Addr) (H' : Hp), LamX.ExtN Hb H' → ∀ (Q : VK) (E : XK), (∀ H'', Same H' H'' → E (.ref C) none H'') → sp (js.map (NdefX.slotAt (σ0.set 7 (some (.ref al))))) H' Q E) (nx : ∀ al H2 vs2, AskL X PA PL C 1 Hb σ0 al (σ0.set 7 (some (.ref al))) H2 vs2 → D.nx (σ0.set 7 (some (.ref al))) H2) :
    tAsg (tLst (tCons (tLamV X (T05 PA PL) 86 fr js sp) tNil)) (gName 7) D σ0 Hb := by
  refine ⟨tb, fun f F bd H2 eN T2 fN la ok2 => ⟨(by show 1 ≤ sizeLine; decide), fun al hal => ?_⟩⟩
  have eo : ∀ b o, H2 b = some o → out al (upd H2 al (.lst [.ref f])) b = some o := fun b o h => by
    have n := ne_of_none h hal
    exact out_at n ((upd_ne n).trans h)
  refine nx al _ _ ⟨rfl, lg, Nw.back eN (Nw.of hal), upd_same, rfl, fun u hu => ?_, T2.ext (same_new hal _), eN.trans (LamX.ExtN.of eo)⟩
  rw [List.mem_singleton.mp hu]
  exact ⟨f, F, bd, fr, js, sp, rfl, la.ext (LamX.ExtN.of eo), ok2, fun H' e' Q E hE => ref al H' ((eN.trans (LamX.ExtN.of eo)).trans e') Q E hE⟩
def Fin (wl PA PL : Addr) (H : Hp) (Q : VK) (D : Ends) : Prop := (∀ H', AftN wl H H' → LamX.Tabs (T05 PA PL) H' → D.rt (.bl true) H')
def C4 (K : PySem.W.Frag) (PA PL wl : Addr) (vb vg : V) (d : PyData) (k : Kd) (H : Hp) (Q : VK) : TS := fun D σ H1 => ∃ (o3 o4 o7 o8 o9 o10 o11 o12 : Option V) (gl : Addr) (tv : V) (us : List V) (ds : List PyData), σ = [some (.ref wl), some vb, some vg, o3, o4, some (.ref gl), some tv, o7, o8, o9, o10, o11, o12] ∧ GvF K PA PL wl vb vg d k gl us ds H H1 ∧ Fin wl PA PL H Q D
def CA (X : Cx) (PA PL wl : Addr) (vb vg : V) (d : PyData) (k : Kd) (H : Hp) (Q : VK) (C : Addr) (n : Nat) : TS := fun D σ H1 => ∃ (o3 o4 o7 o8 o9 o10 o11 o12 : Option V) (gl : Addr) (tv : V) (us : List V) (ds : List PyData) (Hb : Hp) (al : Addr) (vs : List V),
  GvF X.K PA PL wl vb vg d k gl us ds H Hb ∧ AskL X PA PL C n Hb [some (.ref wl), some vb, some vg, o3, o4, some (.ref gl), some tv, o7, o8, o9, o10, o11, o12] al σ H1 vs ∧ Fin wl PA PL H Q D
/-- the library's rows -/
def LbF (K : PySem.W.Frag) (wl : Addr) (lb : V) (ds : List PyData) (H : Hp) : Prop := ∃ ps : List (Str × PyData), ps.map (·.2) = ds ∧ Dq K (out wl H) lb (.list (ps.map rowD))
def C10 (K : PySem.W.Frag) (PA PL wl : Addr) (vb vg : V) (d : PyData) (k : Kd) (H : Hp) (Q : VK) : TS := fun D σ H1 => ∃ (o3 o4 o7 o8 o10 o11 o12 : Option V) (gl : Addr) (tv lb : V) (us : List V) (ds : List PyData), σ = [some (.ref wl), some vb, some vg, o3, o4, some (.ref gl), some tv, o7, o8, some lb, o10, o11, o12] ∧ GvF K PA PL wl vb vg d k gl us ds H H1 ∧ LbF K wl lb ds H1 ∧ Fin wl PA PL H Q D
def C11 (K : PySem.W.Frag) (PA PL wl : Addr) (vb vg : V) (d : PyData) (k : Kd) (H : Hp) (Q : VK) : TS := fun D σ H1 => ∃ (o3 o4 o7 o8 o10 o11 : Option V) (gl : Addr) (tv lb nv : V) (us : List V) (ds : List PyData), σ = [some (.ref wl), some vb, some vg, o3, o4, some (.ref gl), some tv, o7, o8, some lb, o10, o11, some nv] ∧ GvF K PA PL wl vb vg d k gl us ds H H1 ∧ LbF K wl lb ds H1 ∧ Fin wl PA PL H Q D
def CB (X : Cx) (PA PL wl : Addr) (vb vg : V) (d : PyData) (k : Kd) (H : Hp) (Q : VK) (C : Addr) (n : Nat) : TS := fun D σ H1 => ∃ (o3 o4 o7 o8 o10 o11 : Option V) (gl : Addr) (tv lb nv : V) (us : List V) (ds : List PyData) (Hb : Hp) (al : Addr) (vs : List V),
  GvF X.K PA PL wl vb vg d k gl us ds H Hb ∧ LbF X.K wl lb ds Hb ∧ AskL X PA PL C n Hb [some (.ref wl), some vb, some vg, o3, o4, some (.ref gl), some tv, o7, o8, some lb, o10, o11, some nv] al σ H1 vs ∧ Fin wl PA PL H Q D
abbrev s_law_lists_right : Stmt := top 137
theorem sc_law_lists_right : FnScope ["well", "bad", "good", "some", "spot", "given", "term", "asks", "ask", "library", "k", "kind", "name"] ["well", "bad", "good"] (defScope s_law_lists_right) := ⟨rfl, rfl, rfl, by decide +kernel, rfl, by decide +kernel, by decide +kernel⟩
section
variable {P : Program} {w : World} {K : PySem.W.Frag} {mg : Str → Option Value} {base : Heap} {CN CT CL : Addr}
theorem ok_lists {cc PA PL : Addr} (A : AtC K mg "_law_lists_right" s_law_lists_right cc) (TB : LamX.TabB base mg cc PL) (ne : PA ≠ PL) (T : Txt K mg w CN CT) (C_law_draw : Cal P w K mg base CX0 1 "_law_draw" ["well", "width"] spDraw) (C_law_word : Cal P w K mg base CX0 87 "_law_word" ["ask"] (spWord P w K mg base CN CL))
    (C_term_kind : Cal P w K mg base (L2.CX P w) 6 "term_kind" ["term", "given"] (spG K CN 2 1)) (C_plain : Cal P w K mg base (L2.CX P w) 6 "plain" ["term", "given"] (spG K CN 2 1)) (C_same : Cal P w K mg base (L2.CX P w) 6 "same" ["one", "other", "given"] (spG K CN 3 2))
    (C_search : Cal P w K mg base (L2.CX P w) 6 "search" ["library", "kind"] (spSl K CL 0)) (C_search_fault : Cal P w K mg base (L2.CX P w) 6 "search_fault" ["library", "kind", "name", "thing"] (spSl K CL 2)) : Cal P w K mg base CX0 88 "_law_lists_right" ["well", "bad", "good"] (spLists K PA PL) := by
  obtain ⟨f, fd, F, m, hcode⟩ := A
  have bI : Binds K fd ["well", "bad", "good"] [] := F.binds (ps := ["well", "bad", "good"]) (fun _ _ _ _ _ _ us hl => match us, hl with | [_, _, _], _ => rfl)
  have kp := F.kp
  obtain ⟨oc, od, kV, doc, pm, an, cdv, ct, osl, rfl, lk, hcd⟩ := F.ex
  have hcc : cdv = .ref cc := hcode
  subst hcc
  refine ⟨f, _, fn_of lk hcd sc_law_lists_right (fun vs H Q E h => ?_) (fun A outer s H vs Q E hr h => ?_), bI, kp, m⟩
  · obtain ⟨wl, vb, vg, d, k, rfl, _⟩ := h; rfl
  obtain ⟨wl, vb, vg, d, k, rfl, hw, hb, zb, no, hg, ok, lk5, tabs, q⟩ := h
  have zg : sz k.dat ≤ 1000000 := by have := k.sz_dat; omega
  refine ⟨_, (pss_cons (ps_set (i := 3) sc_law_lists_right.nd rfl (by first | exact Or.inl rfl | exact Or.inr rfl) (pe_slice sl_A (pe_lst (pa_cons (pv 2) (pa_cons (pe_tup (pa_cons pe_str pa_nil)) (pa_cons (pe_tup (pa_cons pe_str (pa_cons pe_int pa_nil))) (pa_cons (pv 2) pa_nil))))) po_none (po_some (pe_calC C_law_draw (hr.mono (by first | decide | omega)) pass0 (pa_cons (pv 0) (pa_cons pe_int pa_nil))))))
  (pss_cons (ps_set (i := 4) sc_law_lists_right.nd rfl (by first | exact Or.inl rfl | exact Or.inr rfl) (pe_calC C_law_draw (hr.mono (by first | decide | omega)) pass0 (pa_cons (pv 0) (pa_cons (pe_op op_addA (pe_callB call_len (by rfl) T.z_len (by decide +kernel) (pa_cons (pv 3) pa_nil)) pe_int) pa_nil))))
  (pss_cons (ps_set (i := 5) sc_law_lists_right.nd rfl (by first | exact Or.inl rfl | exact Or.inr rfl) (pe_op op_addA (pe_op op_addA (pe_slice sl_A (pv 3) po_none (po_some (pv 4))) (pe_lst (pa_cons (pv 1) pa_nil))) (pe_slice sl_A (pv 3) (po_some (pv 4)) po_none)))
  (pss_cons (ps_set (i := 6) sc_law_lists_right.nd rfl (by first | exact Or.inl rfl | exact Or.inr rfl) (pe_ix ix_B (pe_lst (pa_cons (pe_tup (pa_cons pe_str pa_nil)) (pa_cons (pe_tup (pa_cons pe_str (pa_cons pe_int pa_nil))) (pa_cons pe_non (pa_cons pe_int pa_nil))))) (pe_calC C_law_draw (hr.mono (by first | decide | omega)) pass0 (pa_cons (pv 0) (pa_cons pe_int pa_nil))) (fun _ _ => rfl)))
  (pss_gen (I := (C4 K PA PL wl vb vg d k H Q)) (pss_cons (ps_set (i := 7) sc_law_lists_right.nd rfl (by first | exact Or.inl rfl | exact Or.inr rfl) (pe_lst (pa_cons (pe_lamV (sc := defScope s_law_lists_right) (k := 86) (fr := ["term", "given"]) (js := [6, 5]) (sp := (fun ws H Q E => ∃ a0 a1 : V, ws = [some a0, some a1] ∧ (spG K CN 2 1) [a0, a1] H Q E)) TB rfl (List.mem_cons_of_mem _ List.mem_cons_self : (PL, lamL) ∈ T05 PA PL) (T05.l ne) rfl (by decide +kernel) rfl (lam_ok (k := 85) (by decide +kernel) (fun _ _ _ _ => rfl) (fun f cl c' A outer s H ws Q E hr h => ⟨_, (pe_calC C_term_kind (hr.mono (by first | decide | omega)) (passes_call (takes_of rfl rfl rfl rfl) (fun _ _ _ _ h => h)) (pa_cons (pv 0) (pa_cons (pv 1) pa_nil))), by obtain ⟨a0, a1, rfl, h⟩ := h; exact ⟨_, rfl, _, rfl, h⟩⟩))) pa_nil)))
  (pss_gen (I := (CA (cxOf CX0 P w K mg base ["well", "bad", "good", "some", "spot", "given", "term", "asks", "ask", "library", "k", "kind", "name"] "_law_lists_right" (defScope s_law_lists_right) f (.ref cc) A outer s H E) PA PL wl vb vg d k H Q CN 1)) (pss_cons (ps_expr (pe_bm PySem.F.plainAttrs_list PySem.F.slot_list_append PySem.F.type_list_append mt_append (pv 7) (pa_cons (pe_lamV (sc := defScope s_law_lists_right) (k := 86) (fr := ["term", "given"]) (js := [6, 5]) (sp := (fun ws H Q E => ∃ a0 a1 : V, ws = [some a0, some a1] ∧ (spG K CN 2 1) [a0, a1] H Q E)) TB rfl (List.mem_cons_of_mem _ List.mem_cons_self : (PL, lamL) ∈ T05 PA PL) (T05.l ne) rfl (by decide +kernel) rfl (lam_ok (k := 85) (by decide +kernel) (fun _ _ _ _ => rfl) (fun f cl c' A outer s H ws Q E hr h => ⟨_, (pe_calC C_plain (hr.mono (by first | decide | omega)) (passes_call (takes_of rfl rfl rfl rfl) (fun _ _ _ _ h => h)) (pa_cons (pv 0) (pa_cons (pv 1) pa_nil))), by obtain ⟨a0, a1, rfl, h⟩ := h; exact ⟨_, rfl, _, rfl, h⟩⟩))) pa_nil)))
  (pss_gen (I := (CA (cxOf CX0 P w K mg base ["well", "bad", "good", "some", "spot", "given", "term", "asks", "ask", "library", "k", "kind", "name"] "_law_lists_right" (defScope s_law_lists_right) f (.ref cc) A outer s H E) PA PL wl vb vg d k H Q CN 2)) (pss_cons (ps_expr (pe_bm PySem.F.plainAttrs_list PySem.F.slot_list_append PySem.F.type_list_append mt_append (pv 7) (pa_cons (pe_lamV (sc := defScope s_law_lists_right) (k := 86) (fr := ["term", "given"]) (js := [6, 5]) (sp := (fun ws H Q E => ∃ a0 a1 : V, ws = [some a0, some a1] ∧ ∀ p0, H p0 = none → (spG K CN 3 2) [a0, .ref p0, a1] (upd H p0 (.tup [.str "unit"])) Q E)) TB rfl (List.mem_cons_of_mem _ List.mem_cons_self : (PL, lamL) ∈ T05 PA PL) (T05.l ne) rfl (by decide +kernel) rfl (lam_ok (k := 85) (by decide +kernel) (fun _ _ _ _ => rfl) (fun f cl c' A outer s H ws Q E hr h => ⟨_, (pe_calC C_same (hr.mono (by first | decide | omega)) (passes_call (takes_of rfl rfl rfl rfl) (fun _ _ _ _ h => h)) (pa_cons (pv 0) (pa_cons (pe_tup (pa_cons pe_str pa_nil)) (pa_cons (pv 1) pa_nil)))), by obtain ⟨a0, a1, rfl, h⟩ := h; exact ⟨_, rfl, (by show 1 ≤ sizeLine; decide), fun p0 hp0 => ⟨_, rfl, h p0 hp0⟩⟩⟩))) pa_nil)))
  (pss_gen (I := (CA (cxOf CX0 P w K mg base ["well", "bad", "good", "some", "spot", "given", "term", "asks", "ask", "library", "k", "kind", "name"] "_law_lists_right" (defScope s_law_lists_right) f (.ref cc) A outer s H E) PA PL wl vb vg d k H Q CN 3)) (pss_cons (ps_expr (pe_bm PySem.F.plainAttrs_list PySem.F.slot_list_append PySem.F.type_list_append mt_append (pv 7) (pa_cons (pe_lamV (sc := defScope s_law_lists_right) (k := 86) (fr := ["term", "given"]) (js := [6, 5]) (sp := (fun ws H Q E => ∃ a0 a1 : V, ws = [some a0, some a1] ∧ ∀ p0, H p0 = none → (spG K CN 3 2) [.ref p0, a0, a1] (upd H p0 (.tup [.str "unit"])) Q E)) TB rfl (List.mem_cons_of_mem _ List.mem_cons_self : (PL, lamL) ∈ T05 PA PL) (T05.l ne) rfl (by decide +kernel) rfl (lam_ok (k := 85) (by decide +kernel) (fun _ _ _ _ => rfl) (fun f cl c' A outer s H ws Q E hr h => ⟨_, (pe_calC C_same (hr.mono (by first | decide | omega)) (passes_call (takes_of rfl rfl rfl rfl) (fun _ _ _ _ h => h)) (pa_cons (pe_tup (pa_cons pe_str pa_nil)) (pa_cons (pv 0) (pa_cons (pv 1) pa_nil)))), by obtain ⟨a0, a1, rfl, h⟩ := h; exact ⟨(by show 1 ≤ sizeLine; decide), fun p0 hp0 => ⟨_, rfl, _, rfl, h p0 hp0⟩⟩⟩))) pa_nil)))
  (pss_gen (I := (CA (cxOf CX0 P w K mg base ["well", "bad", "good", "some", "spot", "given", "term", "asks", "ask", "library", "k", "kind", "name"] "_law_lists_right" (defScope s_law_lists_right) f (.ref cc) A outer s H E) PA PL wl vb vg d k H Q CN 4)) (pss_cons (ps_if (pt_cmpR (op_neA (room200 hr)) (pe_lcI (own := [("ask", 8)]) (g := gName 8) (te := tLive (cxOf CX0 P w K mg base ["well", "bad", "good", "some", "spot", "given", "term", "asks", "ask", "library", "k", "kind", "name"] "_law_lists_right" (defScope s_law_lists_right) f (.ref cc) A outer s H E) (spWord P w K mg base CN CL) (tCons (tVar 8) tNil)) rfl sc_law_lists_right.nd (pi_list (pv 7)) (blkOk_by (own := [("ask", 8)]) (N := ["well", "bad", "good", "some", "spot", "given", "term", "asks", "ask", "library", "k", "kind", "name"]) (sc := defScope s_law_lists_right) (by decide +kernel)) (fun _ _ _ _ _ => (pg_name (i := 8) sc_law_lists_right.nd rfl (by first | exact Or.inl rfl | exact Or.inr rfl))) (fun pins σ s H C cl fp I hf => pe_live I (fun _ => rfl) hf (cal_x C_law_word) (hr.mono (by decide)) (pa_cons (pv 8) pa_nil))) (pe_op op_mulA (pe_lst (pa_cons pe_str pa_nil)) pe_int) (nomark _))
   (pss_one (ps_ret pe_bl))
   pss_nil)
  (pss_gen (I := (C4 K PA PL wl vb vg d k H Q)) (pss_cons (ps_set (i := 9) sc_law_lists_right.nd rfl (by first | exact Or.inl rfl | exact Or.inr rfl) (pe_lc (own := [("k", 10), ("kind", 11)]) (g := gTup K 2 (gCons (gName 10) (gCons (gName 11) (gNil)))) (tt := tYes) (by rfl) sc_law_lists_right.nd (pi_enum (by rfl) T.z_enumerate (pa_cons (pv 5) pa_nil)) (blkOk_by (own := [("k", 10), ("kind", 11)]) (N := ["well", "bad", "good", "some", "spot", "given", "term", "asks", "ask", "library", "k", "kind", "name"]) (sc := defScope s_law_lists_right) (by decide +kernel)) (fun _ _ _ _ _ => (pg_tup (by rfl) (pgs_cons (pg_name (i := 10) sc_law_lists_right.nd rfl (by first | exact Or.inl rfl | exact Or.inr rfl)) (pgs_cons (pg_name (i := 11) sc_law_lists_right.nd rfl (by first | exact Or.inl rfl | exact Or.inr rfl)) pgs_nil)))) (fun _ _ _ _ _ => pts_nil) (fun _ _ _ _ _ => (pe_tup (pa_cons (pe_op (r := rAddB K) op_addB pe_str (pe_op (r := rTimes) op_times pe_str (pv 10))) (pa_cons (pv 11) pa_nil))))))
  (pss_gen (I := (C10 K PA PL wl vb vg d k H Q)) (pss_cons (ps_set (i := 12) sc_law_lists_right.nd rfl (by first | exact Or.inl rfl | exact Or.inr rfl) (pe_ix ix_B (pe_lst (pa_cons pe_str (pa_cons pe_str (pa_cons pe_str (pa_cons pe_non pa_nil))))) (pe_calC C_law_draw (hr.mono (by first | decide | omega)) pass0 (pa_cons (pv 0) (pa_cons pe_int pa_nil))) (fun _ _ => rfl)))
  (pss_gen (I := (C11 K PA PL wl vb vg d k H Q)) (pss_cons (ps_set (i := 7) sc_law_lists_right.nd rfl (by first | exact Or.inl rfl | exact Or.inr rfl) (pe_lst (pa_cons (pe_lamV (sc := defScope s_law_lists_right) (k := 86) (fr := ["library", "good"]) (js := [9, 2]) (sp := (fun ws H Q E => ∃ a0 a1 : V, ws = [some a0, some a1] ∧ (spSl K CL 0) [a0, a1] H Q E)) TB rfl (List.mem_cons_of_mem _ List.mem_cons_self : (PL, lamL) ∈ T05 PA PL) (T05.l ne) rfl (by decide +kernel) rfl (lam_ok (k := 85) (by decide +kernel) (fun _ _ _ _ => rfl) (fun f cl c' A outer s H ws Q E hr h => ⟨_, (pe_calC C_search (hr.mono (by first | decide | omega)) (passes_call (takes_of rfl rfl rfl rfl) (fun _ _ _ _ h => h)) (pa_cons (pv 0) (pa_cons (pv 1) pa_nil))), by obtain ⟨a0, a1, rfl, h⟩ := h; exact ⟨_, rfl, _, rfl, h⟩⟩))) pa_nil)))
  (pss_gen (I := (CB (cxOf CX0 P w K mg base ["well", "bad", "good", "some", "spot", "given", "term", "asks", "ask", "library", "k", "kind", "name"] "_law_lists_right" (defScope s_law_lists_right) f (.ref cc) A outer s H E) PA PL wl vb vg d k H Q CL 1)) (pss_cons (ps_expr (pe_bm PySem.F.plainAttrs_list PySem.F.slot_list_append PySem.F.type_list_append mt_append (pv 7) (pa_cons (pe_lamV (sc := defScope s_law_lists_right) (k := 86) (fr := ["library", "good", "name"]) (js := [9, 2, 12]) (sp := (fun ws H Q E => ∃ a0 a1 a2 : V, ws = [some a0, some a1, some a2] ∧ (spSl K CL 2) [a0, a1, a2, .non] H Q E)) TB rfl (List.mem_cons_of_mem _ List.mem_cons_self : (PL, lamL) ∈ T05 PA PL) (T05.l ne) rfl (by decide +kernel) rfl (lam_ok (k := 85) (by decide +kernel) (fun _ _ _ _ => rfl) (fun f cl c' A outer s H ws Q E hr h => ⟨_, (pe_calC C_search_fault (hr.mono (by first | decide | omega)) (passes_call (takes_of rfl rfl rfl rfl) (fun _ _ _ _ h => h)) (pa_cons (pv 0) (pa_cons (pv 1) (pa_cons (pv 2) (pa_cons pe_non pa_nil))))), by obtain ⟨a0, a1, a2, rfl, h⟩ := h; exact ⟨_, rfl, _, rfl, _, rfl, h⟩⟩))) pa_nil)))
  (pss_gen (I := (CB (cxOf CX0 P w K mg base ["well", "bad", "good", "some", "spot", "given", "term", "asks", "ask", "library", "k", "kind", "name"] "_law_lists_right" (defScope s_law_lists_right) f (.ref cc) A outer s H E) PA PL wl vb vg d k H Q CL 2)) (pss_one (ps_ret (pe_cmpR (op_eqA (room200 hr)) (pe_lcI (own := [("ask", 8)]) (g := gName 8) (te := tLive (cxOf CX0 P w K mg base ["well", "bad", "good", "some", "spot", "given", "term", "asks", "ask", "library", "k", "kind", "name"] "_law_lists_right" (defScope s_law_lists_right) f (.ref cc) A outer s H E) (spWord P w K mg base CN CL) (tCons (tVar 8) tNil)) rfl sc_law_lists_right.nd (pi_list (pv 7)) (blkOk_by (own := [("ask", 8)]) (N := ["well", "bad", "good", "some", "spot", "given", "term", "asks", "ask", "library", "k", "kind", "name"]) (sc := defScope s_law_lists_right) (by decide +kernel)) (fun _ _ _ _ _ => (pg_name (i := 8) sc_law_lists_right.nd rfl (by first | exact Or.inl rfl | exact Or.inr rfl))) (fun pins σ s H C cl fp I hf => pe_live I (fun _ => rfl) hf (cal_x C_law_word) (hr.mono (by decide)) (pa_cons (pv 8) pa_nil))) (pe_op op_mulA (pe_lst (pa_cons pe_str pa_nil)) pe_int) (nomark _)))) ?g13)) ?g12)) ?g11)) ?g10)) ?g9)) ?g8)) ?g7)) ?g6)) ?g5)) ?g4))))), ?_⟩
  case g13 =>
    rintro D σ H1 ⟨o3, o4, o7, o8, o10, o11, gl, tv, lb, nv, us, ds, Hb, al, vs, G, L, I, fin⟩
    have st := I.st
    subst st
    have mds : ∀ u ∈ vs, Made (cxOf CX0 P w K mg base ["well", "bad", "good", "some", "spot", "given", "term", "asks", "ask", "library", "k", "kind", "name"] "_law_lists_right" (defScope s_law_lists_right) f (.ref cc) A outer s H E) ([some (V.ref wl), some vb, some vg, o3, o4, some (V.ref gl), some tv, o7, o8, some lb, o10, o11, some nv].set 7 (some (V.ref al))) 86 CL H1 u := fun u hu => (I.md u hu).ext (LamX.ExtN.of (out_sub al H1))
    dsimp only [tRet, tOp]
    show tLc (iList K (tVar 7)) (gName 8) tYes (tLive (cxOf CX0 P w K mg base ["well", "bad", "good", "some", "spot", "given", "term", "asks", "ask", "library", "k", "kind", "name"] "_law_lists_right" (defScope s_law_lists_right) f (.ref cc) A outer s H E) (spWord P w K mg base CN CL) (tCons (tVar 8) tNil) _) [8] _ H1 _
    refine words_q (X := (cxOf CX0 P w K mg base ["well", "bad", "good", "some", "spot", "given", "term", "asks", "ask", "library", "k", "kind", "name"] "_law_lists_right" (defScope s_law_lists_right) f (.ref cc) A outer s H E)) (K := K) (CL := CL) (i := 7) (j := 8) (a := al) (C := CL) (word := "library") (by show 8 < 13; decide) rfl (.of I.at_) (by rw [I.len]; decide) (.inr ⟨rfl, rfl⟩) mds fun D2 H2 n2 e2 s2 => ?_
    rw [I.len] at e2
    refine ⟨(by show 1 ≤ sizeLine; decide), fun p hp => .inr ⟨p, 2, _, rfl, rfl, upd_same, by decide, by decide, (by show 1 * 2 ≤ sizeLine; decide), fun p2 hp2 => ?_⟩⟩
    have s3 := (same_new hp (.lst [.str "library"])).trans (same_new hp2 (.lst (List.replicate (2 : Int).toNat [V.str "library"]).flatten))
    have eE : LamX.ExtN Hb (upd (upd H2 p (.lst [.str "library"])) p2 (.lst (List.replicate (2 : Int).toNat [V.str "library"]).flatten)) := ((I.ext.trans (LamX.ExtN.of (out_sub al H1))).trans (LamX.ExtN.of (of_out s2))).trans (LamX.ExtN.of s3)
    have tb := (I.tabs.ext (of_out s2)).ext s3
    exact eq_same (ds := [.str "library", .str "library"]) (s3 _ _ e2) (two (.str _) (.str _)) upd_same (two (.str _) (.str _)) (by simp [PyData.canLayAll0, PyData.canLay0]; decide +kernel) (by simp [PyData.depthAll, PyData.depth]) (fin _ (G.aft.trans (AftN.lam G.aft.well eE)) tb)
  case g12 =>
    rintro D σ H1 ⟨o3, o4, o7, o8, o10, o11, gl, tv, lb, nv, us, ds, Hb, al, vs, G, L, I, fin⟩
    refine appL (by decide) I (fun H' e Q' E' hE => ?_) fun H2 vs2 I2 => ⟨o3, o4, o7, o8, o10, o11, gl, tv, lb, nv, us, ds, Hb, al, vs2, G, L, I2, fin⟩
    obtain ⟨ps, eps, hL⟩ := L
    exact ⟨lb, vg, nv, rfl, lb, vg, _, ps, k.dat, rfl, rfl, Dq.extN (ext_h e) hL, Dq.extN (ext_h e) G.g, zg, isKd_dat k ok, (LbFew eps G.few), (LbSmall eps G.small), (LbBad eps G.bad), hE⟩
  case g11 =>
    rintro D σ H1 ⟨o3, o4, o7, o8, o10, o11, gl, tv, lb, nv, us, ds, rfl, G, L, fin⟩
    refine newL (by show 7 < 13; decide) G.tabs (fun al H' e Q' E' hE => ?_) fun al H2 vs2 I2 => ⟨o3, o4, o7, o8, o10, o11, gl, tv, lb, nv, us, ds, H1, al, vs2, G, L, I2, fin⟩
    obtain ⟨ps, eps, hL⟩ := L
    exact ⟨lb, vg, rfl, lb, vg, _, ps, k.dat, rfl, rfl, Dq.extN (ext_h e) hL, Dq.extN (ext_h e) G.g, zg, isKd_dat k ok, (LbFew eps G.few), (LbSmall eps G.small), (LbBad eps G.bad), hE⟩
  case g10 =>
    rintro D σ H1 ⟨o3, o4, o7, o8, o10, o11, o12, gl, tv, lb, us, ds, rfl, G, L, fin⟩
    refine ⟨(by show 4 ≤ sizeLine; decide), fun l hl => ?_⟩
    have nl := G.aft.well.ne hl
    have a1 := (Aft.refl G.aft.well).new hl (.lst [.str "n", .str "nx", .str "none", .non])
    refine ⟨_, rfl, wl, 4, rfl, a1.well, by decide, by decide, fun i H2 i0 i1 a2 => ?_⟩
    have x2 : H2 l = some (.lst [.str "n", .str "nx", .str "none", .non]) := a2.at_ nl upd_same
    have a3 := a1.trans a2
    have tb := tabs_aft G.aft.well G.tabs a3
    have go : ∀ nv, C11 K PA PL wl vb vg d k H Q D [some (.ref wl), some vb, some vg, o3, o4, some (.ref gl), some tv, o7, o8, some lb, o10, o11, some nv] H2 := fun nv => by
      obtain ⟨ps, ep, hL⟩ := L
      exact ⟨o3, o4, o7, o8, o10, o11, gl, tv, lb, nv, us, ds, rfl, G.ext (AftN.of a3) tb, ⟨ps, ep, hL.same a3.but⟩, fin⟩
    have c4 : i = 0 ∨ i = 1 ∨ i = 2 ∨ i = 3 := by omega
    rcases c4 with rfl | rfl | rfl | rfl
    · exact ixLi (j := 0) (.of x2) rfl (go _)
    · exact ixLi (j := 1) (.of x2) rfl (go _)
    · exact ixLi (j := 2) (.of x2) rfl (go _)
    · exact ixLi (j := 3) (.of x2) rfl (go _)
  case g9 =>
    rintro D σ H1 ⟨o3, o4, o7, o8, o9, o10, o11, o12, gl, tv, us, ds, rfl, G, fin⟩
    refine ⟨_, rfl, gl, us, rfl, .of G.ge, fun D2 hD => ?_⟩
    have lus := G.gd.length
    have nD := G.aft.well.ne hD
    have start : Aft wl H1 (upd H1 D2 (.lst [])) := (Aft.refl G.aft.well).new hD _
    refine lc_it (walk_enum (K := K) (a := gl) (xs := us)) (fun j H' => ∃ (ps : List (Str × PyData)) (acc : List V), H' D2 = some (.lst acc) ∧ acc.length = j ∧ DqAll K (out D2 (out wl H')) acc (ps.map rowD) ∧ ps.map (·.2) = ds.take j ∧ Same H1 (out D2 H')) ⟨[], [], upd_same, rfl, .nil, by simp, same_out hD (same_new hD _)⟩ (fun j H' _ ⟨_, _, _, _, _, _, s2⟩ => .of (of_out s2 _ _ G.ge)) ?_ ?_
    · rintro i v H2 H3 hi ⟨ps, acc, eD, la, dq, ep, s2⟩ ⟨Tp, x, y, rfl, nT, rfl, ex, ey⟩
      cases ex
      refine ⟨Tp, _, rfl, .of upd_same, rfl, _, _, rfl, _, _, rfl, rfl, rfl, ?_⟩
      have hi10 : i < 10 := by have := G.few; omega
      have l1 : (("x" : Str)).length = 1 := by decide +kernel
      have l2 : (("n" : Str)).length = 1 := by decide +kernel
      refine ⟨_, rfl, "x", (i : Nat), rfl, rfl, by omega, by omega, by rw [l1]; omega, fun u hu => .inl (.inr (.inl ⟨_, _, rfl, rfl, ?_, ?_⟩))⟩
      · rw [l1] at hu
        rw [l2]
        have : (1000 : Nat) < sizeLine := by decide
        omega
      have nTD : D2 ≠ Tp := ne_of_none eD nT
      refine ⟨_, rfl, (by show 2 ≤ sizeLine; decide), fun p hp => ⟨acc, ?_, ?_, ?_⟩⟩
      · have e3 : (upd H2 Tp (.tup [.int (i : Nat), y])) D2 = some (.lst acc) := (upd_ne nTD).trans eD
        exact (upd_ne (ne_of_none e3 hp)).trans e3
      · rw [la]
        have : (1000 : Nat) < sizeLine := by decide
        omega
      obtain ⟨x2, ex2, dx2⟩ := G.gd.get ey
      have e3 : (upd H2 Tp (.tup [.int (i : Nat), y])) D2 = some (.lst acc) := (upd_ne nTD).trans eD
      have pD : p ≠ D2 := (ne_of_none e3 hp).symm
      have w2 : Well H2 wl := by
        obtain ⟨a, b, c, e⟩ := G.aft.well
        exact ⟨a, b, c, of_out s2 _ _ e⟩
      have w3 := w2.new nT (.tup [.int (i : Nat), y])
      have pw := w3.ne hp
      have s3 : Same H2 (upd (upd H2 Tp (.tup [.int (i : Nat), y])) p (.tup [.str (("n" : Str) ++ u), y])) := (same_new nT _).trans (same_new hp _)
      have s4 : Same (out D2 H2) (out D2 (upd (upd (upd H2 Tp (.tup [.int (i : Nat), y])) p (.tup [.str (("n" : Str) ++ u), y])) D2 (.lst (acc ++ [.ref p])))) := fun b o e => by
        have h := out_some e
        exact out_at h.1 ((upd_ne h.1).trans (s3 _ _ h.2))
      have s5 : Same (out D2 (out wl H2)) (out D2 (out wl (upd (upd (upd H2 Tp (.tup [.int (i : Nat), y])) p (.tup [.str (("n" : Str) ++ u), y])) D2 (.lst (acc ++ [.ref p]))))) := fun b o e => by
        have h := out_some e
        have h2 := out_some h.2
        exact out_at h.1 (out_at h2.1 ((upd_ne h.1).trans (s3 _ _ h2.2)))
      have s6 : Same (out wl H1) (out D2 (out wl (upd (upd (upd H2 Tp (.tup [.int (i : Nat), y])) p (.tup [.str (("n" : Str) ++ u), y])) D2 (.lst (acc ++ [.ref p]))))) := fun b o e => by
        have h := out_some e
        have h2 := out_some (s2 _ _ h.2)
        exact out_at h2.1 (out_at h.1 ((upd_ne h2.1).trans (s3 _ _ h2.2)))
      refine ⟨ps ++ [(("n" : Str) ++ u, x2)], acc ++ [.ref p], upd_same, by rw [List.length_append, la]; rfl, ?_, ?_, s2.trans s4⟩
      · rw [List.map_append]
        refine (dq.same s5).append (.cons (.tup (.of (out_at pD (out_at pw ((upd_ne pD).trans upd_same)))) (two (.str _) (dx2.same s6))) .nil)
      · rw [List.map_append, ep, List.take_add_one, ex2]; rfl
    · rintro H2 ⟨ps, acc, eD, la, dq, ep, s2⟩
      rw [List.take_of_length_le (by omega)] at ep
      have a2 : Aft wl H1 H2 := by
        obtain ⟨a, b, c, e⟩ := G.aft.well
        exact ⟨⟨a, b, c, of_out s2 _ _ e⟩, fun b o e => by
          have h := out_some e
          exact out_at h.1 (of_out s2 _ _ h.2)⟩
      have tb := G.tabs.ext (of_out s2)
      exact ⟨o3, o4, o7, o8, _, _, o12, gl, tv, _, us, ds, rfl, G.ext (AftN.of a2) tb, ⟨ps, ep, .lst (.of (out_at nD eD)) (dq.same (out_sub D2 _))⟩, fin⟩
  case g8 =>
    rintro D σ H1 ⟨o3, o4, o7, o8, o9, o10, o11, o12, gl, tv, us, ds, Hb, al, vs, G, I, fin⟩
    have st := I.st
    subst st
    have mds : ∀ u ∈ vs, Made (cxOf CX0 P w K mg base ["well", "bad", "good", "some", "spot", "given", "term", "asks", "ask", "library", "k", "kind", "name"] "_law_lists_right" (defScope s_law_lists_right) f (.ref cc) A outer s H E) ([some (V.ref wl), some vb, some vg, o3, o4, some (V.ref gl), some tv, o7, o8, o9, o10, o11, o12].set 7 (some (V.ref al))) 86 CN H1 u := fun u hu => (I.md u hu).ext (LamX.ExtN.of (out_sub al H1))
    dsimp only [tSeq, tIfS, tTest, tOp]
    show tLc (iList K (tVar 7)) (gName 8) tYes (tLive (cxOf CX0 P w K mg base ["well", "bad", "good", "some", "spot", "given", "term", "asks", "ask", "library", "k", "kind", "name"] "_law_lists_right" (defScope s_law_lists_right) f (.ref cc) A outer s H E) (spWord P w K mg base CN CL) (tCons (tVar 8) tNil) _) [8] _ H1 _
    refine words_q (X := (cxOf CX0 P w K mg base ["well", "bad", "good", "some", "spot", "given", "term", "asks", "ask", "library", "k", "kind", "name"] "_law_lists_right" (defScope s_law_lists_right) f (.ref cc) A outer s H E)) (K := K) (CL := CL) (i := 7) (j := 8) (a := al) (C := CN) (word := "kind") (by show 8 < 13; decide) rfl (.of I.at_) (by rw [I.len]; decide) (.inl ⟨rfl, rfl⟩) mds fun D2 H2 n2 e2 s2 => ?_
    rw [I.len] at e2
    refine ⟨(by show 1 ≤ sizeLine; decide), fun p hp => .inr ⟨p, 4, _, rfl, rfl, upd_same, by decide, by decide, (by show 1 * 4 ≤ sizeLine; decide), fun p2 hp2 => ?_⟩⟩
    have s3 := (same_new hp (.lst [.str "kind"])).trans (same_new hp2 (.lst (List.replicate (4 : Int).toNat [V.str "kind"]).flatten))
    have eE : LamX.ExtN Hb (upd (upd H2 p (.lst [.str "kind"])) p2 (.lst (List.replicate (4 : Int).toNat [V.str "kind"]).flatten)) := ((I.ext.trans (LamX.ExtN.of (out_sub al H1))).trans (LamX.ExtN.of (of_out s2))).trans (LamX.ExtN.of s3)
    refine ne_same (ds := [.str "kind", .str "kind", .str "kind", .str "kind"]) (s3 _ _ e2) (.cons (.str _) (.cons (.str _) (two (.str _) (.str _)))) upd_same (.cons (.str _) (.cons (.str _) (two (.str _) (.str _)))) (by simp [PyData.canLayAll0, PyData.canLay0]; decide +kernel) (by simp [PyData.depthAll, PyData.depth]) ⟨_, rfl, iteF' rfl ?_⟩
    have tb := (I.tabs.ext (of_out s2)).ext s3
    exact ⟨_, _, _, _, _, _, _, _, gl, tv, us, ds, rfl, G.ext (AftN.lam G.aft.well eE) tb, fin⟩
  case g7 =>
    rintro D σ H1 ⟨o3, o4, o7, o8, o9, o10, o11, o12, gl, tv, us, ds, Hb, al, vs, G, I, fin⟩
    refine appL (by decide) I (fun H' e Q' E' hE => ?_) fun H2 vs2 I2 => ⟨o3, o4, o7, o8, o9, o10, o11, o12, gl, tv, us, ds, Hb, al, vs2, G, I2, fin⟩
    exact ⟨tv, .ref gl, rfl, fun p hp => ⟨.ref gl, .list ds, rfl, rfl, (Dq.extN (ext_h e) G.lst).same (same_new hp _), G.sz, G.ks, fun H'' s => hE H'' ((same_new hp _).trans s)⟩⟩
  case g6 =>
    rintro D σ H1 ⟨o3, o4, o7, o8, o9, o10, o11, o12, gl, tv, us, ds, Hb, al, vs, G, I, fin⟩
    refine appL (by decide) I (fun H' e Q' E' hE => ?_) fun H2 vs2 I2 => ⟨o3, o4, o7, o8, o9, o10, o11, o12, gl, tv, us, ds, Hb, al, vs2, G, I2, fin⟩
    exact ⟨tv, .ref gl, rfl, fun p hp => ⟨.ref gl, .list ds, rfl, rfl, (Dq.extN (ext_h e) G.lst).same (same_new hp _), G.sz, G.ks, fun H'' s => hE H'' ((same_new hp _).trans s)⟩⟩
  case g5 =>
    rintro D σ H1 ⟨o3, o4, o7, o8, o9, o10, o11, o12, gl, tv, us, ds, Hb, al, vs, G, I, fin⟩
    refine appL (by decide) I (fun H' e Q' E' hE => ?_) fun H2 vs2 I2 => ⟨o3, o4, o7, o8, o9, o10, o11, o12, gl, tv, us, ds, Hb, al, vs2, G, I2, fin⟩
    exact ⟨tv, .ref gl, rfl, .ref gl, .list ds, rfl, rfl, Dq.extN (ext_h e) G.lst, G.sz, G.ks, hE⟩
  case g4 =>
    rintro D σ H1 ⟨o3, o4, o7, o8, o9, o10, o11, o12, gl, tv, us, ds, rfl, G, fin⟩
    refine newL (by show 7 < 13; decide) G.tabs (fun al H' e Q' E' hE => ?_) fun al H2 vs2 I2 => ⟨o3, o4, o7, o8, o9, o10, o11, o12, gl, tv, us, ds, H1, al, vs2, G, I2, fin⟩
    exact ⟨tv, .ref gl, rfl, .ref gl, .list ds, rfl, rfl, Dq.extN (ext_h e) G.lst, G.sz, G.ks, hE⟩
  have S0 : Kp K wl H H [(vb, d), (vg, k.dat)] := (((Kp.start hw).put hg).put hb)
  refine ⟨_, rfl, (by show 1 ≤ sizeLine; decide), fun p1 hp1 => ?_⟩
  have S1 := S0.tup hp1 (.cons (.str "unit") .nil)
  refine ⟨(by show 2 ≤ sizeLine; decide), fun p2 hp2 => ?_⟩
  have S2 := S1.tup hp2 (two (.str "base") (.int 3))
  refine ⟨_, rfl, (by show 4 ≤ sizeLine; decide), fun l hl => ?_⟩
  have nl := S2.aft.well.ne hl
  have S3 := S2.aft' ((Aft.refl S2.aft.well).new hl (.lst [vg, .ref p1, .ref p2, vg]))
  refine ⟨_, rfl, wl, 5, rfl, S3.aft.well, by decide, by decide, fun i H1 i0 i1 a1 => ⟨i, rfl, ?_⟩⟩
  have S4 := S3.aft' a1
  have el : H1 l = some (.lst [vg, .ref p1, .ref p2, vg]) := a1.at_ nl upd_same
  refine .inl ⟨l, _, rfl, .of el, fun sl hsl => ?_⟩
  obtain ⟨es, he, hem, hel⟩ := cut_dq none (some i) (show DqAll K (out wl H1) [vg, .ref p1, .ref p2, vg] [k.dat, .tuple [.str "unit"], .tuple [.str "base", .int 3], k.dat] from .cons (S4.all (vg, k.dat) (by simp)) (.cons (S4.all (.ref p1, .tuple [.str "unit"]) (by simp)) (two (S4.all (.ref p2, .tuple [.str "base", .int 3]) (by simp)) (S4.all (vg, k.dat) (by simp)))))
  have hes : ∀ x ∈ es, KB.sz x ≤ 1000 := fun x hx => by
    have := hem x hx
    have zk := k.sz_dat
    simp only [List.mem_cons, List.not_mem_nil, or_false] at this
    rcases this with rfl | rfl | rfl | rfl <;> first | omega | (simp [KB.sz, szs])
  generalize cutV [vg, .ref p1, .ref p2, vg] none (some i) = su at he ⊢
  have lsu := he.length
  have hel4 : es.length ≤ 4 := hel
  have nsl := S4.aft.well.ne hsl
  have S5 := S4.aft' ((Aft.refl S4.aft.well).new hsl (.lst su))
  have he5 := he.same (out_new hsl (.lst su) (w := wl))
  have S5' : Kp K wl H _ [(vb, d), (vg, k.dat)] := S5.sub fun p hp => by simp only [List.mem_cons, List.not_mem_nil, or_false] at hp ⊢; rcases hp with rfl | rfl <;> simp
  have e5 : (upd H1 sl (.lst su)) sl = some (.lst su) := upd_same
  have n5 : sl ≠ wl := nsl
  have t5 := tabs_aft hw tabs S5.aft
  generalize upd H1 sl (.lst su) = H5 at he5 S5' e5 t5 ⊢
  clear S5 S4 S3 S2 S1 S0
  refine ⟨_, rfl, _, rfl, ?_⟩
  refine ⟨_, _, rfl, .inl ⟨_, .of e5, rfl⟩, .inl ⟨_, _, rfl, rfl, wl, _, rfl, S5'.aft.well, by omega, by omega, fun sp H6 sp0 sp1 a6 => ?_⟩⟩
  have S6 := S5'.aft' a6
  have e6 := a6.at_ n5 e5
  have he6 := he5.same a6.but
  refine ⟨_, rfl, _, rfl, sp, rfl, .inl ⟨sl, _, rfl, .of e6, fun p4 hp4 => ?_⟩⟩
  obtain ⟨f1, hf1, m1, l1⟩ := cut_dq none (some sp) he6
  have z1 := hf1.length
  generalize cutV su none (some sp) = u1 at hf1 z1 ⊢
  have n4 := S6.aft.well.ne hp4
  have S7 := S6.aft' ((Aft.refl S6.aft.well).new hp4 (.lst u1))
  have g1 := hf1.same (out_new hp4 (.lst u1) (w := wl))
  have e7 : (upd H6 p4 (.lst u1)) sl = some (.lst su) := (upd_ne (ne_of_none e6 hp4)).trans e6
  have he7 := he6.same (out_new hp4 (.lst u1) (w := wl))
  have x4 : (upd H6 p4 (.lst u1)) p4 = some (.lst u1) := upd_same
  generalize upd H6 p4 (.lst u1) = H7 at S7 g1 e7 he7 x4 ⊢
  refine ⟨_, rfl, (by show 1 ≤ sizeLine; decide), fun p5 hp5 => ?_⟩
  have S8 := S7.aft' ((Aft.refl S7.aft.well).new hp5 (.lst [vb]))
  have x5 : (upd H7 p5 (.lst [vb])) p5 = some (.lst [vb]) := upd_same
  have x4' : (upd H7 p5 (.lst [vb])) p4 = some (.lst u1) := (upd_ne (ne_of_none x4 hp5)).trans x4
  have e8 : (upd H7 p5 (.lst [vb])) sl = some (.lst su) := (upd_ne (ne_of_none e7 hp5)).trans e7
  have g2 := g1.same (out_new hp5 (.lst [vb]) (w := wl))
  have he8 := he7.same (out_new hp5 (.lst [vb]) (w := wl))
  generalize upd H7 p5 (.lst [vb]) = H8 at S8 g2 e8 he8 x5 x4' ⊢
  refine cat_l x4' x5 (by simp only [List.length_cons, List.length_nil]; omega) fun p6 hp6 => ?_
  have n6 := S8.aft.well.ne hp6
  have S9 := S8.aft' ((Aft.refl S8.aft.well).new hp6 (.lst (u1 ++ [vb])))
  have e9 : (upd H8 p6 (.lst (u1 ++ [vb]))) sl = some (.lst su) := (upd_ne (ne_of_none e8 hp6)).trans e8
  have x6 : (upd H8 p6 (.lst (u1 ++ [vb]))) p6 = some (.lst (u1 ++ [vb])) := upd_same
  have g3 := g2.same (out_new hp6 (.lst (u1 ++ [vb])) (w := wl))
  have he9 := he8.same (out_new hp6 (.lst (u1 ++ [vb])) (w := wl))
  generalize upd H8 p6 (.lst (u1 ++ [vb])) = H9 at S9 g3 e9 he9 x6 ⊢
  refine ⟨_, rfl, _, rfl, sp, rfl, .inl ⟨sl, _, rfl, .of e9, fun p7 hp7 => ?_⟩⟩
  obtain ⟨f2, hf2, m2, l2⟩ := cut_dq (some sp) none he9
  have z2 := hf2.length
  generalize cutV su (some sp) none = u2 at hf2 z2 ⊢
  have S10 := S9.aft' ((Aft.refl S9.aft.well).new hp7 (.lst u2))
  have x7 : (upd H9 p7 (.lst u2)) p7 = some (.lst u2) := upd_same
  have x6' : (upd H9 p7 (.lst u2)) p6 = some (.lst (u1 ++ [vb])) := (upd_ne (ne_of_none x6 hp7)).trans x6
  have g4 := g3.same (out_new hp7 (.lst u2) (w := wl))
  have k4 := hf2.same (out_new hp7 (.lst u2) (w := wl))
  generalize upd H9 p7 (.lst u2) = H10 at S10 g4 k4 x7 x6' ⊢
  refine cat_l x6' x7 (by rw [List.length_append]; simp only [List.length_cons, List.length_nil]; omega) fun gl hgl => ?_
  have ngl := S10.aft.well.ne hgl
  have S11 := S10.aft' ((Aft.refl S10.aft.well).new hgl (.lst (u1 ++ [vb] ++ u2)))
  have x8 : (upd H10 gl (.lst (u1 ++ [vb] ++ u2))) gl = some (.lst (u1 ++ [vb] ++ u2)) := upd_same
  have g5 := g4.same (out_new hgl (.lst (u1 ++ [vb] ++ u2)) (w := wl))
  have k5 := k4.same (out_new hgl (.lst (u1 ++ [vb] ++ u2)) (w := wl))
  generalize upd H10 gl (.lst (u1 ++ [vb] ++ u2)) = H11 at S11 g5 k5 x8 ⊢
  refine ⟨(by show 1 ≤ sizeLine; decide), fun q1 hq1 => ?_⟩
  have S12 := S11.aft' ((Aft.refl S11.aft.well).new hq1 (.tup [.str "unit"]))
  refine ⟨(by show 2 ≤ sizeLine; decide), fun q2 hq2 => ?_⟩
  have S13 := S12.aft' ((Aft.refl S12.aft.well).new hq2 (.tup [.str "given", .int 0]))
  refine ⟨(by show 4 ≤ sizeLine; decide), fun q3 hq3 => ?_⟩
  have n13 := S13.aft.well.ne hq3
  have S14 := S13.aft' ((Aft.refl S13.aft.well).new hq3 (.lst [.ref q1, .ref q2, .non, .int 5]))
  have A14 : Aft wl H11 (upd (upd (upd H11 q1 (.tup [.str "unit"])) q2 (.tup [.str "given", .int 0])) q3 (.lst [.ref q1, .ref q2, .non, .int 5])) := (((Aft.refl S11.aft.well).new hq1 _).new hq2 _).new hq3 _
  refine ⟨_, rfl, wl, 4, rfl, S14.aft.well, by decide, by decide, fun i4 H15 i40 i41 a15 => ?_⟩
  have S15 := S14.aft' a15
  have A15 := A14.trans a15
  have x15 : H15 q3 = some (.lst [.ref q1, .ref q2, .non, .int 5]) := a15.at_ n13 upd_same
  have fin : ∀ tv : V, C4 K PA PL wl vb vg d k H Q { nx := fun x H' => Q V.non H', rt := Q } [some (.ref wl), some vb, some vg, some (.ref sl), some (.int sp), some (.ref gl), some tv, none, none, none, none, none, none] H15 := fun tv =>
    ⟨_, _, _, _, _, _, _, _, gl, tv, _, f1 ++ [d] ++ f2, rfl, ⟨AftN.of S15.aft, tabs_aft hw tabs S15.aft, S15.all (vb, d) (by simp), S15.all (vg, k.dat) (by simp), ngl, A15.at_ ngl x8, ((g5.append (.cons (S11.all (vb, d) (by simp)) .nil)).append k5).same A15.but, ⟨d, by simp, no⟩, fun x hx => by
        simp only [List.mem_append, List.mem_singleton] at hx
        rcases hx with (hx | rfl) | hx
        · exact hes x (m1 x hx)
        · exact zb
        · exact hes x (m2 x hx), by simp only [List.length_append, List.length_cons, List.length_nil]; omega⟩, q⟩
  have c4 : i4 = 0 ∨ i4 = 1 ∨ i4 = 2 ∨ i4 = 3 := by omega
  rcases c4 with rfl | rfl | rfl | rfl
  · exact ixLi (j := 0) (.of x15) rfl (fin _)
  · exact ixLi (j := 1) (.of x15) rfl (fin _)
  · exact ixLi (j := 2) (.of x15) rfl (fin _)
  · exact ixLi (j := 3) (.of x15) rfl (fin _)
end
/-! ## the law -/
def spLaw (K : PySem.W.Frag) (PA PL : Addr) : Sp := fun vs H Q _ => ∃ (a : Addr) (ns : List Int), vs = [.ref a] ∧ SqL K H a (ns.map V.int) ∧ ns.length ≤ 63 ∧ H PA = some (.tbl #[]) ∧ H PL = some (.tbl #[]) ∧ ∀ H', Q (.bl true) H'
theorem cut_ints (ns : List Int) (lo hi : Option Int) : ∀ x ∈ cutV (ns.map V.int) lo hi, ∃ i : Int, x = .int i := fun x h => by
  have h2 := List.mem_of_mem_drop (List.mem_of_mem_take h)
  obtain ⟨i, _, rfl⟩ := List.mem_map.mp h2
  exact ⟨i, rfl⟩
theorem tabS_new {H : Hp} {P : Addr} {q : Str} (h : H P = some (.tbl #[])) : LamX.TabS H P q := ⟨#[], h, True.intro, fun pos cv hc => by cases hc⟩
/-- within a turn: the list that is walked, the well, the tables -/
structure TnF (PA PL wl l : Addr) (xs : List V) (H : Hp) : Prop where
  well : Well H wl
  nl : l ≠ wl
  el : H l = some (.lst xs)
  tabs : LamX.Tabs (T05 PA PL) H
theorem TnF.aft {PA PL wl l : Addr} {xs : List V} {H H' : Hp} (t : TnF PA PL wl l xs H) (a : Aft wl H H') : TnF PA PL wl l xs H' := ⟨a.well, t.nl, a.at_ t.nl t.el, tabs_aft t.well t.tabs a⟩
theorem TnF.aftN {PA PL wl l : Addr} {xs : List V} {H H' : Hp} (t : TnF PA PL wl l xs H) (a : AftN wl H H') (tb : LamX.Tabs (T05 PA PL) H') : TnF PA PL wl l xs H' := ⟨a.well, t.nl, (out_some (a.but _ _ (out_at t.nl t.el) fun ps z => by cases z)).2, tb⟩
theorem dq_rep {K : PySem.W.Frag} {H : Hp} : ∀ n : Nat, DqAll K H (List.replicate n (.str "kind")) (List.replicate n (.str "kind"))
  | 0 => .nil
  | n + 1 => .cons (.str _) (dq_rep n)
theorem lay_rep : ∀ n : Nat, PyData.canLayAll0 (List.replicate n (.str "kind")) = true
  | 0 => by simp [PyData.canLayAll0]
  | n + 1 => by
    rw [List.replicate_succ]
    have h : PyData.strOk "kind" = true := by decide +kernel
    simp [PyData.canLayAll0, PyData.canLay0, lay_rep n, h]
theorem dep_rep (n : Nat) : PyData.depthAll (List.replicate n (.str "kind")) ≤ 180 := by
  have : PyData.depthAll (List.replicate n (.str "kind")) = 0 := by
    induction n with
    | zero => simp [PyData.depthAll]
    | succ n ih => simp [List.replicate_succ, PyData.depthAll, PyData.depth, ih]
  omega
theorem sz_small {k : Kd} (h : k.leaves ≤ 10000) : sz k.dat ≤ 1000000 := by have := k.sz_dat; omega
theorem cs_of {k : Kd} {cs : List Nat} (e : PyData.str k.txt = .str (tx cs)) : cs = k.cod := (tx_inj (PyData.str.inj e)).symm
theorem rd_not {k : Kd} {A : Prop} (ok : k.ok) (h : rdK k.cod = none) : A := by rw [rdK_cod k ok] at h; cases h
theorem rd_is {k j : Kd} (ok : k.ok) (h : rdK k.cod = some j) : k = j := by rw [rdK_cod k ok] at h; cases h; rfl
theorem ne_kinds {K : PySem.W.Frag} {H : Hp} {v u : V} {k j : Kd} {Q : VK} (hk : Dq K H v k.dat) (hj : Dq K H u j.dat) (hl : k.leaves ≤ 190) (q : Q (.bl (!decide (k = j))) H) : rNeA K v u H Q := by
  have d1 := k.deep_le
  refine .inr ⟨k.dat, j.dat, hk.dp k.dat_lay, hj.dp j.dat_lay, k.dat_lay, j.dat_lay, by rw [k.dat_depth]; omega, ?_⟩
  rw [Kd.eqv]; exact q
theorem aft_same {w : Addr} {H H' : Hp} (W : Well H w) (s : Same H H') : Aft w H H' := by
  obtain ⟨x, y, z, e⟩ := W
  exact ⟨⟨x, y, z, s _ _ e⟩, out_same s⟩
def LvI (K : PySem.W.Frag) (PA PL a : Addr) (Q : VK) (m : Nat) : TS := fun D σ H1 => ∃ (l : Addr) (xs : List V) (c : Int) (wl : Addr) (vg vb vs : V) (k ks : Kd) (d : PyData) (o5 o6 o7 o8 : Option V), σ = [some (.ref a), some (.int c), some (.ref wl), some vg, some vb, if 5 ≤ m then some vs else o5, o6, o7, o8] ∧ TnF PA PL wl l xs H1 ∧
  Dq K (out wl H1) vg k.dat ∧ k.ok ∧ k.leaves ≤ 25 ∧ Dq K (out wl H1) vb d ∧ isKd d = false ∧ sz d ≤ 1000 ∧ (5 ≤ m → Dq K (out wl H1) vs ks.dat ∧ ks.ok ∧ ks.leaves ≤ 10) ∧ ∀ σ' H', (∃ o1 o2 o3 o4 o5 o6 o7 o8 : Option V, σ' = [some (.ref a), o1, o2, o3, o4, o5, o6, o7, o8]) → H' l = some (.lst xs) → LamX.Tabs (T05 PA PL) H' → D.nx σ' H'
def LwI (K : PySem.W.Frag) (PA PL a : Addr) (Q : VK) (m : Nat) : TS := fun D σ H1 => ∃ (l : Addr) (xs : List V) (c : Int) (wl : Addr) (vg vb vs vo : V) (ks : Kd) (d : PyData) (o7 o8 : Option V), σ = [some (.ref a), some (.int c), some (.ref wl), some vg, some vb, some vs, some vo, o7, o8] ∧ TnF PA PL wl l xs H1 ∧
  Dq K (out wl H1) vb d ∧ isKd d = false ∧ sz d ≤ 1000 ∧ Dq K (out wl H1) vs ks.dat ∧ ks.ok ∧ ks.leaves ≤ 10 ∧ (m = 6 → ∃ dd, Dq K (out wl H1) vo dd) ∧ (m = 7 → ∃ p, o7 = some (.ref p) ∧ H1 p = some (.lst (List.replicate 36 (.str "kind")))) ∧
  ∀ σ' H', (∃ o1 o2 o3 o4 o5 o6 o7 o8 : Option V, σ' = [some (.ref a), o1, o2, o3, o4, o5, o6, o7, o8]) → H' l = some (.lst xs) → LamX.Tabs (T05 PA PL) H' → D.nx σ' H'
abbrev s_law : Stmt := top 138
theorem sc_law : FnScope ["script", "cell", "well", "good", "bad", "small", "odd", "words", "ask"] ["script"] (defScope s_law) := ⟨rfl, rfl, rfl, by decide +kernel, rfl, by decide +kernel, by decide +kernel⟩
section
variable {P : Program} {w : World} {K : PySem.W.Frag} {mg : Str → Option Value} {base : Heap} {CN CT CL : Addr}
theorem ok_law {f PA PL : Addr} {fd : FuncData} (F : Fun K "law" "law" s_law f fd) (T : Txt K mg w CN CT) (ne : PA ≠ PL) (C_law_well : Cal P w K mg base CX0 1 "_law_well" ["cell"] spWell) (C_law_draw : Cal P w K mg base CX0 1 "_law_draw" ["well", "width"] spDraw) (C_law_deep : Cal P w K mg base CX0 2 "_law_deep" ["well", "deep"] (spDeepK K)) (C_law_spoilt : Cal P w K mg base CX0 28 "_law_spoilt" ["well", "kind"] (spSpoilt K 26))
    (C_is_kind : Cal P w K mg base CX0 3 "is_kind" ["thing"] (spIsKd K)) (C_kind_text : Cal P w K mg base (L2.CX P w) 5 "kind_text" ["kind"] (spKText K CN)) (C_read_kind : Cal P w K mg base (L2.CX P w) 2 "read_kind" ["text"] (spRead K CT))
    (C_law_word : Cal P w K mg base CX0 87 "_law_word" ["ask"] (spWord P w K mg base CN CL)) (C_law_asks : Cal P w K mg base (L2.CX P w) 87 "_law_asks" ["bad", "good", "odd"] (spAsks P w K mg base PA PL CN)) (C_law_lists_right : Cal P w K mg base CX0 88 "_law_lists_right" ["well", "bad", "good"] (spLists K PA PL)) :
    FnOk P w K mg base CX0 89 f fd ["script"] (spLaw K PA PL) := by
  refine F.ok sc_law (fun vs H Q E h => ?_) (fun cdv A outer s H vs Q E hr h => ?_)
  · obtain ⟨a, ns, rfl, _⟩ := h; rfl
  obtain ⟨a, ns, rfl, hS, hl, hA, hL, q⟩ := h
  refine ⟨_, (pss_cons (ps_for PassesOwn.never rfl (pi_list (pe_op op_addA (pe_lst (pa_cons pe_int (pa_cons pe_int pa_nil))) (pe_slice sl_A (pv 0) po_none (po_some pe_int)))) (pg_name (i := 1) sc_law.nd rfl (by first | exact Or.inl rfl | exact Or.inr rfl))
   (pss_cons (ps_set (i := 2) sc_law.nd rfl (by first | exact Or.inl rfl | exact Or.inr rfl) (pe_calC C_law_well (hr.mono (by first | decide | omega)) pass0 (pa_cons (pv 1) pa_nil)))
  (pss_cons (ps_set (i := 3) sc_law.nd rfl (by first | exact Or.inl rfl | exact Or.inr rfl) (pe_calC C_law_deep (hr.mono (by first | decide | omega)) pass0 (pa_cons (pv 2) (pa_cons (pe_op op_addA pe_int (pe_calC C_law_draw (hr.mono (by first | decide | omega)) pass0 (pa_cons (pv 2) (pa_cons pe_int pa_nil)))) pa_nil))))
  (pss_cons (ps_set (i := 4) sc_law.nd rfl (by first | exact Or.inl rfl | exact Or.inr rfl) (pe_calC C_law_spoilt (hr.mono (by first | decide | omega)) pass0 (pa_cons (pv 2) (pa_cons (pv 3) pa_nil))))
  (pss_gen (I := (LvI K PA PL a Q 3)) (pss_cons (ps_if (PW.pt (pw_or (pt_cmpR op_notBl (pe_calC C_is_kind (hr.mono (by first | decide | omega)) pass0 (pa_cons (pv 3) pa_nil)) pe_bl (nomark _)) (pw_or (pt_cmpR op_notBl (pe_calC C_is_kind (hr.mono (by first | decide | omega)) pass0 (pa_cons (pv 4) pa_nil)) pe_bl (nomark _)) (pw_or1 (pt_cmpR (op_neA (room200 hr)) (pe_calC C_read_kind (hr.mono (by first | decide | omega)) passL (pa_cons (pe_calC C_kind_text (hr.mono (by first | decide | omega)) passL (pa_cons (pv 3) pa_nil)) pa_nil)) (pv 3) (nomark _))))))
   (pss_one (ps_ret pe_bl))
   pss_nil)
  (pss_gen (I := (LvI K PA PL a Q 4)) (pss_cons (ps_set (i := 5) sc_law.nd rfl (by first | exact Or.inl rfl | exact Or.inr rfl) (pe_ix ix_B (pe_lst (pa_cons (pe_tup (pa_cons pe_str (pa_cons pe_int pa_nil))) (pa_cons (pe_tup (pa_cons pe_str pa_nil)) (pa_cons (pe_tup (pa_cons pe_str (pa_cons (pe_tup (pa_cons pe_str (pa_cons pe_int pa_nil))) (pa_cons (pe_tup (pa_cons pe_str (pa_cons pe_int pa_nil))) pa_nil)))) pa_nil)))) (pe_calC C_law_draw (hr.mono (by first | decide | omega)) pass0 (pa_cons (pv 2) (pa_cons pe_int pa_nil))) (fun _ _ => rfl)))
  (pss_gen (I := (LvI K PA PL a Q 5)) (pss_cons (ps_set (i := 6) sc_law.nd rfl (by first | exact Or.inl rfl | exact Or.inr rfl) (pe_ix ix_B (pe_lst (pa_cons pe_dnewK (pa_cons pe_str (pa_cons pe_int (pa_cons (pe_lst (pa_cons pe_int pa_nil)) (pa_cons (pe_tup (pa_cons pe_non pa_nil)) (pa_cons pe_bl pa_nil))))))) (pe_calC C_law_draw (hr.mono (by first | decide | omega)) pass0 (pa_cons (pv 2) (pa_cons pe_int pa_nil))) (fun _ _ => rfl)))
  (pss_gen (I := (LwI K PA PL a Q 6)) (pss_cons (ps_setLc (i := 7) (own := [("ask", 8)]) (g := gName 8) (tt := tYes) (by rfl) sc_law.nd rfl rfl (sw_true rfl rfl rfl (by decide +kernel)) (pi_list (pe_op op_addA (pe_calC C_law_asks (hr.mono (by first | decide | omega)) passL (pa_cons (pv 4) (pa_cons (pv 5) (pa_cons pe_non pa_nil)))) (pe_calC C_law_asks (hr.mono (by first | decide | omega)) passL (pa_cons (pv 4) (pa_cons (pv 5) (pa_cons (pv 6) pa_nil)))))) (blkOk_by (own := [("ask", 8)]) (N := ["script", "cell", "well", "good", "bad", "small", "odd", "words", "ask"]) (sc := defScope s_law) (by decide +kernel)) (fun _ _ _ _ _ => (pg_name (i := 8) sc_law.nd rfl (by first | exact Or.inl rfl | exact Or.inr rfl))) (fun _ _ _ _ _ => pts_nil) (fun _ _ _ _ _ => (pe_calC C_law_word (hr.mono (by first | decide | omega)) pass0 (pa_cons (pv 8) pa_nil))))
  (pss_gen (I := (LwI K PA PL a Q 7)) (pss_one (ps_if (PW.pt (pw_or (pt_cmpR (op_neA (room200 hr)) (pv 7) (pe_op op_mulA (pe_lst (pa_cons pe_str pa_nil)) pe_int) (nomark _)) (pw_or1 (pt_not (pt_val (pe_calC C_law_lists_right (hr.mono (by first | decide | omega)) pass0 (pa_cons (pv 2) (pa_cons (pv 4) (pa_cons (pv 5) pa_nil)))))))))
   (pss_one (ps_ret pe_bl))
   pss_nil)) ?g7)) ?g6)) ?g5)) ?g4)) ?g3)))))
  (pss_one (ps_ret pe_bl))), ?_⟩
  case g7 =>
    rintro D σ H1 ⟨l, xs, c, wl, vg, vb, vs, vo, ks, d, o7, o8, rfl, tn, hb, no, zb, hs, oks, lks, _, h7, fin⟩
    obtain ⟨p, rfl, ep⟩ := h7 rfl
    refine ⟨_, rfl, (by show 1 ≤ sizeLine; decide), fun p1 hp1 => .inr ⟨p1, 36, _, rfl, rfl, upd_same, by decide, by decide, (by show 1 * 36 ≤ sizeLine; decide), fun p2 hp2 => ?_⟩⟩
    have s3 := (same_new hp1 (.lst [.str "kind"])).trans (same_new hp2 (.lst (List.replicate (36 : Int).toNat [V.str "kind"]).flatten))
    have ta := (Aft.refl tn.well).new hp1 (.lst [.str "kind"]) |>.new hp2 (.lst (List.replicate (36 : Int).toNat [V.str "kind"]).flatten)
    have tn2 := tn.aft ta
    refine ne_same (ds := List.replicate 36 (.str "kind")) (s3 _ _ ep) (dq_rep 36) upd_same (dq_rep 36) (lay_rep 36) (dep_rep 36) ⟨_, rfl, iteF' rfl ?_⟩
    refine ⟨_, rfl, _, rfl, _, rfl, wl, vb, vs, d, ks, rfl, tn2.well, hb.same ta.but, zb, no, hs.same ta.but, oks, lks, tn2.tabs, fun H2 a2 tb2 => ⟨_, rfl, iteF' rfl ?_⟩⟩
    have tn3 := tn2.aftN a2 tb2
    exact fin _ H2 ⟨_, _, _, _, _, _, _, _, rfl⟩ tn3.el tb2
  case g6 =>
    rintro D σ H1 ⟨l, xs, c, wl, vg, vb, vs, vo, ks, d, o7, o8, rfl, tn, hb, no, zb, hs, oks, lks, h6, _, fin⟩
    obtain ⟨dd, ho⟩ := h6 rfl
    have up1 := LamX.ExtN.of (out_sub wl H1)
    refine ⟨_, rfl, _, rfl, vb, vs, .non, d, ks, rfl, hb.same (out_sub wl H1), by omega, no, hs.same (out_sub wl H1), oks, lks, ⟨_, (Dq.non (K := K) (H := H1)).ty⟩, tn.tabs, fun q1 us1 H2 nw1 e1 l1 r1 tb1 x1 => ?_⟩
    refine ⟨_, rfl, _, rfl, _, rfl, vb, vs, vo, d, ks, rfl, Dq.extN (up1.trans x1) hb, by omega, no, Dq.extN (up1.trans x1) hs, oks, lks, ⟨_, (Dq.extN (up1.trans x1) ho).ty⟩, tb1, fun q2 us2 H3 nw2 e2 l2 r2 tb2 x2 => ?_⟩
    have e1' : H3 q1 = some (.lst us1) := x2 _ _ e1 fun ps z => by cases z
    refine .inr (.inr (.inl ⟨q1, q2, us1, us2, rfl, rfl, e1', e2, by rw [l1, l2]; decide, fun q3 hq3 => ?_⟩))
    have s3 := same_new hq3 (.lst (us1 ++ us2))
    have e3 : (upd H3 q3 (.lst (us1 ++ us2))) q3 = some (.lst (us1 ++ us2)) := upd_same
    have rr : ∀ u ∈ us1 ++ us2, Raises P w K mg base 86 CN (upd H3 q3 (.lst (us1 ++ us2))) u := fun u hu => by
      rcases List.mem_append.mp hu with hu | hu
      · exact ((r1 u hu).ext x2).ext (LamX.ExtN.of s3)
      · exact (r2 u hu).ext (LamX.ExtN.of s3)
    have tb3 := tb2.ext s3
    have x3 : LamX.ExtN H1 (upd H3 q3 (.lst (us1 ++ us2))) := (x1.trans x2).trans (LamX.ExtN.of s3)
    generalize upd H3 q3 (.lst (us1 ++ us2)) = H4 at e3 rr tb3 x3 ⊢
    have l36 : (us1 ++ us2).length = 36 := by rw [List.length_append, l1, l2]
    generalize us1 ++ us2 = us at e3 rr l36 ⊢
    refine ⟨q3, rfl, ⟨_, .of e3⟩, fun D2 hD => ?_⟩
    refine lc_list (K := K) (a := q3) (xs := us) (fun n H' => H' D2 = some (.lst (List.replicate n (.str "kind"))) ∧ Same H4 (out D2 H')) ⟨upd_same, same_out hD (same_new hD _)⟩ (fun n H' _ h => .of (of_out h.2 _ _ e3)) ?_ ?_
    · rintro n u H5 hu ⟨e5, s5⟩
      have hn : n < us.length := by
        rcases Nat.lt_or_ge n us.length with h | h
        · exact h
        · rw [List.getElem?_eq_none h] at hu; cases hu
      refine ⟨rfl, _, rfl, u, rfl, .inl ⟨(rr u (List.mem_of_getElem? hu)).ext (LamX.ExtN.of (of_out s5)), fun H6 s6 => ⟨_, s6 _ _ e5, by rw [List.length_replicate]; exact Nat.lt_trans hn (by rw [l36]; decide), by rw [upd_same, List.replicate_succ'], s5.trans ((out_same s6).trans (out_set _))⟩⟩⟩
    · rintro H5 ⟨e5, s5⟩
      have x5 := x3.trans (LamX.ExtN.of (of_out s5))
      have tb5 := tb3.ext (of_out s5)
      have a5 := AftN.lam tn.well x5
      rw [l36] at e5
      exact ⟨l, xs, c, wl, vg, vb, vs, vo, ks, d, _, _, rfl, tn.aftN a5 tb5, Dq.extN a5.but hb, no, zb, Dq.extN a5.but hs, oks, lks, fun h => absurd h (by decide), fun _ => ⟨D2, rfl, e5⟩, fin⟩
  case g5 =>
    rintro D σ H1 ⟨l, xs, c, wl, vg, vb, vs, k, ks, d, o5, o6, o7, o8, rfl, tn, hg, ok, lk, hb, no, zb, h5, fin⟩
    obtain ⟨hs, oks, lks⟩ := h5 (by decide)
    intro p1 hp1
    have S0 : Kp K wl H1 H1 [(vb, d), (vs, ks.dat)] := ((Kp.start tn.well).put hs).put hb
    have S1 := S0.dct hp1
    refine ⟨(by show 1 ≤ sizeLine; decide), fun p2 hp2 => ?_⟩
    have S2 := S1.lst hp2 (.cons (.int 0) .nil)
    refine ⟨(by show 1 ≤ sizeLine; decide), fun p3 hp3 => ?_⟩
    have S3 := S2.tup hp3 (.cons .non .nil)
    refine ⟨(by show 6 ≤ sizeLine; decide), fun p4 hp4 => ?_⟩
    have S4 := S3.lst hp4 (.cons (S3.all (.ref p1, .dict []) (by simp)) (.cons (.str "none") (.cons (.int 0) (.cons (S3.all (.ref p2, .list [.int 0]) (by simp)) (two S3.here (.bl true))))))
    refine ⟨_, rfl, wl, 6, rfl, S4.aft.well, by decide, by decide, fun i H2 i0 i1 a2 => ?_⟩
    have S5 := S4.aft' a2
    refine ix_q S5.here i0 (by simpa using i1) fun x dd ed hx => ?_
    exact ⟨l, xs, c, wl, vg, vb, vs, x, ks, d, _, _, rfl, tn.aft S5.aft, S5.all (vb, d) (by simp), no, zb, S5.all (vs, ks.dat) (by simp), oks, lks, fun _ => ⟨_, hx⟩, fun h => absurd h (by decide), fin⟩
  case g4 =>
    rintro D σ H1 ⟨l, xs, c, wl, vg, vb, vs, k, ks, d, o5, o6, o7, o8, rfl, tn, hg, ok, lk, hb, no, zb, h5, fin⟩
    have S0 : Kp K wl H1 H1 [(vb, d), (vg, k.dat)] := ((Kp.start tn.well).put hg).put hb
    refine ⟨(by show 2 ≤ sizeLine; decide), fun p1 hp1 => ?_⟩
    have S1 := S0.tup hp1 (two (.str "base") (.int 2))
    refine ⟨(by show 1 ≤ sizeLine; decide), fun p2 hp2 => ?_⟩
    have S2 := S1.tup hp2 (.cons (.str "unit") .nil)
    refine ⟨(by show 2 ≤ sizeLine; decide), fun p3 hp3 => ?_⟩
    have S3 := S2.tup hp3 (two (.str "base") (.int 1))
    refine ⟨(by show 2 ≤ sizeLine; decide), fun p4 hp4 => ?_⟩
    have S4 := S3.tup hp4 (two (.str "base") (.int 0))
    refine ⟨(by show 3 ≤ sizeLine; decide), fun p5 hp5 => ?_⟩
    have S5 := S4.tup hp5 (.cons (.str "both") (two S4.tail.here S4.here))
    refine ⟨(by show 3 ≤ sizeLine; decide), fun p6 hp6 => ?_⟩
    have S6 := S5.lst hp6 (.cons (S5.all (.ref p1, .tuple [.str "base", .int 2]) (by simp)) (two (S5.all (.ref p2, .tuple [.str "unit"]) (by simp)) S5.here))
    refine ⟨_, rfl, wl, 3, rfl, S6.aft.well, by decide, by decide, fun i H2 i0 i1 a2 => ?_⟩
    have S7 := S6.aft' a2
    refine ix_q S7.here i0 (by simpa using i1) fun x dd ed hx => ?_
    obtain ⟨k2, ok2, lk2, rfl⟩ : ∃ k : Kd, k.ok ∧ k.leaves ≤ 10 ∧ dd = k.dat := by
      have e : i = 0 ∨ i = 1 ∨ i = 2 := by omega
      rcases e with rfl | rfl | rfl
      · cases ed; exact ⟨.b 2, by show 2 < 8; decide, by simp [Kd.leaves], rfl⟩
      · cases ed; exact ⟨.u, trivial, by simp [Kd.leaves], rfl⟩
      · cases ed; exact ⟨.p (.b 1) (.b 0), ⟨by show 1 < 8; decide, by show 0 < 8; decide⟩, by simp [Kd.leaves], rfl⟩
    exact ⟨l, xs, c, wl, vg, vb, x, k, k2, d, none, _, _, _, rfl, tn.aft S7.aft, S7.all (vg, k.dat) (by simp), ok, lk, S7.all (vb, d) (by simp), no, zb, fun _ => ⟨hx, ok2, lk2⟩, fin⟩
  case g3 =>
    rintro D σ H1 ⟨l, xs, c, wl, vg, vb, vs, k, ks, d, o5, o6, o7, o8, rfl, tn, hg, ok, lk, hb, no, zb, h5, fin⟩
    refine ⟨_, rfl, vg, k.dat, rfl, hg.same (out_sub wl H1), sz_small (by omega), fun H2 s2 => ⟨_, _, rfl, rfl, _, rfl, iteF' (by rw [isKd_dat k ok]; rfl) ?_⟩⟩
    have a2 := aft_same tn.well s2
    refine ⟨_, rfl, vb, d, rfl, (hb.same a2.but).same (out_sub wl H2), by omega, fun H3 s3 => ⟨_, _, rfl, rfl, _, rfl, iteF' (by rw [no]; rfl) ?_⟩⟩
    have a3 := a2.trans (aft_same a2.well s3)
    refine ⟨_, rfl, vg, k.dat, rfl, (hg.same a3.but).same (out_sub wl H3), sz_small (by omega), fun k' _ ek H4 s4 => ?_, fun h => not_kd ok h⟩
    obtain rfl := Kd.dat_inj _ _ ek
    have a4 := a3.trans (aft_same a3.well s4)
    refine ⟨_, _, rfl, .str _, fun cs ec => ?_, fun h => absurd rfl (h k.txt)⟩
    obtain rfl := cs_of ec
    refine ⟨by have := k.cod_length; omega, fun k' ek' v' H5 dk' s5 => ?_, fun h => rd_not ok h⟩
    obtain rfl := rd_is ok ek'
    have a5 := a4.trans (aft_same a4.well s5)
    refine ⟨_, rfl, ne_kinds dk' ((hg.same a5.but).same (out_sub wl H5)) (by omega) ⟨_, rfl, iteF' (by simp) ?_⟩⟩
    exact ⟨l, xs, c, wl, vg, vb, vs, k, ks, d, o5, o6, o7, o8, rfl, tn.aft a5, hg.same a5.but, ok, lk, hb.same a5.but, no, zb, fun h => absurd h (by decide), fin⟩
  refine ⟨(by show 2 ≤ sizeLine; decide), fun p hp => ?_⟩
  have s1 := same_new hp (.lst [.int 0, .int 3])
  refine ⟨_, rfl, 8, rfl, .inl ⟨a, _, rfl, s1.seq hS, fun p2 hp2 => ?_⟩⟩
  have hcl := cutV_length (ns.map V.int) none (some 8)
  rw [List.length_map] at hcl
  have e1 : upd (upd H p (.lst [.int 0, .int 3])) p2 (.lst (cutV (ns.map V.int) none (some 8))) p = some (.lst [.int 0, .int 3]) := by rw [upd_ne (ne_of_none upd_same hp2)]; exact upd_same
  refine .inr (.inr (.inl ⟨p, p2, _, _, rfl, rfl, e1, upd_same, fits (by simp only [List.length_cons, List.length_nil]; omega), fun l hl' => ⟨l, rfl, ⟨_, .of upd_same⟩, ?_⟩⟩))
  have hint : ∀ x ∈ [V.int 0, V.int 3] ++ cutV (ns.map V.int) none (some 8), ∃ i : Int, x = .int i := fun x h => by
    rcases List.mem_append.mp h with h | h
    · simp only [List.mem_cons, List.not_mem_nil, or_false] at h
      rcases h with rfl | rfl <;> exact ⟨_, rfl⟩
    · exact cut_ints ns _ _ x h
  have s2 := (s1.trans (same_new hp2 (.lst (cutV (ns.map V.int) none (some 8))))).trans (same_new hl' (.lst ([V.int 0, V.int 3] ++ cutV (ns.map V.int) none (some 8))))
  have tb : LamX.Tabs (T05 PA PL) H := fun p hp => by
    rcases List.mem_cons.mp hp with rfl | hp
    · exact tabS_new hA
    · rw [List.mem_singleton.mp hp]; exact tabS_new hL
  have tb2 := tb.ext s2
  have el : upd (upd (upd H p (.lst [.int 0, .int 3])) p2 (.lst (cutV (ns.map V.int) none (some 8)))) l (.lst ([V.int 0, V.int 3] ++ cutV (ns.map V.int) none (some 8))) l = some (.lst ([V.int 0, V.int 3] ++ cutV (ns.map V.int) none (some 8))) := upd_same
  generalize [V.int 0, V.int 3] ++ cutV (ns.map V.int) none (some 8) = xs at hint tb2 el ⊢
  refine for_list (K := K) (a := l) (xs := xs) (fun _ σ H' => (∃ o1 o2 o3 o4 o5 o6 o7 o8 : Option V, σ = [some (.ref a), o1, o2, o3, o4, o5, o6, o7, o8]) ∧ H' l = some (.lst xs) ∧ LamX.Tabs (T05 PA PL) H') ⟨⟨_, _, _, _, _, _, _, _, rfl⟩, el, tb2⟩ (fun i σ H' _ h => .of h.2.1) ?_ ?_
  · rintro i x σ H5 hx ⟨⟨o1, o2, o3, o4, o5, o6, o7, o8, rfl⟩, e5, t5⟩
    obtain ⟨z, rfl⟩ := hint x (List.mem_of_getElem? hx)
    refine ⟨_, rfl, z, rfl, fun wl x0 y0 z0 hwl => ?_⟩
    have s5 := same_new hwl (.lst [.int x0, .int y0, .int z0])
    have w5 : Well (upd H5 wl (.lst [.int x0, .int y0, .int z0])) wl := ⟨x0, y0, z0, upd_same⟩
    have tn : TnF PA PL wl l xs (upd H5 wl (.lst [.int x0, .int y0, .int z0])) := ⟨w5, ne_of_none e5 hwl, s5 _ _ e5, t5.ext s5⟩
    refine ⟨_, rfl, _, rfl, wl, 12, rfl, w5, by decide, by decide, fun d6 H6 d60 d61 a6 => .inl ⟨_, _, rfl, rfl, wl, _, rfl, a6.well, by omega, by omega, fun k vg H7 ok lk hg a7 => ?_⟩⟩
    have tn7 := (tn.aft a6).aft a7
    have dk := k.deep_le
    have zk := k.sz_dat
    refine ⟨_, rfl, _, rfl, wl, vg, k, rfl, tn7.well, hg, ok, lk, by omega, fun d vb H8 no zb hb a8 => ?_⟩
    exact ⟨l, xs, z, wl, vg, vb, .non, k, k, d, _, _, _, _, rfl, tn7.aft a8, hg.same a8.but, ok, lk, hb, no, by omega, fun h => absurd h (by decide), fun σ' H' hσ hl ht => ⟨hσ, hl, ht⟩⟩
  · rintro σ H5 ⟨⟨o1, o2, o3, o4, o5, o6, o7, o8, rfl⟩, e5, t5⟩
    exact q H5
end
theorem law_end {l : PySem.W.OpenLaw} {w : World} {mg : Str → Option Value} {fa : Addr} {h : Heap} {K : PySem.W.Frag} (X : K.In h) (G : h.Ns mainGlobals mg) (hfa : mg "law" = some (.ref fa)) (c : He.SaysX fa05 fn05 ts05 tf05 ex05 w h K) : LamX.LawAtS l w K CX0 89 63 "script" mg fa h := by
  have A_is_base_number : At K mg "is_base_number" s_is_base_number := KB.at_d X G c.t.d 0 0 rfl rfl
  have A__is_kind_but_for_parts : At K mg "_is_kind_but_for_parts" s_is_kind_but_for_parts := KB.at_d X G c.t.d 1 1 rfl rfl
  have A_is_kind : At K mg "is_kind" s_is_kind := KB.at_d X G c.t.d 2 2 rfl rfl
  have A_need_kind : At K mg "need_kind" s_need_kind := KB.at_d X G c.t.d 3 3 rfl rfl
  have A_kind_text : At K mg "kind_text" s_kind_text := KB.at_d X G c.t.d 4 4 rfl rfl
  have A_read_kind : At K mg "read_kind" s_read_kind := KB.at_d X G c.t.d 5 5 rfl rfl
  have A__read_sign : At K mg "_read_sign" s_read_sign := KB.at_d X G c.t.d 6 6 rfl rfl
  have A__close_braces : At K mg "_close_braces" s_close_braces := KB.at_d X G c.t.d 7 7 rfl rfl
  have A_form : At K mg "form" s_form := KB.at_d X G c.t.d 8 8 rfl rfl
  have A__factors : At K mg "_factors" s_factors := KB.at_d X G c.t.d 9 9 rfl rfl
  have A_alike : At K mg "alike" s_alike := KB.at_d X G c.t.d 10 10 rfl rfl
  have A_sized_kind : At K mg "sized_kind" s_sized_kind := KB.at_d X G c.t.d 11 11 rfl rfl
  have A_many : At K mg "many" s_many := KB.at_d X G c.t.d 12 12 rfl rfl
  have A_worths : At K mg "worths" s_worths := KB.at_d X G c.t.d 13 13 rfl rfl
  have A_is_worth : At K mg "is_worth" s_is_worth := KB.at_d X G c.t.d 14 14 rfl rfl
  have A_apart : At K mg "apart" s_apart := KB.at_d X G c.t.d 15 15 rfl rfl
  have A_apart_fault : At K mg "apart_fault" s_apart_fault := KB.at_d X G c.t.d 16 16 rfl rfl
  have A_turner : At K mg "turner" s_turner := KB.at_d X G c.t.d 17 17 rfl rfl
  have A_turn_fault : At K mg "turn_fault" s_turn_fault := KB.at_d X G c.t.d 18 18 rfl rfl
  have A_search : At K mg "search" s_search := KB.at_d X G c.t.d 19 19 rfl rfl
  have A_search_fault : At K mg "search_fault" s_search_fault := KB.at_d X G c.t.d 20 20 rfl rfl
  have A_need_kinds : At K mg "need_kinds" s_need_kinds := KB.at_d X G c.t.d 21 21 rfl rfl
  have A_term_kind : At K mg "term_kind" s_term_kind := KB.at_d X G c.t.d 22 22 rfl rfl
  have A_plain : At K mg "plain" s_plain := KB.at_d X G c.t.d 23 23 rfl rfl
  have A_same : At K mg "same" s_same := KB.at_d X G c.t.d 24 24 rfl rfl
  have A__is_row : At K mg "_is_row" s_is_row := KB.at_d X G c.t.d 25 25 rfl rfl
  have A__need_library : At K mg "_need_library" s_need_library := KB.at_d X G c.t.d 26 26 rfl rfl
  have A__law_well : At K mg "_law_well" s_law_well := KB.at_d X G c.t.d 27 27 rfl rfl
  have A__law_draw : At K mg "_law_draw" s_law_draw := KB.at_d X G c.t.d 28 28 rfl rfl
  have A__law_deep : At K mg "_law_deep" s_law_deep := KB.at_d X G c.t.d 29 29 rfl rfl
  have A__law_odd : At K mg "_law_odd" s_law_odd := KB.at_d X G c.t.d 30 30 rfl rfl
  have A__law_spoilt : At K mg "_law_spoilt" s_law_spoilt := KB.at_d X G c.t.d 31 31 rfl rfl
  have A__law_word : At K mg "_law_word" s_law_word := KB.at_d X G c.t.d 32 32 rfl rfl
  have A_law : At K mg "law" s_law := KB.at_d X G c.t.d 33 33 rfl rfl
  have A_rest : At K mg "rest" s_pub_rest := KB.at_d X G c.t.d 34 34 rfl rfl
  obtain ⟨f1, fd1, F1, m1, hcode1⟩ : ∃ f fd, Fun K "_law_asks" "_law_asks" s_law_asks f fd ∧ mg "_law_asks" = some (.ref f) ∧ fd.code = .ref (He.cT K ("_law_asks", none)).1 := KB.own_d X G c 35 35 rfl rfl
  obtain ⟨f2, fd2, F2, m2, hcode2⟩ : ∃ f fd, Fun K "_law_lists_right" "_law_lists_right" s_law_lists_right f fd ∧ mg "_law_lists_right" = some (.ref f) ∧ fd.code = .ref (He.cT K ("_law_lists_right", none)).1 := KB.own_d X G c 36 36 rfl rfl
  have E1 : ExcF K mg "NoKind" _ := KB.exc_d X G (He.ba (He.ba (He.ba c.more).2).2).1
  have E2 : ExcF K mg "NoText" _ := KB.exc_d X G (He.ba (He.ba (He.ba (He.ba c.more).2).2).2).1
  have E3 : ExcF K mg "NoLibrary" _ := KB.exc_d X G (He.ba (He.ba (He.ba (He.ba (He.ba c.more).2).2).2).2).1
  have ne : (He.cT K ("_law_asks", none)).2 ≠ (He.cT K ("_law_lists_right", none)).2 := fun z => by
    have q : (!decide ((He.cT K ("_law_asks", none)).2 = (He.cT K ("_law_lists_right", none)).2)) = true := (He.ba (He.ba (He.ba (He.ba (He.ba (He.ba (He.ba (He.ba (He.ba (He.ba c.more).2).2).2).2).2).2).2).2).2).2
    rw [decide_eq_true z] at q
    cases q
  have T : Txt K mg w _ _ := ⟨He.free_ok X G (c.t.d.fact 37 rfl), He.free_ok X G (c.t.d.fact 38 rfl), He.free_ok X G (c.t.d.fact 39 rfl), He.free_ok X G (c.t.d.fact 40 rfl), He.free_ok X G (c.t.d.fact 41 rfl), He.free_ok X G (c.t.d.fact 42 rfl), He.free_ok X G (c.t.d.fact 43 rfl), He.free_ok X G (c.t.d.fact 44 rfl), He.free_ok X G (c.t.d.fact 45 rfl), He.free_ok X G (c.t.d.fact 46 rfl), He.free_ok X G (c.t.d.fact 47 rfl), He.str_ok X G (c.t.d.fact 48 rfl), He.str_ok X G (c.t.d.fact 49 rfl), KB.dct_d X G c.t 0 rfl (He.ba c.more).1, KB.dct_d X G c.t 1 rfl (He.ba (He.ba c.more).2).1, E1, E2⟩
  have L : TxL K mg _ := ⟨He.free_ok X G (c.t.d.fact 37 rfl), He.free_ok X G (c.t.d.fact 44 rfl), He.free_ok X G (c.t.d.fact 40 rfl), He.free_ok X G (c.t.d.fact 41 rfl), He.free_ok X G (c.t.d.fact 43 rfl), He.free_ok X G (c.t.d.fact 39 rfl), E3⟩
  have W : TxW K mg _ _ := ⟨He.free_ok X G (c.t.d.fact 45 rfl), He.free_ok X G (c.t.d.fact 38 rfl), E1.g, E3.g, KB.excC_d (He.ba (He.ba (He.ba (He.ba (He.ba (He.ba c.more).2).2).2).2).2).1, KB.kit_d (He.ba (He.ba (He.ba (He.ba (He.ba (He.ba (He.ba c.more).2).2).2).2).2).2).1, KB.exm_d (He.ba (He.ba (He.ba (He.ba (He.ba (He.ba (He.ba (He.ba c.more).2).2).2).2).2).2).2).1, KB.exm_d (He.ba (He.ba (He.ba (He.ba (He.ba (He.ba (He.ba (He.ba (He.ba c.more).2).2).2).2).2).2).2).2).1, KB.exm_d (He.ba (He.ba (He.ba (He.ba (He.ba (He.ba (He.ba (He.ba (He.ba (He.ba c.more).2).2).2).2).2).2).2).2).2).1⟩
  obtain ⟨f, fd, F, m⟩ := A_law
  have e := hfa.symm.trans m
  cases e
  refine ⟨fd, tf05.map (He.cT K), spLaw K (He.cT K ("_law_asks", none)).2 (He.cT K ("_law_lists_right", none)).2, fun p hp => ?_, fun p hp => ?_, fun p hp => ?_, ?_, fun H a ns hl _ hP hS => ⟨a, ns, rfl, hS, hl, hP _ List.mem_cons_self, hP _ (List.mem_cons_of_mem _ List.mem_cons_self), fun _ => rfl⟩, fun base _ _ TBs => ?_⟩
  · obtain ⟨q, hq, rfl⟩ := List.mem_map.mp hp
    exact c.empty q hq
  · obtain ⟨q, hq, rfl⟩ := List.mem_map.mp hp
    exact c.out q hq
  · obtain ⟨q, hq, rfl⟩ := List.mem_map.mp hp
    exact PySem.W.codeHd_of_K X (c.hd q hq)
  · obtain ⟨oc, od, kV, doc, pm, an, cdv, ct, osl, rfl, lk, hcd⟩ := F.ex
    exact fun s u => .of_eq rfl
  · have tb1 := TBs _ (List.mem_cons_self : He.cT K ("_law_asks", none) ∈ tf05.map (He.cT K))
    have tb2 := TBs _ (List.mem_cons_of_mem _ List.mem_cons_self : He.cT K ("_law_lists_right", none) ∈ tf05.map (He.cT K))
    have Cw := ok_well (P := l.prog) (base := base) A__law_well T
    have Cd := ok_draw (P := l.prog) (base := base) A__law_draw T
    have Cde := ok_deep A__law_deep T Cd
    have Cod := ok_odd A__law_odd T Cd
    have Csp := ok_spoilt A__law_spoilt T Cd Cod 26
    have Cb := ok_is_base_number (P := l.prog) (base := base) A_is_base_number T
    have Cs := ok_is_kind_but_for_parts A__is_kind_but_for_parts T Cb
    have Ci := ok_is_kind A_is_kind T Cs
    have Cn := ok_need_kind A_need_kind T Ci
    have Ckt := ok_kind_text A_kind_text T Cn
    have Csg := ok_read_sign (P := l.prog) (base := base) A__read_sign T
    have Ccl := ok_close_braces (P := l.prog) (base := base) A__close_braces T
    have Crk := ok_read_kind A_read_kind T Ccl Csg
    have Cfa := ok_factors (P := l.prog) (base := base) A__factors T 81
    have Cfo := ok_form A_form T Cn Cfa
    have Cal := ok_alike A_alike T Cfo
    have Csk := ok_sized_kind_no A_sized_kind Cn
    have Cma := ok_many_no A_many Csk
    have Cre := ok_rest_no A_rest Csk
    have Cwo := ok_worths_no A_worths Csk
    have Ciw := ok_is_worth_no A_is_worth Csk
    have Cse := ok_search_no A_search Cn
    have Csf := ok_search_fault_no A_search_fault Cn
    have Cap := ok_apart_no A_apart Cal
    have Ctu := ok_turner_no A_turner Cap
    have Caf := ok_apart_fault_no A_apart_fault Cn
    have Ctf := ok_turn_fault_no A_turn_fault Cn
    have Cnk := ok_nks A_need_kinds T Cn
    have Ctk := ok_term_kind_no A_term_kind Cnk
    have Cpl := ok_plain_no A_plain Cnk
    have Csa := ok_same_no A_same Cnk
    have Cro := ok_is_row A__is_row L Ci
    have Cnl := ok_need_library A__need_library L Cro
    have Csn := ok_search_nl A_search Cn Cnl
    have Csfn := ok_search_fault_nl A_search_fault Cn Cnl
    have Cwd := ok_word (P := l.prog) (w := w) (base := base) A__law_word W
    have Cas := ok_asks ⟨f1, fd1, F1, m1, hcode1⟩ tb1 ne T Ckt Cfo Cal Cma Cre Cap Caf Cwo Ciw Ctu Ctf Cse Csf
    have Cli := ok_lists ⟨f2, fd2, F2, m2, hcode2⟩ tb2 ne T Cd Cwd Ctk Cpl Csa Csn Csfn
    exact ok_law F T ne Cw Cd Cde Csp Ci Ckt Crk Cwd Cas Cli
end KW
open PySem PySem.W PySem.Calls PyProof.Rows in
set_option maxRecDepth 100000 in
set_option maxHeartbeats 0 in
theorem PySem.Challenge.cw_kindswap_k05_kinds_spoilt_at_any_depth_holds : PySem.Challenge.rw_kindswap_k05_kinds_spoilt_at_any_depth.Holds := by
  w_on; o_law
  refine HeadRun.head_imp (r := OpenLaw.row PySem.Challenge.rw_kindswap_k05_kinds_spoilt_at_any_depth) (q := KW.view05) (H := KW.hk05) (ob := KW.ob05) (M := 30000) (loose := KW.nm05) (d := HeadRun.topDef (OpenLaw.row PySem.Challenge.rw_kindswap_k05_kinds_spoilt_at_any_depth).prog 138) (kwd := []) KW.ob05_eq KW.run05
    (by kernel_rfl) (by kernel_rfl) (by kernel_rfl) (by rfl) (by first | assumption | decide +kernel) (by decide +kernel) ⟨rfl, rfl, rfl, rfl, rfl, by decide +kernel⟩ ?hw ?hc
  case hw => w_witness2
  case hc =>
    refine LamX.walk_ofTsE (l := PySem.Challenge.rw_kindswap_k05_kinds_spoilt_at_any_depth) (n := 63) (k := 89) (x := "script") (CX := fun _ => L2.CX0) rfl (by decide) (by kernel_rfl) ⟨rfl, by decide, by decide⟩ ?F (fun _ _ _ _ _ z => z)
    intro w mg fa h Y G hmg0
    obtain ⟨K, KX, c⟩ := Y
    have hmg : mg ("law" : PySem.Str) = some (.ref fa) := by
      have e : (HeadRun.topDef (OpenLaw.row PySem.Challenge.rw_kindswap_k05_kinds_spoilt_at_any_depth).prog 138).name = ("law" : PySem.Str) := by kernel_rfl
      rw [← e]
      exact hmg0
    exact ⟨K, KX, KW.law_end KX G hmg c⟩
