import PyProof.Rows.All
import Wide.All
import OpenK.AllK
import Wide.FinOn
import HandS.ForMost
import HandS.ForExc
import HandS.IsInst
import HandS.Wide
import HandS.TryMany
import HandS.ExcValue
import HandS.ExcIs
import HandS.ExcInit
import HandS.RaiseMore
import KE.KExcInit
import KE.KExcIs
import PyProof.Rows.StrIntSpec
import PySem.Challenge.RW_wheelgrown_k00_errors_kept_and_caught
set_option Elab.async false
set_option linter.all false
set_option maxRecDepth 100000
set_option maxHeartbeats 2000000
/-! The law k00, by hand: a contract for each def. -/
/-! ## Own exceptions over any built-in one: made, and a field stored into a new one -/
namespace PySem.F
theorem store_KeyError : StoreFacts "KeyError" [.type "KeyError", .type "LookupError", .type "Exception", .type "BaseException", .type "object"] "object.__setattr__" "object" where
  mro := by kernel_rfl
  slot := .of (owner := "object") (n := "__setattr__") (by rw [typeLookup_type, builtinLookup_eq_fast]; kernel_rfl) (by decide +kernel) (by decide +kernel) (by decide +kernel) (by first | exact .inl (by decide +kernel) | exact .inr (by decide +kernel)) (by rw [isSubtype_type]; kernel_rfl)
  entry := entry_object_sa
  kind := by decide +kernel
  split := by decide +kernel
  hasOwner := by decide +kernel
  args := fun a b c => by unfold argsOk; kernel_rfl
  passes := fun self => by kernel_rfl
end PySem.F
namespace PySem
namespace XO
open PySem.W PySem.Calls PyProof.Rows PySem.HandSPX
/-- what is asked of the mro behind the class: the base's facts are F's, others of its names may stand there -/
structure Mro (B newId initId : String) (bmF bmB : List Value) : Prop where
  F : ExcBaseFacts B newId initId bmF
  hasB : bmB.contains (.type B) = true
  noA : bmB.contains (.type "AttributeError") = false
  noN : bmB.contains (.type "NameError") = false
  hasO : bmB.contains (.type "object") = true
  pass : ∀ self : Value, refuseLoop self "__setattr__" bmB = pure ()
section
variable {prog : Program} {w : World} {A : Around} {E : Value → Shared → Prop} {R : Result → Shared → Prop} {h : Heap} {g : Array GenState} {d : Drawn} {t : Nat} {os : OsState}
variable {nm q : Str} {C N : Addr} {bs bm bmF bmB : List Value} {hdct : Bool} {sn : List Str} {sub : List Value} {ab : Bool} {col : Option Bool} {dd : Option Addr} {k0 k1 k2 k3 k5 : Option Value} {B newId initId : String}
theorem chk (m : Mro B newId initId bmF bmB) (hT : excTail bmB bm = true) {rest : List Value} {Q : Unit → Shared → Prop} (hC : h.get? C = some (excClassObj nm q C N bs bm hdct sn sub ab col dd k0 k1 k2 k3 k5 newId)) (hq : Q () ⟨h, g, d, t, os⟩) :
    wpAny (model prog w) A (checkBuiltinCall newId ⟨.ref C :: rest, []⟩) Q E ⟨h, g, d, t, os⟩ := by
  have c1 : (Value.ref C :: bm).contains (.type B) = true := by rw [List.contains_cons, excTail_contains B bm hT, m.hasB, Bool.or_true]
  have c2 := m.F.noStar
  simp only [checkBuiltinCall, m.F.newKind, m.F.newSplit, m.F.newRow]
  repeat (first | refine wpAny_loadPart_at hC ?_ | (refine wpAny_isSubtype_exc hC ?_; rw [c1]) | refine wpAny_staticBase_exc hC ?_ | refine wpAny_madeBy_exc hC ?_ | simp only [bne_self_eq_false, Bool.false_eq_true, if_false] | wp_step)
  all_goals exact hq
theorem new (m : Mro B newId initId bmF bmB) (hT : excTail bmB bm = true) {rest : List Value} (hC : h.get? C = some (excClassObj nm q C N bs bm hdct sn sub ab col dd k0 k1 k2 k3 k5 newId))
    (hq : R (.ok (.ret (.ref (h.objs.size + 1)))) ⟨(h.push (W.kdv_tup rest)).push (excO C h.objs.size), g, d, t, os⟩) (hrest : rest.length ≤ sizeLine) : codeAny (model prog w) A (.builtin newId ⟨.ref C :: rest, []⟩) R ⟨h, g, d, t, os⟩ := by
  have c0 := m.F.ends
  have c1 : (Value.ref C :: bm).contains (.type B) = true := by rw [List.contains_cons, excTail_contains B bm hT, m.hasB, Bool.or_true]
  have c2 : (Value.ref C :: bm).contains (.type "AttributeError") = false := by rw [List.contains_cons, excTail_contains "AttributeError" bm hT, m.noA]; rfl
  have c3 : (Value.ref C :: bm).contains (.type "NameError") = false := by rw [List.contains_cons, excTail_contains "NameError" bm hT, m.noN]; rfl
  refine codeAny_builtinAt m.F.entry ?_; unfold Builtin.«BaseException.__new__»; refine wpAt_bind ?_
  show wpAt _ _ _ (stack >>= _) _ _ _; refine wpAt_bind (wpAt_stack fun p below => wpAt_of_wpAny ?_)
  wp_walk
  refine wpAt_of_wpAny ?_; rw [m.F.owner]
  repeat (first | with_reducible refine wpAny_madeHere_exc m.F.canon hC ?_ | with_reducible refine wpAny_loadPart_at hC ?_ | (with_reducible refine wpAny_isSubtype_exc hC ?_; first | rw [c1] | rw [c2] | rw [c3]) | wp_step)
  show R _ _; rw [Heap.size_push]; exact hq
theorem tcall (m : Mro B newId initId bmF bmB) (hT : excTail bmB bm = true) {rest : List Value} {fI : Addr} {Q : Fin → Shared → Prop} (hC : h.get? C = some (excClassObj nm q C N bs bm hdct sn sub ab col dd k0 k1 k2 k3 k5 newId))
    (hi : W.Looks (model prog w) h (typeLookup (.ref C) "__init__") (some (.ref fI))) (hb : ∀ self, W.Looks (model prog w) h (bindSpecial (.ref fI) self) (.ref fI, [self])) (hrest : rest.length ≤ sizeLine)
    (hq : codeAny (model prog w) A (.call (.ref fI) ⟨.ref (h.objs.size + 1) :: rest, []⟩) (fun r s' => match r with | .ok (.ret v) => v = .none ∧ Q (.done (.ret (.ref (h.objs.size + 1)))) s' | .ok _ => False | .error e => E e s') ⟨(h.push (W.kdv_tup rest)).push (excO C h.objs.size), g, d, t, os⟩) :
    wpAny (model prog w) A (Builtin.«type.__call__» ⟨.ref C :: rest, []⟩) Q E ⟨h, g, d, t, os⟩ := by
  have kp : ∀ b o, h.get? b = some o → ((h.push (W.kdv_tup rest)).push (excO C h.objs.size)).get? b = some o := fun b o e => Heap.get?_push_of_some _ (Heap.get?_push_of_some _ e)
  have at1 := kp _ _ hC
  have at2 : ((h.push (W.kdv_tup rest)).push (excO C h.objs.size)).get? (h.objs.size + 1) = some (excO C h.objs.size) := by heap_get
  have cc : (Value.ref C :: bm).contains (.ref C) = true := by simp
  have i1 := hi.keeps kp; have b1 := (hb (.ref (h.objs.size + 1))).keeps kp
  repeat (first | with_reducible refine wpAny_loadPart_at hC ?_ | with_reducible refine wpAny_madeBy_exc hC ?_ | wp_step)
  refine codeAny_call_builtin_code (Code.quiet_builtin _ m.F.quiet) (chk m hT hC (new m hT hC ?_ hrest)); show wpAny _ _ _ _ _ _; unfold isInstance
  repeat (first | with_reducible refine wpAny_loadPart_at at2 ?_ | (with_reducible refine wpAny_isSubtype_exc at1 ?_; rw [cc]) | wp_step)
  show wpAny _ _ (typeLookup (.ref C) _) _ _ _
  refine i1.at (wpAny_holding (wpAny_bind (b1.at (wpAny_bind (wpAny_call (codeAny_mono hq fun r s' z => ?_))))))
  rcases r with e | (v | _ | _ | _) <;> first | exact z | exact z.elim | skip
  obtain ⟨rfl, z⟩ := z
  first | exact wpAny_pure (wpAny_pure z) | (wp_walk; exact z)
theorem made (m : Mro B newId initId bmF bmB) (hT : excTail bmB bm = true) {rest : List Value} {fI : Addr} (hC : h.get? C = some (excClassObj nm q C N bs bm hdct sn sub ab col dd k0 k1 k2 k3 k5 newId))
    (hi : W.Looks (model prog w) h (typeLookup (.ref C) "__init__") (some (.ref fI))) (hb : ∀ self, W.Looks (model prog w) h (bindSpecial (.ref fI) self) (.ref fI, [self])) (hrest : rest.length ≤ sizeLine)
    (hq : codeAny (model prog w) (A.under (.builtin "type.__call__" ⟨.ref C :: rest, []⟩)) (.call (.ref fI) ⟨.ref (h.objs.size + 1) :: rest, []⟩) (W.InitBack (h.objs.size + 1) R) ⟨(h.push (W.kdv_tup rest)).push (excO C h.objs.size), g, d, t, os⟩) :
    codeAny (model prog w) A (.call (.ref C) ⟨rest, []⟩) R ⟨h, g, d, t, os⟩ := by
  have f1 := tc_lookup; have f2 := tc_bind (.ref C); have hTy : (⟨h, g, d, t, os⟩ : Shared).TypeIs (.ref C) "type" := ⟨_, hC, rfl⟩
  refine codeAny_of_tree (show wpAny _ _ (callAny (.ref C) _) _ _ _ from ?_)
  repeat (any_goals (first | assumption | with_reducible refine wpAny_loadPart_at hC ?_ | wp_step))
  refine ⟨rfl, codeAny_call_builtin_at (Code.quiet_builtin _ (by decide +kernel)) entry_typeCall (wpAny_check_type_call_sub hC (tcall m hT hC hi hb hrest (codeAny_mono hq fun r s' z => ?_)))⟩
  rcases r with e | (v | _ | _ | _) <;> exact z
end
section
variable {prog : Program} {w : World} {A : Around} {R : Result → Shared → Prop} {hp : Heap} {g : Array GenState} {d : Drawn} {t : Nat} {os : OsState}
open Builtin Builtin.ObjectAttr PySem.W
/-- x.name = v, x a new exception without a dict -/
theorem osa {K : W.Frag} {name : Str} {tk : Tok} {v : Value} {x C : Addr} {fv : Array Value} {cd : ClassData} (X : K.In hp) (hx : hp.get? x = some { cls := .ref C, data := .fields fv }) (hcd : W.clsIn K C = some cd) (hne : cd.mro.isEmpty = false) (hob : cd.mro.contains (.type "object") = true)
    (hpass : ∀ self : Value, refuseLoop self "__setattr__" cd.mro = pure ()) (hh : cd.hasDict = true) (ha : W.findIn K (.ref C) name = some none)
    (hq : ∀ h' tk' dx, (∀ b o, b ≠ x → hp.get? b = some o → h'.get? b = some o) → hp.objs.size ≤ dx → dx ≠ x → h'.get? x = some { cls := .ref C, dict := some dx, data := .fields fv } → h'.Ns1 dx (fun y => if y = name then some v else none) → R (.ok (.ret .none)) ⟨h', g, d, tk', os⟩) :
    codeAny (model prog w) A (.call (.builtin "object.__setattr__") ⟨[.ref x, .str name tk, v], []⟩) R ⟨hp, g, d, t, os⟩ := by
  have I : W.InstAt hp x { cls := .ref C, data := .fields fv } C none := ⟨hx, rfl, rfl, trivial⟩
  have SF := F.store_object
  have nx : x ≠ hp.objs.size := Nat.ne_of_lt (Heap.lt_size hx)
  have sub : W.Looks (model prog w) hp (isInstance (.ref x) (.type "object")) true := I.type.andThen (W.looks_mroIn X (by unfold W.mroIn; rw [hcd, Option.bind_some, if_neg (by rw [hne]; decide), hob]))
  have hmr : W.Looks (model prog w) hp (mroOf (.ref C)) cd.mro := (W.looks_clsIn X hcd).andThen .now
  have L3 : W.Looks (model prog w) hp (storeTaker? none) none := .now
  have hcls : W.Looks (model prog w) hp (classData C) cd := W.looks_clsIn X hcd
  refine codeAny_call_builtin SF.slot.plain SF.entry (@W.check_slot (model prog w) _ _ ⟨hp, g, d, t, os⟩ "object.__setattr__" "object" "__setattr__" (.ref x) [.str name tk, v] [] _ SF.kind SF.split sub (SF.args (.ref x) (.str name tk) v) ?_); rw [W.osa_eq, refuse_eq]
  refine wpAny_bind (wpAny_bind (I.type.at (wpAny_bind (hmr.at ?_)))); rw [hpass]
  refine wpAny_pure (wpAny_bind (I.type.at (wpAny_bind ((W.looks_findIn X ha).at (wpAny_bind (L3.at ?_)))))); show wpAny _ _ (storeInOwnDict (.ref x) (.ref C) (.str name tk) name v false) _ _ _
  obtain ⟨nm, bs, mro, ns, qn, hd, sn, sb, ab, col, del⟩ := cd
  dsimp only at hh; subst hh; unfold storeInOwnDict ownDictForStores
  repeat (first | with_reducible refine store_in_new ?_ ?_ | with_reducible refine wpAny_loadPart_at hx ?_ | with_reducible refine hcls.at ?_ | wp_step)
  · exact ⟨_, #[], _, (Heap.get?_update_ne _ _ _ _ nx.symm).trans (Heap.get?_push_at rfl rfl), rfl, fun e he => absurd he (by simp), fun _ => rfl⟩
  · intro h' tk' hn' hs
    have atx : (hp.push { cls := .type "dict", data := .dict #[] }).get? x = some { cls := .ref C, data := .fields fv } := Heap.get?_push_of_some _ hx
    exact hq h' tk' hp.objs.size (fun b o hb ho => (hs.2 b (Nat.ne_of_lt (Heap.lt_size ho))).trans ((Heap.get?_update_ne _ _ _ _ hb).trans (Heap.get?_push_of_some _ ho))) (Nat.le_refl _) nx.symm ((hs.2 x nx).trans (Heap.get?_update_self _ atx rfl)) hn'
end
end XO
end PySem
namespace PySem
namespace XO
open PySem.W PySem.Calls PyProof.Rows PySem.HandSPX
theorem one_size (v : Value) : [v].length ≤ sizeLine := by
  rw [sizeLine_eq]
  exact (by decide : 1 ≤ 16777216)
theorem ldC {M : Model} {s : Shared} {name : Str} {scope : Scope} {L a : Addr} {cd : Value} {m : Str → Option Value} {x : Str} {pos : Pos} {v : Value} {Q : Value → Shared → Prop} {A : Around} {E : Value → Shared → Prop} (hn : s.heap.Ns L m) (hv : m x = some v) (h : Q v s)
    (hk : scope.kind = .function := by rfl) (hl : (envOfC name scope L a cd).kindOf x = some .local := by rfl) (hd : (x == ("__debug__" : Str)) = false := by decide) :
    wpAny M A (eval (.Name x pos) (envOfC name scope L a cd)) Q E s := wpAny_Name (wpAny_loadName_local hk hl hn hv h) hd
/-- what __init__ leaves of a fresh exception at x -/
structure InitEnd (f : Str) (h h' : Heap) (x C dx t1 : Addr) (v : Value) : Prop where
  keep : ∀ b o, b ≠ x → h.get? b = some o → h'.get? b = some o
  obj : h'.get? x = some { cls := .ref C, dict := some dx, data := .fields #[.ref t1, .none, .none, .none, .bool false, .none] }
  dbig : h.objs.size ≤ dx
  dne : dx ≠ x
  ns : h'.Ns1 dx (fun y => if y = f then some v else none)
/-- a made one: its object at e, its own dict at d -/
structure OwnMade (f : Str) (h h' : Heap) (e C d : Addr) (v : Value) : Prop where
  keep : ∀ b o, h.get? b = some o → h'.get? b = some o
  new : h.objs.size ≤ e
  obj : ∃ oe, h'.get? e = some oe ∧ oe.cls = .ref C ∧ oe.dict = some d ∧ ∃ t1, oe.data = .fields #[.ref t1, .none, .none, .none, .bool false, .none]
  dbig : h.objs.size ≤ d
  dne : d ≠ e
  ns : h'.Ns1 d (fun y => if y = f then some v else none)
end XO
end PySem

namespace PySem
namespace XO_ParseError
open PySem.W PySem.Calls PyProof.Rows PySem.HandSPX PySem.XO
def iA (p1 p2 : Pos) : Arguments := { posonlyargs := [], args := [{ arg := "self", annotation := none, pos := p1 }, { arg := "number", annotation := none, pos := p2 }], vararg := none, kwonlyargs := [], kw_defaults := [], kwarg := none, defaults := [] }
def iB (q1 q2 q3 q4 : Pos) : List Stmt := [.Assign [.Attribute (.Name "self" q1) "number" q2] (.Name "number" q3) q4]
def iS : Scope := { kind := .function, names := [(PySem.Str.ofString "self", .local), (PySem.Str.ofString "number", .local)], isGenerator := false, isCoroutine := false, more := [] }
/-- the base's names -/
abbrev bmB : List Value := [.type "ValueError", .type "Exception", .type "BaseException", .type "object"]
theorem mro : Mro "ValueError" "ValueError.__new__" "ValueError.__init__" [.type "ValueError", .type "Exception", .type "BaseException", .type "object"] bmB := ⟨F.excBase_ValueError, by decide +kernel, by decide +kernel, by decide +kernel, by decide +kernel, fun self => F.store_ValueError.passes self⟩
/-- what the written part says of the class at C and of its __init__ at fI -/
structure Own (K : Frag) (mg : Str → Option Value) (C fI : Addr) : Prop where
  gC : mg "ParseError" = some (.ref C)
  cls : ∃ nm q N bs bm sn sub ab col dd k0 k1 k2 k3 k5, K.lookup C = some (excClassObj nm q C N bs bm true sn sub ab col dd k0 k1 k2 k3 k5 "ValueError.__new__") ∧ excTail bmB bm = true
  sa : findIn K (.ref C) "__setattr__" = some (some (.builtin "object.__setattr__"))
  ga : findIn K (.ref C) "__getattribute__" = some (some (.builtin "BaseException.__getattribute__"))
  gg : findIn K (.ref C) "__getattr__" = some none
  noN : findIn K (.ref C) "number" = some none
  iC : findIn K (.ref C) "__init__" = some (some (.ref fI))
  tC : typeIn K (.ref fI) = some (.type "function")
  kC : keepIn K (.ref C) = true
  exC : subIn K (.ref C) (.type "BaseException") = some true
  tyC : typeIn K (.ref C) = some (.type "type")
  hdC : hasDictIn K C = true
  fn : ∃ (oc : Value) (od : Option Addr) (doc pm : Value) (an : Option Addr) (cdv ct : Value) (osl : Array (Option Value)) (p1 p2 q1 q2 q3 q4 : Pos), K.lookup fI = some ⟨oc, od, .func (fnOf "__init__" "ParseError.__init__" (iA p1 p2) (iB q1 q2 q3 q4) iS .none .none doc pm an cdv ct), osl⟩ ∧ codeIn K cdv "ParseError.__init__" = true
section
variable {prog : Program} {w : World} {A : Around} {R : Result → Shared → Prop} {s : Shared} {K : Frag} {mg : Str → Option Value} {C fI : Addr}
theorem init (T : Own K mg C fI) {x t0 : Addr} {v : Value} (X : K.In s.heap) (hlim : s.heap.NoLimit) (hx : s.heap.get? x = some (excO C t0)) (hnx : K.lookup x = none) (hroom : A.depth < recursionLimit)
    (hq : ∀ h' tk dx, InitEnd "number" s.heap h' x C dx t0 v → R (.ok (.ret .none)) { s with heap := h', toks := tk }) : codeAny (model prog w) A (.call (.ref fI) ⟨[.ref x, v], []⟩) R s := by
  obtain ⟨oc, od, doc, pm, an, cdv, ct, osl, p1, p2, q1, q2, q3, q4, ho, hcd⟩ := T.fn
  obtain ⟨nm, q, N, bs, bm, sn, sub, ab, col, dd, k0, k1, k2, k3, k5, hC, hbm⟩ := T.cls
  have hcl : clsIn K C = some { name := nm, bases := bs, mro := .ref C :: bm, ns := N, qualname := q, hasDict := true, slotNames := sn, subclasses := sub, abstract := ab, collection := col, hasDel := false } := by unfold clsIn; rw [hC] <;> rfl
  have tl : excTail bmB (.ref C :: bm) = true := hbm
  refine Att.call_fn (binds := [("self", .ref x), ("number", v)]) X hlim ho hcd hroom (BindsTo.of_eq (by first | rfl | with_unfolding_all rfl)) (by first | rfl | decide | with_unfolding_all rfl) (fun s₁ IC => ?_) rfl rfl rfl
  obtain ⟨h₁, tk₁, rfl⟩ := IC.toInCall.same
  have k : ∀ b o, s.heap.get? b = some o → h₁.get? b = some o := IC.toInCall.keep
  have hn := IC.toInCall.ns
  have hxL : s.heap.objs.size ≠ x := Nat.ne_of_gt (Heap.lt_size hx)
  have X₁ : K.In h₁ := X.keeps k
  have hx₁ := k _ _ hx
  show wpAny _ _ (execs _ _) _ _ _
  refine wpAny_execs_cons (plainObj_wpAny_Assign_Attribute ?_)
  refine ldC (v := v) hn (by first | rfl | with_unfolding_all rfl | kernel_rfl) (ldC (v := .ref x) hn (by first | rfl | with_unfolding_all rfl | kernel_rfl) ?_)
  refine set_plain X₁ (ox := excO C t0) (od := none) ⟨hx₁, rfl, rfl, trivial⟩ T.sa ?_
  refine osa X₁ hx₁ hcl rfl ((excTail_contains "object" _ tl).trans mro.hasO) (fun self => excTail_pass self (mro.pass self) _ tl) rfl T.noN (fun h₃ tk₃ dx k₃ dn dne hx₃ hn₃ => ?_)
  show wpAny _ _ (execs _ _) _ _ _
  have z : s.heap.objs.size < h₁.objs.size := hn.lt
  exact wpAny_execs_nil (hq h₃ tk₃ dx ⟨fun b o hb e => k₃ b o hb (k b o e), hx₃, Nat.le_of_lt (Nat.lt_of_lt_of_le z dn), dne, hn₃⟩)
theorem make (T : Own K mg C fI) {v : Value} (X : K.In s.heap) (hlim : s.heap.NoLimit) (hroom : A.depth + 1 < recursionLimit) (hq : ∀ h' tk e d, OwnMade "number" s.heap h' e C d v → R (.ok (.ret (.ref e))) { s with heap := h', toks := tk }) :
    codeAny (model prog w) A (.call (.ref C) ⟨[v], []⟩) R s := by
  obtain ⟨nm, q, N, bs, bm, sn, sub, ab, col, dd, k0, k1, k2, k3, k5, hC, hbm⟩ := T.cls
  obtain ⟨hp, g, dr, tk, os⟩ := s
  have k : ∀ b o, hp.get? b = some o → ((hp.push (kdv_tup [v])).push (excO C hp.objs.size)).get? b = some o := fun b o e => Heap.get?_push_of_some _ (Heap.get?_push_of_some _ e)
  have hget : ((hp.push (kdv_tup [v])).push (excO C hp.objs.size)).get? (hp.objs.size + 1) = some (excO C hp.objs.size) := by heap_get
  have hnx : K.lookup (hp.objs.size + 1) = none := by
    cases e : K.lookup (hp.objs.size + 1) with
    | none => rfl
    | some o =>
      have z : hp.get? (hp.objs.size + 1) = some o := X _ _ e
      exact absurd (Nat.lt_of_succ_lt (Heap.lt_size z)) (Nat.lt_irrefl _)
  refine made mro hbm (X _ _ hC) (looks_findIn X T.iC) (fun self => bind_fn X self T.tC) (one_size v) ?_
  refine init (s := ⟨(hp.push (kdv_tup [v])).push (excO C hp.objs.size), g, dr, tk, os⟩) T (X.keeps k) (hlim.keeps k) hget hnx ?_ fun h' tk' dx ⟨k', hx, dn, dne, hns⟩ => ?_
  · show A.depth + 1 < recursionLimit
    exact hroom
  · have old : ∀ b o, hp.get? b = some o → h'.get? b = some o := fun b o e => k' b o (Nat.ne_of_lt (Nat.lt_succ_of_lt (Heap.lt_size e))) (k b o e)
    have z : hp.objs.size + 1 + 1 ≤ dx := by
      first
        | (simpa only [Heap.size_push] using dn)
        | exact dn
        | (have q := dn; rw [Heap.size_push, Heap.size_push] at q; exact q)
    exact ⟨rfl, hq h' tk' (hp.objs.size + 1) dx ⟨old, Nat.le_succ _, ⟨_, hx, rfl, rfl, ⟨_, rfl⟩⟩, Nat.le_trans (Nat.le_trans (Nat.le_succ _) (Nat.le_succ _)) z, dne, hns⟩⟩
end
end XO_ParseError
end PySem

namespace PySem
namespace XO_UnknownName
open PySem.W PySem.Calls PyProof.Rows PySem.HandSPX PySem.XO
def iA (p1 p2 : Pos) : Arguments := { posonlyargs := [], args := [{ arg := "self", annotation := none, pos := p1 }, { arg := "word", annotation := none, pos := p2 }], vararg := none, kwonlyargs := [], kw_defaults := [], kwarg := none, defaults := [] }
def iB (q1 q2 q3 q4 : Pos) : List Stmt := [.Assign [.Attribute (.Name "self" q1) "word" q2] (.Name "word" q3) q4]
def iS : Scope := { kind := .function, names := [(PySem.Str.ofString "self", .local), (PySem.Str.ofString "word", .local)], isGenerator := false, isCoroutine := false, more := [] }
/-- the base's names -/
abbrev bmB : List Value := [.type "KeyError", .type "LookupError", .type "Exception", .type "BaseException", .type "object"]
theorem mro : Mro "LookupError" "LookupError.__new__" "LookupError.__init__" [.type "LookupError", .type "Exception", .type "BaseException", .type "object"] bmB := ⟨F.excBase_LookupError, by decide +kernel, by decide +kernel, by decide +kernel, by decide +kernel, fun self => F.store_KeyError.passes self⟩
/-- what the written part says of the class at C and of its __init__ at fI -/
structure Own (K : Frag) (mg : Str → Option Value) (C fI : Addr) : Prop where
  gC : mg "UnknownName" = some (.ref C)
  cls : ∃ nm q N bs bm sn sub ab col dd k0 k1 k2 k3 k5, K.lookup C = some (excClassObj nm q C N bs bm true sn sub ab col dd k0 k1 k2 k3 k5 "LookupError.__new__") ∧ excTail bmB bm = true
  sa : findIn K (.ref C) "__setattr__" = some (some (.builtin "object.__setattr__"))
  ga : findIn K (.ref C) "__getattribute__" = some (some (.builtin "BaseException.__getattribute__"))
  gg : findIn K (.ref C) "__getattr__" = some none
  noN : findIn K (.ref C) "word" = some none
  iC : findIn K (.ref C) "__init__" = some (some (.ref fI))
  tC : typeIn K (.ref fI) = some (.type "function")
  kC : keepIn K (.ref C) = true
  exC : subIn K (.ref C) (.type "BaseException") = some true
  tyC : typeIn K (.ref C) = some (.type "type")
  hdC : hasDictIn K C = true
  fn : ∃ (oc : Value) (od : Option Addr) (doc pm : Value) (an : Option Addr) (cdv ct : Value) (osl : Array (Option Value)) (p1 p2 q1 q2 q3 q4 : Pos), K.lookup fI = some ⟨oc, od, .func (fnOf "__init__" "UnknownName.__init__" (iA p1 p2) (iB q1 q2 q3 q4) iS .none .none doc pm an cdv ct), osl⟩ ∧ codeIn K cdv "UnknownName.__init__" = true
section
variable {prog : Program} {w : World} {A : Around} {R : Result → Shared → Prop} {s : Shared} {K : Frag} {mg : Str → Option Value} {C fI : Addr}
theorem init (T : Own K mg C fI) {x t0 : Addr} {v : Value} (X : K.In s.heap) (hlim : s.heap.NoLimit) (hx : s.heap.get? x = some (excO C t0)) (hnx : K.lookup x = none) (hroom : A.depth < recursionLimit)
    (hq : ∀ h' tk dx, InitEnd "word" s.heap h' x C dx t0 v → R (.ok (.ret .none)) { s with heap := h', toks := tk }) : codeAny (model prog w) A (.call (.ref fI) ⟨[.ref x, v], []⟩) R s := by
  obtain ⟨oc, od, doc, pm, an, cdv, ct, osl, p1, p2, q1, q2, q3, q4, ho, hcd⟩ := T.fn
  obtain ⟨nm, q, N, bs, bm, sn, sub, ab, col, dd, k0, k1, k2, k3, k5, hC, hbm⟩ := T.cls
  have hcl : clsIn K C = some { name := nm, bases := bs, mro := .ref C :: bm, ns := N, qualname := q, hasDict := true, slotNames := sn, subclasses := sub, abstract := ab, collection := col, hasDel := false } := by unfold clsIn; rw [hC] <;> rfl
  have tl : excTail bmB (.ref C :: bm) = true := hbm
  refine Att.call_fn (binds := [("self", .ref x), ("word", v)]) X hlim ho hcd hroom (BindsTo.of_eq (by first | rfl | with_unfolding_all rfl)) (by first | rfl | decide | with_unfolding_all rfl) (fun s₁ IC => ?_) rfl rfl rfl
  obtain ⟨h₁, tk₁, rfl⟩ := IC.toInCall.same
  have k : ∀ b o, s.heap.get? b = some o → h₁.get? b = some o := IC.toInCall.keep
  have hn := IC.toInCall.ns
  have hxL : s.heap.objs.size ≠ x := Nat.ne_of_gt (Heap.lt_size hx)
  have X₁ : K.In h₁ := X.keeps k
  have hx₁ := k _ _ hx
  show wpAny _ _ (execs _ _) _ _ _
  refine wpAny_execs_cons (plainObj_wpAny_Assign_Attribute ?_)
  refine ldC (v := v) hn (by first | rfl | with_unfolding_all rfl | kernel_rfl) (ldC (v := .ref x) hn (by first | rfl | with_unfolding_all rfl | kernel_rfl) ?_)
  refine set_plain X₁ (ox := excO C t0) (od := none) ⟨hx₁, rfl, rfl, trivial⟩ T.sa ?_
  refine osa X₁ hx₁ hcl rfl ((excTail_contains "object" _ tl).trans mro.hasO) (fun self => excTail_pass self (mro.pass self) _ tl) rfl T.noN (fun h₃ tk₃ dx k₃ dn dne hx₃ hn₃ => ?_)
  show wpAny _ _ (execs _ _) _ _ _
  have z : s.heap.objs.size < h₁.objs.size := hn.lt
  exact wpAny_execs_nil (hq h₃ tk₃ dx ⟨fun b o hb e => k₃ b o hb (k b o e), hx₃, Nat.le_of_lt (Nat.lt_of_lt_of_le z dn), dne, hn₃⟩)
theorem make (T : Own K mg C fI) {v : Value} (X : K.In s.heap) (hlim : s.heap.NoLimit) (hroom : A.depth + 1 < recursionLimit) (hq : ∀ h' tk e d, OwnMade "word" s.heap h' e C d v → R (.ok (.ret (.ref e))) { s with heap := h', toks := tk }) :
    codeAny (model prog w) A (.call (.ref C) ⟨[v], []⟩) R s := by
  obtain ⟨nm, q, N, bs, bm, sn, sub, ab, col, dd, k0, k1, k2, k3, k5, hC, hbm⟩ := T.cls
  obtain ⟨hp, g, dr, tk, os⟩ := s
  have k : ∀ b o, hp.get? b = some o → ((hp.push (kdv_tup [v])).push (excO C hp.objs.size)).get? b = some o := fun b o e => Heap.get?_push_of_some _ (Heap.get?_push_of_some _ e)
  have hget : ((hp.push (kdv_tup [v])).push (excO C hp.objs.size)).get? (hp.objs.size + 1) = some (excO C hp.objs.size) := by heap_get
  have hnx : K.lookup (hp.objs.size + 1) = none := by
    cases e : K.lookup (hp.objs.size + 1) with
    | none => rfl
    | some o =>
      have z : hp.get? (hp.objs.size + 1) = some o := X _ _ e
      exact absurd (Nat.lt_of_succ_lt (Heap.lt_size z)) (Nat.lt_irrefl _)
  refine made mro hbm (X _ _ hC) (looks_findIn X T.iC) (fun self => bind_fn X self T.tC) (one_size v) ?_
  refine init (s := ⟨(hp.push (kdv_tup [v])).push (excO C hp.objs.size), g, dr, tk, os⟩) T (X.keeps k) (hlim.keeps k) hget hnx ?_ fun h' tk' dx ⟨k', hx, dn, dne, hns⟩ => ?_
  · show A.depth + 1 < recursionLimit
    exact hroom
  · have old : ∀ b o, hp.get? b = some o → h'.get? b = some o := fun b o e => k' b o (Nat.ne_of_lt (Nat.lt_succ_of_lt (Heap.lt_size e))) (k b o e)
    have z : hp.objs.size + 1 + 1 ≤ dx := by
      first
        | (simpa only [Heap.size_push] using dn)
        | exact dn
        | (have q := dn; rw [Heap.size_push, Heap.size_push] at q; exact q)
    exact ⟨rfl, hq h' tk' (hp.objs.size + 1) dx ⟨old, Nat.le_succ _, ⟨_, hx, rfl, rfl, ⟨_, rfl⟩⟩, Nat.le_trans (Nat.le_trans (Nat.le_succ _) (Nat.le_succ _)) z, dne, hns⟩⟩
end
end XO_UnknownName
end PySem

namespace PySem
namespace XO_Parted
open PySem.W PySem.Calls PyProof.Rows PySem.HandSPX PySem.XO
def iA (p1 p2 : Pos) : Arguments := { posonlyargs := [], args := [{ arg := "self", annotation := none, pos := p1 }, { arg := "parting", annotation := none, pos := p2 }], vararg := none, kwonlyargs := [], kw_defaults := [], kwarg := none, defaults := [] }
def iB (q1 q2 q3 q4 : Pos) : List Stmt := [.Assign [.Attribute (.Name "self" q1) "parting" q2] (.Name "parting" q3) q4]
def iS : Scope := { kind := .function, names := [(PySem.Str.ofString "self", .local), (PySem.Str.ofString "parting", .local)], isGenerator := false, isCoroutine := false, more := [] }
/-- the base's names -/
abbrev bmB : List Value := [.type "LookupError", .type "Exception", .type "BaseException", .type "object"]
theorem mro : Mro "LookupError" "LookupError.__new__" "LookupError.__init__" [.type "LookupError", .type "Exception", .type "BaseException", .type "object"] bmB := ⟨F.excBase_LookupError, by decide +kernel, by decide +kernel, by decide +kernel, by decide +kernel, fun self => F.store_LookupError.passes self⟩
/-- what the written part says of the class at C and of its __init__ at fI -/
structure Own (K : Frag) (mg : Str → Option Value) (C fI : Addr) : Prop where
  gC : mg "Parted" = some (.ref C)
  cls : ∃ nm q N bs bm sn sub ab col dd k0 k1 k2 k3 k5, K.lookup C = some (excClassObj nm q C N bs bm true sn sub ab col dd k0 k1 k2 k3 k5 "LookupError.__new__") ∧ excTail bmB bm = true
  sa : findIn K (.ref C) "__setattr__" = some (some (.builtin "object.__setattr__"))
  ga : findIn K (.ref C) "__getattribute__" = some (some (.builtin "BaseException.__getattribute__"))
  gg : findIn K (.ref C) "__getattr__" = some none
  noN : findIn K (.ref C) "parting" = some none
  iC : findIn K (.ref C) "__init__" = some (some (.ref fI))
  tC : typeIn K (.ref fI) = some (.type "function")
  kC : keepIn K (.ref C) = true
  exC : subIn K (.ref C) (.type "BaseException") = some true
  tyC : typeIn K (.ref C) = some (.type "type")
  hdC : hasDictIn K C = true
  fn : ∃ (oc : Value) (od : Option Addr) (doc pm : Value) (an : Option Addr) (cdv ct : Value) (osl : Array (Option Value)) (p1 p2 q1 q2 q3 q4 : Pos), K.lookup fI = some ⟨oc, od, .func (fnOf "__init__" "Parted.__init__" (iA p1 p2) (iB q1 q2 q3 q4) iS .none .none doc pm an cdv ct), osl⟩ ∧ codeIn K cdv "Parted.__init__" = true
section
variable {prog : Program} {w : World} {A : Around} {R : Result → Shared → Prop} {s : Shared} {K : Frag} {mg : Str → Option Value} {C fI : Addr}
theorem init (T : Own K mg C fI) {x t0 : Addr} {v : Value} (X : K.In s.heap) (hlim : s.heap.NoLimit) (hx : s.heap.get? x = some (excO C t0)) (hnx : K.lookup x = none) (hroom : A.depth < recursionLimit)
    (hq : ∀ h' tk dx, InitEnd "parting" s.heap h' x C dx t0 v → R (.ok (.ret .none)) { s with heap := h', toks := tk }) : codeAny (model prog w) A (.call (.ref fI) ⟨[.ref x, v], []⟩) R s := by
  obtain ⟨oc, od, doc, pm, an, cdv, ct, osl, p1, p2, q1, q2, q3, q4, ho, hcd⟩ := T.fn
  obtain ⟨nm, q, N, bs, bm, sn, sub, ab, col, dd, k0, k1, k2, k3, k5, hC, hbm⟩ := T.cls
  have hcl : clsIn K C = some { name := nm, bases := bs, mro := .ref C :: bm, ns := N, qualname := q, hasDict := true, slotNames := sn, subclasses := sub, abstract := ab, collection := col, hasDel := false } := by unfold clsIn; rw [hC] <;> rfl
  have tl : excTail bmB (.ref C :: bm) = true := hbm
  refine Att.call_fn (binds := [("self", .ref x), ("parting", v)]) X hlim ho hcd hroom (BindsTo.of_eq (by first | rfl | with_unfolding_all rfl)) (by first | rfl | decide | with_unfolding_all rfl) (fun s₁ IC => ?_) rfl rfl rfl
  obtain ⟨h₁, tk₁, rfl⟩ := IC.toInCall.same
  have k : ∀ b o, s.heap.get? b = some o → h₁.get? b = some o := IC.toInCall.keep
  have hn := IC.toInCall.ns
  have hxL : s.heap.objs.size ≠ x := Nat.ne_of_gt (Heap.lt_size hx)
  have X₁ : K.In h₁ := X.keeps k
  have hx₁ := k _ _ hx
  show wpAny _ _ (execs _ _) _ _ _
  refine wpAny_execs_cons (plainObj_wpAny_Assign_Attribute ?_)
  refine ldC (v := v) hn (by first | rfl | with_unfolding_all rfl | kernel_rfl) (ldC (v := .ref x) hn (by first | rfl | with_unfolding_all rfl | kernel_rfl) ?_)
  refine set_plain X₁ (ox := excO C t0) (od := none) ⟨hx₁, rfl, rfl, trivial⟩ T.sa ?_
  refine osa X₁ hx₁ hcl rfl ((excTail_contains "object" _ tl).trans mro.hasO) (fun self => excTail_pass self (mro.pass self) _ tl) rfl T.noN (fun h₃ tk₃ dx k₃ dn dne hx₃ hn₃ => ?_)
  show wpAny _ _ (execs _ _) _ _ _
  have z : s.heap.objs.size < h₁.objs.size := hn.lt
  exact wpAny_execs_nil (hq h₃ tk₃ dx ⟨fun b o hb e => k₃ b o hb (k b o e), hx₃, Nat.le_of_lt (Nat.lt_of_lt_of_le z dn), dne, hn₃⟩)
theorem make (T : Own K mg C fI) {v : Value} (X : K.In s.heap) (hlim : s.heap.NoLimit) (hroom : A.depth + 1 < recursionLimit) (hq : ∀ h' tk e d, OwnMade "parting" s.heap h' e C d v → R (.ok (.ret (.ref e))) { s with heap := h', toks := tk }) :
    codeAny (model prog w) A (.call (.ref C) ⟨[v], []⟩) R s := by
  obtain ⟨nm, q, N, bs, bm, sn, sub, ab, col, dd, k0, k1, k2, k3, k5, hC, hbm⟩ := T.cls
  obtain ⟨hp, g, dr, tk, os⟩ := s
  have k : ∀ b o, hp.get? b = some o → ((hp.push (kdv_tup [v])).push (excO C hp.objs.size)).get? b = some o := fun b o e => Heap.get?_push_of_some _ (Heap.get?_push_of_some _ e)
  have hget : ((hp.push (kdv_tup [v])).push (excO C hp.objs.size)).get? (hp.objs.size + 1) = some (excO C hp.objs.size) := by heap_get
  have hnx : K.lookup (hp.objs.size + 1) = none := by
    cases e : K.lookup (hp.objs.size + 1) with
    | none => rfl
    | some o =>
      have z : hp.get? (hp.objs.size + 1) = some o := X _ _ e
      exact absurd (Nat.lt_of_succ_lt (Heap.lt_size z)) (Nat.lt_irrefl _)
  refine made mro hbm (X _ _ hC) (looks_findIn X T.iC) (fun self => bind_fn X self T.tC) (one_size v) ?_
  refine init (s := ⟨(hp.push (kdv_tup [v])).push (excO C hp.objs.size), g, dr, tk, os⟩) T (X.keeps k) (hlim.keeps k) hget hnx ?_ fun h' tk' dx ⟨k', hx, dn, dne, hns⟩ => ?_
  · show A.depth + 1 < recursionLimit
    exact hroom
  · have old : ∀ b o, hp.get? b = some o → h'.get? b = some o := fun b o e => k' b o (Nat.ne_of_lt (Nat.lt_succ_of_lt (Heap.lt_size e))) (k b o e)
    have z : hp.objs.size + 1 + 1 ≤ dx := by
      first
        | (simpa only [Heap.size_push] using dn)
        | exact dn
        | (have q := dn; rw [Heap.size_push, Heap.size_push] at q; exact q)
    exact ⟨rfl, hq h' tk' (hp.objs.size + 1) dx ⟨old, Nat.le_succ _, ⟨_, hx, rfl, rfl, ⟨_, rfl⟩⟩, Nat.le_trans (Nat.le_trans (Nat.le_succ _) (Nat.le_succ _)) z, dne, hns⟩⟩
end
end XO_Parted
end PySem

namespace PySem
namespace XO_InvalidNumber
open PySem.W PySem.Calls PyProof.Rows PySem.HandSPX PySem.XO
def iA (p1 p2 : Pos) : Arguments := { posonlyargs := [], args := [{ arg := "self", annotation := none, pos := p1 }, { arg := "value", annotation := none, pos := p2 }], vararg := none, kwonlyargs := [], kw_defaults := [], kwarg := none, defaults := [] }
def iB (q1 q2 q3 q4 : Pos) : List Stmt := [.Assign [.Attribute (.Name "self" q1) "value" q2] (.Name "value" q3) q4]
def iS : Scope := { kind := .function, names := [(PySem.Str.ofString "self", .local), (PySem.Str.ofString "value", .local)], isGenerator := false, isCoroutine := false, more := [] }
/-- the base's names -/
abbrev bmB : List Value := [.type "IndexError", .type "LookupError", .type "Exception", .type "BaseException", .type "object"]
theorem mro : Mro "IndexError" "IndexError.__new__" "IndexError.__init__" [.type "IndexError", .type "LookupError", .type "Exception", .type "BaseException", .type "object"] bmB := ⟨F.excBase_IndexError, by decide +kernel, by decide +kernel, by decide +kernel, by decide +kernel, fun self => F.store_IndexError.passes self⟩
/-- what the written part says of the class at C and of its __init__ at fI -/
structure Own (K : Frag) (mg : Str → Option Value) (C fI : Addr) : Prop where
  gC : mg "InvalidNumber" = some (.ref C)
  cls : ∃ nm q N bs bm sn sub ab col dd k0 k1 k2 k3 k5, K.lookup C = some (excClassObj nm q C N bs bm true sn sub ab col dd k0 k1 k2 k3 k5 "IndexError.__new__") ∧ excTail bmB bm = true
  sa : findIn K (.ref C) "__setattr__" = some (some (.builtin "object.__setattr__"))
  ga : findIn K (.ref C) "__getattribute__" = some (some (.builtin "BaseException.__getattribute__"))
  gg : findIn K (.ref C) "__getattr__" = some none
  noN : findIn K (.ref C) "value" = some none
  iC : findIn K (.ref C) "__init__" = some (some (.ref fI))
  tC : typeIn K (.ref fI) = some (.type "function")
  kC : keepIn K (.ref C) = true
  exC : subIn K (.ref C) (.type "BaseException") = some true
  tyC : typeIn K (.ref C) = some (.type "type")
  hdC : hasDictIn K C = true
  fn : ∃ (oc : Value) (od : Option Addr) (doc pm : Value) (an : Option Addr) (cdv ct : Value) (osl : Array (Option Value)) (p1 p2 q1 q2 q3 q4 : Pos), K.lookup fI = some ⟨oc, od, .func (fnOf "__init__" "InvalidNumber.__init__" (iA p1 p2) (iB q1 q2 q3 q4) iS .none .none doc pm an cdv ct), osl⟩ ∧ codeIn K cdv "InvalidNumber.__init__" = true
section
variable {prog : Program} {w : World} {A : Around} {R : Result → Shared → Prop} {s : Shared} {K : Frag} {mg : Str → Option Value} {C fI : Addr}
theorem init (T : Own K mg C fI) {x t0 : Addr} {v : Value} (X : K.In s.heap) (hlim : s.heap.NoLimit) (hx : s.heap.get? x = some (excO C t0)) (hnx : K.lookup x = none) (hroom : A.depth < recursionLimit)
    (hq : ∀ h' tk dx, InitEnd "value" s.heap h' x C dx t0 v → R (.ok (.ret .none)) { s with heap := h', toks := tk }) : codeAny (model prog w) A (.call (.ref fI) ⟨[.ref x, v], []⟩) R s := by
  obtain ⟨oc, od, doc, pm, an, cdv, ct, osl, p1, p2, q1, q2, q3, q4, ho, hcd⟩ := T.fn
  obtain ⟨nm, q, N, bs, bm, sn, sub, ab, col, dd, k0, k1, k2, k3, k5, hC, hbm⟩ := T.cls
  have hcl : clsIn K C = some { name := nm, bases := bs, mro := .ref C :: bm, ns := N, qualname := q, hasDict := true, slotNames := sn, subclasses := sub, abstract := ab, collection := col, hasDel := false } := by unfold clsIn; rw [hC] <;> rfl
  have tl : excTail bmB (.ref C :: bm) = true := hbm
  refine Att.call_fn (binds := [("self", .ref x), ("value", v)]) X hlim ho hcd hroom (BindsTo.of_eq (by first | rfl | with_unfolding_all rfl)) (by first | rfl | decide | with_unfolding_all rfl) (fun s₁ IC => ?_) rfl rfl rfl
  obtain ⟨h₁, tk₁, rfl⟩ := IC.toInCall.same
  have k : ∀ b o, s.heap.get? b = some o → h₁.get? b = some o := IC.toInCall.keep
  have hn := IC.toInCall.ns
  have hxL : s.heap.objs.size ≠ x := Nat.ne_of_gt (Heap.lt_size hx)
  have X₁ : K.In h₁ := X.keeps k
  have hx₁ := k _ _ hx
  show wpAny _ _ (execs _ _) _ _ _
  refine wpAny_execs_cons (plainObj_wpAny_Assign_Attribute ?_)
  refine ldC (v := v) hn (by first | rfl | with_unfolding_all rfl | kernel_rfl) (ldC (v := .ref x) hn (by first | rfl | with_unfolding_all rfl | kernel_rfl) ?_)
  refine set_plain X₁ (ox := excO C t0) (od := none) ⟨hx₁, rfl, rfl, trivial⟩ T.sa ?_
  refine osa X₁ hx₁ hcl rfl ((excTail_contains "object" _ tl).trans mro.hasO) (fun self => excTail_pass self (mro.pass self) _ tl) rfl T.noN (fun h₃ tk₃ dx k₃ dn dne hx₃ hn₃ => ?_)
  show wpAny _ _ (execs _ _) _ _ _
  have z : s.heap.objs.size < h₁.objs.size := hn.lt
  exact wpAny_execs_nil (hq h₃ tk₃ dx ⟨fun b o hb e => k₃ b o hb (k b o e), hx₃, Nat.le_of_lt (Nat.lt_of_lt_of_le z dn), dne, hn₃⟩)
theorem make (T : Own K mg C fI) {v : Value} (X : K.In s.heap) (hlim : s.heap.NoLimit) (hroom : A.depth + 1 < recursionLimit) (hq : ∀ h' tk e d, OwnMade "value" s.heap h' e C d v → R (.ok (.ret (.ref e))) { s with heap := h', toks := tk }) :
    codeAny (model prog w) A (.call (.ref C) ⟨[v], []⟩) R s := by
  obtain ⟨nm, q, N, bs, bm, sn, sub, ab, col, dd, k0, k1, k2, k3, k5, hC, hbm⟩ := T.cls
  obtain ⟨hp, g, dr, tk, os⟩ := s
  have k : ∀ b o, hp.get? b = some o → ((hp.push (kdv_tup [v])).push (excO C hp.objs.size)).get? b = some o := fun b o e => Heap.get?_push_of_some _ (Heap.get?_push_of_some _ e)
  have hget : ((hp.push (kdv_tup [v])).push (excO C hp.objs.size)).get? (hp.objs.size + 1) = some (excO C hp.objs.size) := by heap_get
  have hnx : K.lookup (hp.objs.size + 1) = none := by
    cases e : K.lookup (hp.objs.size + 1) with
    | none => rfl
    | some o =>
      have z : hp.get? (hp.objs.size + 1) = some o := X _ _ e
      exact absurd (Nat.lt_of_succ_lt (Heap.lt_size z)) (Nat.lt_irrefl _)
  refine made mro hbm (X _ _ hC) (looks_findIn X T.iC) (fun self => bind_fn X self T.tC) (one_size v) ?_
  refine init (s := ⟨(hp.push (kdv_tup [v])).push (excO C hp.objs.size), g, dr, tk, os⟩) T (X.keeps k) (hlim.keeps k) hget hnx ?_ fun h' tk' dx ⟨k', hx, dn, dne, hns⟩ => ?_
  · show A.depth + 1 < recursionLimit
    exact hroom
  · have old : ∀ b o, hp.get? b = some o → h'.get? b = some o := fun b o e => k' b o (Nat.ne_of_lt (Nat.lt_succ_of_lt (Heap.lt_size e))) (k b o e)
    have z : hp.objs.size + 1 + 1 ≤ dx := by
      first
        | (simpa only [Heap.size_push] using dn)
        | exact dn
        | (have q := dn; rw [Heap.size_push, Heap.size_push] at q; exact q)
    exact ⟨rfl, hq h' tk' (hp.objs.size + 1) dx ⟨old, Nat.le_succ _, ⟨_, hx, rfl, rfl, ⟨_, rfl⟩⟩, Nat.le_trans (Nat.le_trans (Nat.le_succ _) (Nat.le_succ _)) z, dne, hns⟩⟩
end
end XO_InvalidNumber
end PySem

namespace PySem
namespace XO_NothingToUndo
open PySem.W PySem.Calls PyProof.Rows PySem.HandSPX PySem.XO
def iA (p1 p2 : Pos) : Arguments := { posonlyargs := [], args := [{ arg := "self", annotation := none, pos := p1 }, { arg := "many", annotation := none, pos := p2 }], vararg := none, kwonlyargs := [], kw_defaults := [], kwarg := none, defaults := [] }
def iB (q1 q2 q3 q4 : Pos) : List Stmt := [.Assign [.Attribute (.Name "self" q1) "many" q2] (.Name "many" q3) q4]
def iS : Scope := { kind := .function, names := [(PySem.Str.ofString "self", .local), (PySem.Str.ofString "many", .local)], isGenerator := false, isCoroutine := false, more := [] }
/-- the base's names -/
abbrev bmB : List Value := [.type "RuntimeError", .type "Exception", .type "BaseException", .type "object"]
theorem mro : Mro "RuntimeError" "RuntimeError.__new__" "RuntimeError.__init__" [.type "RuntimeError", .type "Exception", .type "BaseException", .type "object"] bmB := ⟨F.excBase_RuntimeError, by decide +kernel, by decide +kernel, by decide +kernel, by decide +kernel, fun self => F.store_RuntimeError.passes self⟩
/-- what the written part says of the class at C and of its __init__ at fI -/
structure Own (K : Frag) (mg : Str → Option Value) (C fI : Addr) : Prop where
  gC : mg "NothingToUndo" = some (.ref C)
  cls : ∃ nm q N bs bm sn sub ab col dd k0 k1 k2 k3 k5, K.lookup C = some (excClassObj nm q C N bs bm true sn sub ab col dd k0 k1 k2 k3 k5 "RuntimeError.__new__") ∧ excTail bmB bm = true
  sa : findIn K (.ref C) "__setattr__" = some (some (.builtin "object.__setattr__"))
  ga : findIn K (.ref C) "__getattribute__" = some (some (.builtin "BaseException.__getattribute__"))
  gg : findIn K (.ref C) "__getattr__" = some none
  noN : findIn K (.ref C) "many" = some none
  iC : findIn K (.ref C) "__init__" = some (some (.ref fI))
  tC : typeIn K (.ref fI) = some (.type "function")
  kC : keepIn K (.ref C) = true
  exC : subIn K (.ref C) (.type "BaseException") = some true
  tyC : typeIn K (.ref C) = some (.type "type")
  hdC : hasDictIn K C = true
  fn : ∃ (oc : Value) (od : Option Addr) (doc pm : Value) (an : Option Addr) (cdv ct : Value) (osl : Array (Option Value)) (p1 p2 q1 q2 q3 q4 : Pos), K.lookup fI = some ⟨oc, od, .func (fnOf "__init__" "NothingToUndo.__init__" (iA p1 p2) (iB q1 q2 q3 q4) iS .none .none doc pm an cdv ct), osl⟩ ∧ codeIn K cdv "NothingToUndo.__init__" = true
section
variable {prog : Program} {w : World} {A : Around} {R : Result → Shared → Prop} {s : Shared} {K : Frag} {mg : Str → Option Value} {C fI : Addr}
theorem init (T : Own K mg C fI) {x t0 : Addr} {v : Value} (X : K.In s.heap) (hlim : s.heap.NoLimit) (hx : s.heap.get? x = some (excO C t0)) (hnx : K.lookup x = none) (hroom : A.depth < recursionLimit)
    (hq : ∀ h' tk dx, InitEnd "many" s.heap h' x C dx t0 v → R (.ok (.ret .none)) { s with heap := h', toks := tk }) : codeAny (model prog w) A (.call (.ref fI) ⟨[.ref x, v], []⟩) R s := by
  obtain ⟨oc, od, doc, pm, an, cdv, ct, osl, p1, p2, q1, q2, q3, q4, ho, hcd⟩ := T.fn
  obtain ⟨nm, q, N, bs, bm, sn, sub, ab, col, dd, k0, k1, k2, k3, k5, hC, hbm⟩ := T.cls
  have hcl : clsIn K C = some { name := nm, bases := bs, mro := .ref C :: bm, ns := N, qualname := q, hasDict := true, slotNames := sn, subclasses := sub, abstract := ab, collection := col, hasDel := false } := by unfold clsIn; rw [hC] <;> rfl
  have tl : excTail bmB (.ref C :: bm) = true := hbm
  refine Att.call_fn (binds := [("self", .ref x), ("many", v)]) X hlim ho hcd hroom (BindsTo.of_eq (by first | rfl | with_unfolding_all rfl)) (by first | rfl | decide | with_unfolding_all rfl) (fun s₁ IC => ?_) rfl rfl rfl
  obtain ⟨h₁, tk₁, rfl⟩ := IC.toInCall.same
  have k : ∀ b o, s.heap.get? b = some o → h₁.get? b = some o := IC.toInCall.keep
  have hn := IC.toInCall.ns
  have hxL : s.heap.objs.size ≠ x := Nat.ne_of_gt (Heap.lt_size hx)
  have X₁ : K.In h₁ := X.keeps k
  have hx₁ := k _ _ hx
  show wpAny _ _ (execs _ _) _ _ _
  refine wpAny_execs_cons (plainObj_wpAny_Assign_Attribute ?_)
  refine ldC (v := v) hn (by first | rfl | with_unfolding_all rfl | kernel_rfl) (ldC (v := .ref x) hn (by first | rfl | with_unfolding_all rfl | kernel_rfl) ?_)
  refine set_plain X₁ (ox := excO C t0) (od := none) ⟨hx₁, rfl, rfl, trivial⟩ T.sa ?_
  refine osa X₁ hx₁ hcl rfl ((excTail_contains "object" _ tl).trans mro.hasO) (fun self => excTail_pass self (mro.pass self) _ tl) rfl T.noN (fun h₃ tk₃ dx k₃ dn dne hx₃ hn₃ => ?_)
  show wpAny _ _ (execs _ _) _ _ _
  have z : s.heap.objs.size < h₁.objs.size := hn.lt
  exact wpAny_execs_nil (hq h₃ tk₃ dx ⟨fun b o hb e => k₃ b o hb (k b o e), hx₃, Nat.le_of_lt (Nat.lt_of_lt_of_le z dn), dne, hn₃⟩)
theorem make (T : Own K mg C fI) {v : Value} (X : K.In s.heap) (hlim : s.heap.NoLimit) (hroom : A.depth + 1 < recursionLimit) (hq : ∀ h' tk e d, OwnMade "many" s.heap h' e C d v → R (.ok (.ret (.ref e))) { s with heap := h', toks := tk }) :
    codeAny (model prog w) A (.call (.ref C) ⟨[v], []⟩) R s := by
  obtain ⟨nm, q, N, bs, bm, sn, sub, ab, col, dd, k0, k1, k2, k3, k5, hC, hbm⟩ := T.cls
  obtain ⟨hp, g, dr, tk, os⟩ := s
  have k : ∀ b o, hp.get? b = some o → ((hp.push (kdv_tup [v])).push (excO C hp.objs.size)).get? b = some o := fun b o e => Heap.get?_push_of_some _ (Heap.get?_push_of_some _ e)
  have hget : ((hp.push (kdv_tup [v])).push (excO C hp.objs.size)).get? (hp.objs.size + 1) = some (excO C hp.objs.size) := by heap_get
  have hnx : K.lookup (hp.objs.size + 1) = none := by
    cases e : K.lookup (hp.objs.size + 1) with
    | none => rfl
    | some o =>
      have z : hp.get? (hp.objs.size + 1) = some o := X _ _ e
      exact absurd (Nat.lt_of_succ_lt (Heap.lt_size z)) (Nat.lt_irrefl _)
  refine made mro hbm (X _ _ hC) (looks_findIn X T.iC) (fun self => bind_fn X self T.tC) (one_size v) ?_
  refine init (s := ⟨(hp.push (kdv_tup [v])).push (excO C hp.objs.size), g, dr, tk, os⟩) T (X.keeps k) (hlim.keeps k) hget hnx ?_ fun h' tk' dx ⟨k', hx, dn, dne, hns⟩ => ?_
  · show A.depth + 1 < recursionLimit
    exact hroom
  · have old : ∀ b o, hp.get? b = some o → h'.get? b = some o := fun b o e => k' b o (Nat.ne_of_lt (Nat.lt_succ_of_lt (Heap.lt_size e))) (k b o e)
    have z : hp.objs.size + 1 + 1 ≤ dx := by
      first
        | (simpa only [Heap.size_push] using dn)
        | exact dn
        | (have q := dn; rw [Heap.size_push, Heap.size_push] at q; exact q)
    exact ⟨rfl, hq h' tk' (hp.objs.size + 1) dx ⟨old, Nat.le_succ _, ⟨_, hx, rfl, rfl, ⟨_, rfl⟩⟩, Nat.le_trans (Nat.le_trans (Nat.le_succ _) (Nat.le_succ _)) z, dne, hns⟩⟩
end
end XO_NothingToUndo
end PySem

namespace PySem
namespace XO_TooMany
open PySem.W PySem.Calls PyProof.Rows PySem.HandSPX PySem.XO
def iA (p1 p2 : Pos) : Arguments := { posonlyargs := [], args := [{ arg := "self", annotation := none, pos := p1 }, { arg := "limit", annotation := none, pos := p2 }], vararg := none, kwonlyargs := [], kw_defaults := [], kwarg := none, defaults := [] }
def iB (q1 q2 q3 q4 : Pos) : List Stmt := [.Assign [.Attribute (.Name "self" q1) "limit" q2] (.Name "limit" q3) q4]
def iS : Scope := { kind := .function, names := [(PySem.Str.ofString "self", .local), (PySem.Str.ofString "limit", .local)], isGenerator := false, isCoroutine := false, more := [] }
/-- the base's names -/
abbrev bmB : List Value := [.type "OverflowError", .type "ArithmeticError", .type "Exception", .type "BaseException", .type "object"]
theorem mro : Mro "OverflowError" "OverflowError.__new__" "OverflowError.__init__" [.type "OverflowError", .type "ArithmeticError", .type "Exception", .type "BaseException", .type "object"] bmB := ⟨F.excBase_OverflowError, by decide +kernel, by decide +kernel, by decide +kernel, by decide +kernel, fun self => F.store_OverflowError.passes self⟩
/-- what the written part says of the class at C and of its __init__ at fI -/
structure Own (K : Frag) (mg : Str → Option Value) (C fI : Addr) : Prop where
  gC : mg "TooMany" = some (.ref C)
  cls : ∃ nm q N bs bm sn sub ab col dd k0 k1 k2 k3 k5, K.lookup C = some (excClassObj nm q C N bs bm true sn sub ab col dd k0 k1 k2 k3 k5 "OverflowError.__new__") ∧ excTail bmB bm = true
  sa : findIn K (.ref C) "__setattr__" = some (some (.builtin "object.__setattr__"))
  ga : findIn K (.ref C) "__getattribute__" = some (some (.builtin "BaseException.__getattribute__"))
  gg : findIn K (.ref C) "__getattr__" = some none
  noN : findIn K (.ref C) "limit" = some none
  iC : findIn K (.ref C) "__init__" = some (some (.ref fI))
  tC : typeIn K (.ref fI) = some (.type "function")
  kC : keepIn K (.ref C) = true
  exC : subIn K (.ref C) (.type "BaseException") = some true
  tyC : typeIn K (.ref C) = some (.type "type")
  hdC : hasDictIn K C = true
  fn : ∃ (oc : Value) (od : Option Addr) (doc pm : Value) (an : Option Addr) (cdv ct : Value) (osl : Array (Option Value)) (p1 p2 q1 q2 q3 q4 : Pos), K.lookup fI = some ⟨oc, od, .func (fnOf "__init__" "TooMany.__init__" (iA p1 p2) (iB q1 q2 q3 q4) iS .none .none doc pm an cdv ct), osl⟩ ∧ codeIn K cdv "TooMany.__init__" = true
section
variable {prog : Program} {w : World} {A : Around} {R : Result → Shared → Prop} {s : Shared} {K : Frag} {mg : Str → Option Value} {C fI : Addr}
theorem init (T : Own K mg C fI) {x t0 : Addr} {v : Value} (X : K.In s.heap) (hlim : s.heap.NoLimit) (hx : s.heap.get? x = some (excO C t0)) (hnx : K.lookup x = none) (hroom : A.depth < recursionLimit)
    (hq : ∀ h' tk dx, InitEnd "limit" s.heap h' x C dx t0 v → R (.ok (.ret .none)) { s with heap := h', toks := tk }) : codeAny (model prog w) A (.call (.ref fI) ⟨[.ref x, v], []⟩) R s := by
  obtain ⟨oc, od, doc, pm, an, cdv, ct, osl, p1, p2, q1, q2, q3, q4, ho, hcd⟩ := T.fn
  obtain ⟨nm, q, N, bs, bm, sn, sub, ab, col, dd, k0, k1, k2, k3, k5, hC, hbm⟩ := T.cls
  have hcl : clsIn K C = some { name := nm, bases := bs, mro := .ref C :: bm, ns := N, qualname := q, hasDict := true, slotNames := sn, subclasses := sub, abstract := ab, collection := col, hasDel := false } := by unfold clsIn; rw [hC] <;> rfl
  have tl : excTail bmB (.ref C :: bm) = true := hbm
  refine Att.call_fn (binds := [("self", .ref x), ("limit", v)]) X hlim ho hcd hroom (BindsTo.of_eq (by first | rfl | with_unfolding_all rfl)) (by first | rfl | decide | with_unfolding_all rfl) (fun s₁ IC => ?_) rfl rfl rfl
  obtain ⟨h₁, tk₁, rfl⟩ := IC.toInCall.same
  have k : ∀ b o, s.heap.get? b = some o → h₁.get? b = some o := IC.toInCall.keep
  have hn := IC.toInCall.ns
  have hxL : s.heap.objs.size ≠ x := Nat.ne_of_gt (Heap.lt_size hx)
  have X₁ : K.In h₁ := X.keeps k
  have hx₁ := k _ _ hx
  show wpAny _ _ (execs _ _) _ _ _
  refine wpAny_execs_cons (plainObj_wpAny_Assign_Attribute ?_)
  refine ldC (v := v) hn (by first | rfl | with_unfolding_all rfl | kernel_rfl) (ldC (v := .ref x) hn (by first | rfl | with_unfolding_all rfl | kernel_rfl) ?_)
  refine set_plain X₁ (ox := excO C t0) (od := none) ⟨hx₁, rfl, rfl, trivial⟩ T.sa ?_
  refine osa X₁ hx₁ hcl rfl ((excTail_contains "object" _ tl).trans mro.hasO) (fun self => excTail_pass self (mro.pass self) _ tl) rfl T.noN (fun h₃ tk₃ dx k₃ dn dne hx₃ hn₃ => ?_)
  show wpAny _ _ (execs _ _) _ _ _
  have z : s.heap.objs.size < h₁.objs.size := hn.lt
  exact wpAny_execs_nil (hq h₃ tk₃ dx ⟨fun b o hb e => k₃ b o hb (k b o e), hx₃, Nat.le_of_lt (Nat.lt_of_lt_of_le z dn), dne, hn₃⟩)
theorem make (T : Own K mg C fI) {v : Value} (X : K.In s.heap) (hlim : s.heap.NoLimit) (hroom : A.depth + 1 < recursionLimit) (hq : ∀ h' tk e d, OwnMade "limit" s.heap h' e C d v → R (.ok (.ret (.ref e))) { s with heap := h', toks := tk }) :
    codeAny (model prog w) A (.call (.ref C) ⟨[v], []⟩) R s := by
  obtain ⟨nm, q, N, bs, bm, sn, sub, ab, col, dd, k0, k1, k2, k3, k5, hC, hbm⟩ := T.cls
  obtain ⟨hp, g, dr, tk, os⟩ := s
  have k : ∀ b o, hp.get? b = some o → ((hp.push (kdv_tup [v])).push (excO C hp.objs.size)).get? b = some o := fun b o e => Heap.get?_push_of_some _ (Heap.get?_push_of_some _ e)
  have hget : ((hp.push (kdv_tup [v])).push (excO C hp.objs.size)).get? (hp.objs.size + 1) = some (excO C hp.objs.size) := by heap_get
  have hnx : K.lookup (hp.objs.size + 1) = none := by
    cases e : K.lookup (hp.objs.size + 1) with
    | none => rfl
    | some o =>
      have z : hp.get? (hp.objs.size + 1) = some o := X _ _ e
      exact absurd (Nat.lt_of_succ_lt (Heap.lt_size z)) (Nat.lt_irrefl _)
  refine made mro hbm (X _ _ hC) (looks_findIn X T.iC) (fun self => bind_fn X self T.tC) (one_size v) ?_
  refine init (s := ⟨(hp.push (kdv_tup [v])).push (excO C hp.objs.size), g, dr, tk, os⟩) T (X.keeps k) (hlim.keeps k) hget hnx ?_ fun h' tk' dx ⟨k', hx, dn, dne, hns⟩ => ?_
  · show A.depth + 1 < recursionLimit
    exact hroom
  · have old : ∀ b o, hp.get? b = some o → h'.get? b = some o := fun b o e => k' b o (Nat.ne_of_lt (Nat.lt_succ_of_lt (Heap.lt_size e))) (k b o e)
    have z : hp.objs.size + 1 + 1 ≤ dx := by
      first
        | (simpa only [Heap.size_push] using dn)
        | exact dn
        | (have q := dn; rw [Heap.size_push, Heap.size_push] at q; exact q)
    exact ⟨rfl, hq h' tk' (hp.objs.size + 1) dx ⟨old, Nat.le_succ _, ⟨_, hx, rfl, rfl, ⟨_, rfl⟩⟩, Nat.le_trans (Nat.le_trans (Nat.le_succ _) (Nat.le_succ _)) z, dne, hns⟩⟩
end
end XO_TooMany
end PySem

namespace PySem
namespace XO_Refused
open PySem.W PySem.Calls PyProof.Rows PySem.HandSPX PySem.XO
def iA (p1 p2 : Pos) : Arguments := { posonlyargs := [], args := [{ arg := "self", annotation := none, pos := p1 }, { arg := "pledge", annotation := none, pos := p2 }], vararg := none, kwonlyargs := [], kw_defaults := [], kwarg := none, defaults := [] }
def iB (q1 q2 q3 q4 : Pos) : List Stmt := [.Assign [.Attribute (.Name "self" q1) "pledge" q2] (.Name "pledge" q3) q4]
def iS : Scope := { kind := .function, names := [(PySem.Str.ofString "self", .local), (PySem.Str.ofString "pledge", .local)], isGenerator := false, isCoroutine := false, more := [] }
/-- the base's names -/
abbrev bmB : List Value := [.type "ArithmeticError", .type "Exception", .type "BaseException", .type "object"]
theorem mro : Mro "ArithmeticError" "ArithmeticError.__new__" "ArithmeticError.__init__" [.type "ArithmeticError", .type "Exception", .type "BaseException", .type "object"] bmB := ⟨F.excBase_ArithmeticError, by decide +kernel, by decide +kernel, by decide +kernel, by decide +kernel, fun self => F.store_ArithmeticError.passes self⟩
/-- what the written part says of the class at C and of its __init__ at fI -/
structure Own (K : Frag) (mg : Str → Option Value) (C fI : Addr) : Prop where
  gC : mg "Refused" = some (.ref C)
  cls : ∃ nm q N bs bm sn sub ab col dd k0 k1 k2 k3 k5, K.lookup C = some (excClassObj nm q C N bs bm true sn sub ab col dd k0 k1 k2 k3 k5 "ArithmeticError.__new__") ∧ excTail bmB bm = true
  sa : findIn K (.ref C) "__setattr__" = some (some (.builtin "object.__setattr__"))
  ga : findIn K (.ref C) "__getattribute__" = some (some (.builtin "BaseException.__getattribute__"))
  gg : findIn K (.ref C) "__getattr__" = some none
  noN : findIn K (.ref C) "pledge" = some none
  iC : findIn K (.ref C) "__init__" = some (some (.ref fI))
  tC : typeIn K (.ref fI) = some (.type "function")
  kC : keepIn K (.ref C) = true
  exC : subIn K (.ref C) (.type "BaseException") = some true
  tyC : typeIn K (.ref C) = some (.type "type")
  hdC : hasDictIn K C = true
  fn : ∃ (oc : Value) (od : Option Addr) (doc pm : Value) (an : Option Addr) (cdv ct : Value) (osl : Array (Option Value)) (p1 p2 q1 q2 q3 q4 : Pos), K.lookup fI = some ⟨oc, od, .func (fnOf "__init__" "Refused.__init__" (iA p1 p2) (iB q1 q2 q3 q4) iS .none .none doc pm an cdv ct), osl⟩ ∧ codeIn K cdv "Refused.__init__" = true
section
variable {prog : Program} {w : World} {A : Around} {R : Result → Shared → Prop} {s : Shared} {K : Frag} {mg : Str → Option Value} {C fI : Addr}
theorem init (T : Own K mg C fI) {x t0 : Addr} {v : Value} (X : K.In s.heap) (hlim : s.heap.NoLimit) (hx : s.heap.get? x = some (excO C t0)) (hnx : K.lookup x = none) (hroom : A.depth < recursionLimit)
    (hq : ∀ h' tk dx, InitEnd "pledge" s.heap h' x C dx t0 v → R (.ok (.ret .none)) { s with heap := h', toks := tk }) : codeAny (model prog w) A (.call (.ref fI) ⟨[.ref x, v], []⟩) R s := by
  obtain ⟨oc, od, doc, pm, an, cdv, ct, osl, p1, p2, q1, q2, q3, q4, ho, hcd⟩ := T.fn
  obtain ⟨nm, q, N, bs, bm, sn, sub, ab, col, dd, k0, k1, k2, k3, k5, hC, hbm⟩ := T.cls
  have hcl : clsIn K C = some { name := nm, bases := bs, mro := .ref C :: bm, ns := N, qualname := q, hasDict := true, slotNames := sn, subclasses := sub, abstract := ab, collection := col, hasDel := false } := by unfold clsIn; rw [hC] <;> rfl
  have tl : excTail bmB (.ref C :: bm) = true := hbm
  refine Att.call_fn (binds := [("self", .ref x), ("pledge", v)]) X hlim ho hcd hroom (BindsTo.of_eq (by first | rfl | with_unfolding_all rfl)) (by first | rfl | decide | with_unfolding_all rfl) (fun s₁ IC => ?_) rfl rfl rfl
  obtain ⟨h₁, tk₁, rfl⟩ := IC.toInCall.same
  have k : ∀ b o, s.heap.get? b = some o → h₁.get? b = some o := IC.toInCall.keep
  have hn := IC.toInCall.ns
  have hxL : s.heap.objs.size ≠ x := Nat.ne_of_gt (Heap.lt_size hx)
  have X₁ : K.In h₁ := X.keeps k
  have hx₁ := k _ _ hx
  show wpAny _ _ (execs _ _) _ _ _
  refine wpAny_execs_cons (plainObj_wpAny_Assign_Attribute ?_)
  refine ldC (v := v) hn (by first | rfl | with_unfolding_all rfl | kernel_rfl) (ldC (v := .ref x) hn (by first | rfl | with_unfolding_all rfl | kernel_rfl) ?_)
  refine set_plain X₁ (ox := excO C t0) (od := none) ⟨hx₁, rfl, rfl, trivial⟩ T.sa ?_
  refine osa X₁ hx₁ hcl rfl ((excTail_contains "object" _ tl).trans mro.hasO) (fun self => excTail_pass self (mro.pass self) _ tl) rfl T.noN (fun h₃ tk₃ dx k₃ dn dne hx₃ hn₃ => ?_)
  show wpAny _ _ (execs _ _) _ _ _
  have z : s.heap.objs.size < h₁.objs.size := hn.lt
  exact wpAny_execs_nil (hq h₃ tk₃ dx ⟨fun b o hb e => k₃ b o hb (k b o e), hx₃, Nat.le_of_lt (Nat.lt_of_lt_of_le z dn), dne, hn₃⟩)
theorem make (T : Own K mg C fI) {v : Value} (X : K.In s.heap) (hlim : s.heap.NoLimit) (hroom : A.depth + 1 < recursionLimit) (hq : ∀ h' tk e d, OwnMade "pledge" s.heap h' e C d v → R (.ok (.ret (.ref e))) { s with heap := h', toks := tk }) :
    codeAny (model prog w) A (.call (.ref C) ⟨[v], []⟩) R s := by
  obtain ⟨nm, q, N, bs, bm, sn, sub, ab, col, dd, k0, k1, k2, k3, k5, hC, hbm⟩ := T.cls
  obtain ⟨hp, g, dr, tk, os⟩ := s
  have k : ∀ b o, hp.get? b = some o → ((hp.push (kdv_tup [v])).push (excO C hp.objs.size)).get? b = some o := fun b o e => Heap.get?_push_of_some _ (Heap.get?_push_of_some _ e)
  have hget : ((hp.push (kdv_tup [v])).push (excO C hp.objs.size)).get? (hp.objs.size + 1) = some (excO C hp.objs.size) := by heap_get
  have hnx : K.lookup (hp.objs.size + 1) = none := by
    cases e : K.lookup (hp.objs.size + 1) with
    | none => rfl
    | some o =>
      have z : hp.get? (hp.objs.size + 1) = some o := X _ _ e
      exact absurd (Nat.lt_of_succ_lt (Heap.lt_size z)) (Nat.lt_irrefl _)
  refine made mro hbm (X _ _ hC) (looks_findIn X T.iC) (fun self => bind_fn X self T.tC) (one_size v) ?_
  refine init (s := ⟨(hp.push (kdv_tup [v])).push (excO C hp.objs.size), g, dr, tk, os⟩) T (X.keeps k) (hlim.keeps k) hget hnx ?_ fun h' tk' dx ⟨k', hx, dn, dne, hns⟩ => ?_
  · show A.depth + 1 < recursionLimit
    exact hroom
  · have old : ∀ b o, hp.get? b = some o → h'.get? b = some o := fun b o e => k' b o (Nat.ne_of_lt (Nat.lt_succ_of_lt (Heap.lt_size e))) (k b o e)
    have z : hp.objs.size + 1 + 1 ≤ dx := by
      first
        | (simpa only [Heap.size_push] using dn)
        | exact dn
        | (have q := dn; rw [Heap.size_push, Heap.size_push] at q; exact q)
    exact ⟨rfl, hq h' tk' (hp.objs.size + 1) dx ⟨old, Nat.le_succ _, ⟨_, hx, rfl, rfl, ⟨_, rfl⟩⟩, Nat.le_trans (Nat.le_trans (Nat.le_succ _) (Nat.le_succ _)) z, dne, hns⟩⟩
end
end XO_Refused
end PySem

/-! Defs whose callers show no container: what a def does where the list of what is being shown is empty. -/
namespace GD
open PySem PySem.Spec PyProof.Rows L2
structure FnG (P : Program) (w : World) (K : PySem.W.Frag) (mg : Str → Option Value) (base : Heap) (k : Nat) (f : Addr) (fd : FuncData) (ps : List Str) (sp : Sp) : Prop where
  len : ∀ vs H Q E, sp vs H Q E → vs.length = ps.length
  run : ∀ A outer s H args us vs Q E, Room k A → A.guards = some [] → Env0 P w K mg base A outer s H → BindsTo s fd args (ps.zip us) → Vals vs us → sp vs H Q E →
    codeAny (model P w) A (.call (.ref f) args) (CR CX0 outer P w H s Q E) s
theorem FnG.of {P : Program} {w : World} {K : PySem.W.Frag} {mg : Str → Option Value} {base : Heap} {k : Nat} {f : Addr} {fd : FuncData} {ps : List Str} {sp : Sp} (F : FnOk P w K mg base CX0 k f fd ps sp) : FnG P w K mg base k f fd ps sp :=
  ⟨F.len, fun A o s H ar us vs Q E hr _ e b r h => F.run A o s H ar us vs Q E hr e b r h⟩
/-- a def of a walked body -/
theorem ok {P : Program} {w : World} {K : PySem.W.Frag} {mg : Str → Option Value} {base : Heap} {x qual : Str} {st : Stmt} {f : Addr} {fd : FuncData} {N ps : List Str} {k : Nat} {sp : Sp} (F : Fun K x qual st f fd) (S : FnScope N ps (defScope st))
    (len : ∀ vs H Q E, sp vs H Q E → vs.length = ps.length)
    (body : ∀ (cdv : Value) (A : Around) (outer : List Env) (s : Shared) (H : Hp) (vs : List V) (Q : VK) (E : XK), Room k (A.deeper (envOfC qual (defScope st) s.heap.objs.size f cdv)) → A.guards = some [] → sp vs H Q E →
      ∃ t, PSs (cxOf CX0 P w K mg base N qual (defScope st) f cdv A outer s H E).nox (defBody st) t ∧ t ⟨fun _ H' => Q .non H', Q, fun _ _ => False, fun _ _ => False⟩ (L2.start N vs) H) :
    FnG P w K mg base (k + 1) f fd ps sp := by
  obtain ⟨oc, od, kV, doc, pm, an, cdv, ct, osl, rfl, lk, hcd⟩ := F.ex
  refine ⟨len, fun A outer s H args us vs Q E hr hg e0 hb r hsp => ?_⟩
  have hl := len vs H Q E hsp
  have KX := PySem.W.Frag.In.keeps e0.mod.kin fun b o e => (e0.bs b o e).1
  have lim := Heap.NoLimit.keeps e0.mod.nolimit fun b o e => (e0.bs b o e).1
  refine codeAny_call_function (Room.depth hr) (KX f _ lk) rfl S.co S.gen rfl (PySem.W.codeRec_of KX hcd) (hb _ _ _ _ ?_)
  refine wpAny_newFunctionEnv_cells S.kind ?_ ?_
  · rintro ⟨n, v⟩ hy
    rcases S.par n (List.of_mem_zip hy).1 with q | q
    · exact .inl q
    · exact .inr ⟨q, PySem.W.cellsFrom_some _ _ _ (.inl q)⟩
  · intro env he s1 x
    subst he
    refine ⟨lim.keeps x.toInCall.keep, codeAny_func ?_⟩
    obtain ⟨t, ht, hq⟩ := body cdv A outer s H vs Q E (Room.deeper hr _) hg hsp
    have I := inv_start (CX := CX0) (E := E) S hr.hd e0 hl r x
    refine wpAny_mono ((PSs.nox ht).run [] s1 (L2.start N vs) H _ I hq) ?_ fun e s' hs => hs
    intro fl s' hs
    cases fl with
    | next =>
      obtain ⟨σ', H', J, q⟩ := hs
      exact ⟨.non, H', J.os, J.bare, J.base, J.hok, rfl, q⟩
    | brk =>
      obtain ⟨_, _, _, q⟩ := hs
      exact q.elim
    | cont =>
      obtain ⟨_, _, _, q⟩ := hs
      exact q.elim
    | ret u =>
      obtain ⟨v, σ', H', J, rv, q⟩ := hs
      exact ⟨v, H', J.os, J.bare, J.base, J.hok, rv, q⟩
/-- what a call of such a def does -/
theorem run_g {X : Cx} {k : Nat} {f : Addr} {fd : FuncData} {ps : List Str} {sp : Sp} {E : XK} {pins : List (Addr × Obj)} {σ : L2.St} {H : Hp} {s : Shared} {Q : VK} {us : List Value} {vs : List V} (F : FnG X.prog X.w X.K X.mg X.base k f fd ps sp)
    (hr : Room k X.A) (hg : X.A.guards = some []) (hb : L2.Binds X.K fd ps []) (I : L2.Inv X pins σ H s) (r : Vals vs us) (h : sp vs H Q E) :
    wpAny (model X.prog X.w) X.A (call (.ref f) us) (EP X pins σ Q) X.xe s := by
  have hl : us.length = ps.length := by
    rw [← Vals.length r]
    exact F.len vs H Q E h
  have hl' : us.length + ([] : List Value).length = ps.length := by simpa using hl
  have b := hb s us (Inv.kIn I) (by simpa using hl)
  rw [List.append_nil] at b
  refine wpAny_call (codeAny_mono (F.run X.A X.stack s H ⟨us, []⟩ us vs Q E hr hg (Inv.env0 I) b r h) ?_)
  intro r s' hq
  match r, hq with
  | .error e, hq => exact hq.elim
  | .ok .next, hq => exact hq.elim
  | .ok .brk, hq => exact hq.elim
  | .ok .cont, hq => exact hq.elim
  | .ok (.ret u), hq => exact Inv.after I hq
/-- a call by name -/
theorem pe_callG {X : Cx} {k : Nat} {f : Addr} {fd : FuncData} {ps : List Str} {sp : Sp} {x : Str} {p pos : Pos} {e : Expr} {es : List Expr} {t : TA} (F : FnG X.prog X.w X.K X.mg X.base k f fd ps sp) (hr : Room k X.A) (hgd : X.A.guards = some [])
    (hg : Gl X x) (hm : X.mg x = some (.ref f)) (hk : PySem.W.keepIn X.K (.ref f) = true) (hb : L2.Binds X.K fd ps []) (ha : PA X (e :: es) t)
    (hdb : (x == ("__debug__" : Str)) = false := by decide) (he : starEach (e :: es) X.env = (false, eval e X.env) :: starEach es X.env := by rfl) (hpl : (backTo pos (starEach es X.env)).any (·.1) = false := by rfl) :
    PE X (.Call (.Name x p) (e :: es) [] pos) (tCall sp [] E0 t) :=
  ⟨fun pins s σ H Q I h => wpAny_Call_Name_kw (ld_glob I hg hm (PySem.W.callWith_K I.ok.mod.kin hk
    (thn (ha.run pos pins s σ H (fun vs H1 => sp (vs ++ []) H1 Q E0) I h) fun us s1 ⟨vs, H1, I1, r, q⟩ => ⟨Inv.kIn I1, run_g F hr hgd hb I1 r (by simpa using q)⟩) he hpl) hdb)⟩
/-- the law's own call -/
theorem law_callG {P : Program} {w : World} {K : PySem.W.Frag} {mg mb : Str → Option Value} {k : Nat} {fa a : Addr} {fd : FuncData} {x : Str} {sp : Sp} {s₁ : Shared} {vs : List Value} {ns : List Int}
    (KX : K.In s₁.heap) (hns : s₁.heap.Ns mainGlobals mg) (hb : s₁.heap.Ns builtinsNs mb) (hbb : ∀ x : Str, x ≠ "__name__" → mb x = bootBuiltins x) (hlim : s₁.heap.NoLimit) (hg : s₁.gens = #[])
    (ha : s₁.heap.get? a = some ⟨.type "list", none, .seq vs.toArray 0, #[]⟩) (hi : IntsAre vs ns) (hl : ns.length ≤ sizeLine) (hr : Room k callerA)
    (F : ∀ base : Heap, K.In base → base.Ns mainGlobals mg → FnG P w K mg base k fa fd [x] sp) (hbind : ∀ (s : Shared) (u : Value), BindsTo s fd ⟨[u], []⟩ [(x, u)])
    (hsp : ∀ H, Only H → SqL K H a (ns.map V.int) → sp [.ref a] H (fun v _ => v = .bl true) fun _ _ _ => False) :
    codeAny (model P w) callerA (.call (.ref fa) ⟨[.ref a], []⟩) (fun r s' => r = .ok (.ret (.bool true)) ∧ OldK s₁.heap s'.heap ∧ s'.os = s₁.os ∧ AllBare s'.gens) s₁ := by
  have rv := vals_ints hi
  have lenV := IntsAre.length hi
  have core : ∀ H : Hp, Only H → SqL K H a (ns.map V.int) → HOk P w H s₁.heap → (∀ b, H b ≠ none → b = a) → (H a ≠ none → K.lookup a = none) →
      codeAny (model P w) callerA (.call (.ref fa) ⟨[.ref a], []⟩) (fun r s' => r = .ok (.ret (.bool true)) ∧ OldK s₁.heap s'.heap ∧ s'.os = s₁.os ∧ AllBare s'.gens) s₁ := by
    intro H hO hS hok hA hK
    have noA : ∀ {b : Addr} {o : Obj} {es ep}, s₁.heap.get? b = some o → o.data = .dict es ep → H b = none := by
      intro b o es ep e d
      cases q : H b with
      | none => rfl
      | some u =>
        have e' := hA b (by rw [q]; exact fun z => nomatch z)
        subst e'
        rw [ha] at e
        cases e
        cases d
    have nsK : ∀ {b : Addr} {m : Str → Option Value}, s₁.heap.Ns b m → (hidT s₁.heap H).Ns b m := fun ⟨o, es, ep, e, d, r⟩ => ⟨o, es, ep, hidT_get e (noA e d), d, r⟩
    have hKb : K.In (hidT s₁.heap H) := fun b o e => by
      refine hidT_get (KX b o e) ?_
      cases q : H b with
      | none => rfl
      | some u =>
        have n : H b ≠ none := by rw [q]; exact fun z => nomatch z
        have e' := hA b n
        subst e'
        rw [hK n] at e
        cases e
    have hM : L2.Mod K mg (hidT s₁.heap H) := ⟨hKb, nsK hns, ⟨mb, nsK hb, hbb⟩, by obtain ⟨mc, h1, h2⟩ := hlim; exact ⟨mc, nsK h1, h2⟩⟩
    have e0 : Env0 P w K mg (hidT s₁.heap H) callerA [] s₁ H :=
      ⟨rfl, hM, fun b o e => of_hidT e, Nat.le_of_eq (hidT_size s₁.heap H), trivial, fun b hb => (nomatch hb), hok, AllBare.of_eq hg⟩
    refine codeAny_mono ((F _ hKb (nsK hns)).run callerA [] s₁ H ⟨[.ref a], []⟩ [.ref a] [.ref a] (fun v _ => v = .bl true) (fun _ _ _ => False) hr rfl e0 (hbind s₁ (.ref a)) (.cons rfl .nil) (hsp H hO hS)) ?_
    intro r s' h
    match r, h with
    | .error e, h => exact h.elim
    | .ok .next, h => exact h.elim
    | .ok .brk, h => exact h.elim
    | .ok .cont, h => exact h.elim
    | .ok (.ret u), h =>
      obtain ⟨v, H', os, bare, un, hok', r', q⟩ := h
      subst q
      have r2 : u = .bool true := r'
      subst r2
      refine ⟨rfl, OldK.of_keep fun b o e => ?_, os, bare⟩
      rcases hO b with z | ⟨ob, xs, z⟩
      · exact un.keep b o e z (fun n => nomatch n) (fun n => nomatch n)
      · have z2 := un.frzs b ob _ z
        have e1 := (hok b _ z).1
        have e2 := (hok' b _ z2).1
        rw [e] at e1
        cases e1
        exact e2
  cases hk : K.lookup a with
  | none =>
    refine core (fun b => if b = a then some (.frz ⟨.type "list", none, .seq vs.toArray 0, #[]⟩ (.lst (ns.map V.int))) else none) (fun b => ?_) (.inl (.inr ⟨_, if_pos rfl⟩)) (fun b u z => ?_) (fun b z => ?_) fun _ => hk
    · by_cases hb : b = a
      · exact .inr ⟨_, _, if_pos hb⟩
      · exact .inl (if_neg hb)
    · by_cases hb : b = a
      · have z' := z
        simp only at z'
        rw [if_pos hb] at z'
        cases z'
        subst hb
        exact ⟨ha, by rw [List.length_map]; exact hl, vs, 0, rv, ha⟩
      · have z' := z
        simp only at z'
        rw [if_neg hb] at z'
        cases z'
    · by_cases hb : b = a
      · exact hb
      · exact absurd (if_neg hb) z
  | some o =>
    have e := KX a o hk
    rw [ha] at e
    cases e
    exact core (fun _ => none) (fun _ => .inl rfl) (.inr ⟨_, vs.toArray, 0, hk, rfl, rfl, rfl, by rw [List.size_toArray, lenV]; exact hl, rv⟩) (fun b u z => nomatch z) (fun b z => absurd rfl z) fun z => absurd rfl z
theorem walk_ofG {l : PySem.W.OpenLaw} {n k : Nat} {q : Program} {loose : List Str} {XP : (Str → Option Value) → Heap → Prop} {YP : World → Heap → Prop} {d : DefRec} {K : Params → PySem.W.Frag} {sp : World → Sp} {x : Str}
    (hn : l.most = some n) (hn2 : n ≤ sizeLine) (hdf : d.params.defaults = []) (hr : Room k callerA) (hY : ∀ (w : World) (h : Heap), YP w h → (K w.params).In h)
    (F : ∀ (w : World) (mg : Str → Option Value) (fa : Addr) (h : Heap), (K w.params).In h → h.Ns mainGlobals mg → mg d.name = some (.ref fa) →
      ∃ fd : FuncData, (∀ (s : Shared) (u : Value), BindsTo s fd ⟨[u], []⟩ [(x, u)]) ∧ ∀ base : Heap, (K w.params).In base → base.Ns mainGlobals mg → FnG l.prog w (K w.params) mg base k fa fd [x] (sp w))
    (hsp : ∀ (w : World) (H : Hp) (a : Addr) (ns : List Int), ns.length ≤ n → Only H → SqL (K w.params) H a (ns.map V.int) → sp w [.ref a] H (fun v _ => v = .bl true) fun _ _ _ => False) :
    PySem.W.WalkO q loose XP YP l.row.toRowW d [] fun f vs => PySem.call f vs :=
  Att.attach_call hn hdf fun w s₀ s₁ mg mb fa o pm cd doc a vs ns G Y ho hd hcd hmg hobj hints hlen hg => by
    have KX := hY w s₁.heap Y
    obtain ⟨fd, hb, hF⟩ := F w mg fa s₁.heap KX G.T.g hmg
    exact law_callG KX G.T.g G.T.b G.T.builtins G.T.nolimit hg hobj hints (Nat.le_trans hlen hn2) hr hF hb fun H hO hS => hsp w H a ns hlen hO hS
end GD

/-! repr of any tracked value of tuples, lists, dicts by numbers or texts, where nothing is being shown. -/
namespace GD
open PySem PySem.Spec PyProof.Rows L2
def kD : L2.Key → PyData
  | .inl i => .int i
  | .inr x => .str x
mutual
inductive Dat (K : PySem.W.Frag) (H : Hp) : V → PyData → List Addr → Prop
  | non : Dat K H .non .none []
  | bl (b : Bool) : Dat K H (.bl b) (.bool b) []
  | int (i : Int) : Dat K H (.int i) (.int i) []
  | str (x : Str) : Dat K H (.str x) (.str x) []
  | tup {a : Addr} {xs : List V} {ds : List PyData} {as : List Addr} : SqT K H a xs → DatA K H xs ds as → Dat K H (.ref a) (.tuple ds) as
  | lst {a : Addr} {xs : List V} {ds : List PyData} {as : List Addr} : SqL K H a xs → DatA K H xs ds as → Dat K H (.ref a) (.list ds) (a :: as)
  | dct {a : Addr} {kvs : List (L2.Key × V)} {ds : List PyData} {as : List Addr} : H a = some (.dK kvs) → DatA K H (kvs.map (·.2)) ds as → Dat K H (.ref a) (.dict ((kvs.map fun kv => kD kv.1).zip ds)) (a :: as)
inductive DatA (K : PySem.W.Frag) (H : Hp) : List V → List PyData → List Addr → Prop
  | nil : DatA K H [] [] []
  | cons {v : V} {vs : List V} {d : PyData} {ds : List PyData} {as bs : List Addr} : Dat K H v d as → DatA K H vs ds bs → DatA K H (v :: vs) (d :: ds) (as ++ bs)
end
theorem DatA.len {K H} : ∀ {vs ds as}, DatA K H vs ds as → vs.length = ds.length
  | _, _, _, .nil => rfl
  | _, _, _, .cons _ h => by rw [List.length_cons, List.length_cons, h.len]
theorem keys_read {h : Heap} {prog w} : ∀ {es : List DictEntry} {kvs : List (L2.Key × Value)}, Pairs (mixKind prog w) es kvs → ReadsAll h (es.map (·.key)) (kvs.map fun kv => kD kv.1) [] ∧ es.map (·.val) = kvs.map (·.2)
  | _, _, .nil => ⟨.nil, rfl⟩
  | _, _, .cons (e := e) (kv := kv) k v r => by
    obtain ⟨r1, r2⟩ := keys_read (h := h) r
    refine ⟨?_, by rw [List.map_cons, List.map_cons, r2, v]⟩
    refine ReadsAll.cons (as := []) (bs := []) ?_ r1
    obtain ⟨x, y⟩ := kv
    cases x with
    | inl i =>
      have k' : e.key.isInt i = true := k
      unfold Value.isInt at k'
      split at k'
      · rename_i t e2
        show Reads h e.key _ _
        rw [e2]
        have e3 := eq_of_beq k'
        subst e3
        exact .int _ _
      · cases k'
    | inr x =>
      have k' : e.key.isStrOf x = true := k
      unfold Value.isStrOf at k'
      split at k'
      · rename_i t e2
        show Reads h e.key _ _
        rw [e2]
        have e3 := eq_of_beq k'
        subst e3
        exact .str _ _
      · cases k'
theorem kv_fst {kvs : List (L2.Key × V)} {ws : List (L2.Key × Value)} (h : KV kvs ws) : ws.map (fun kv => kD kv.1) = kvs.map (fun kv => kD kv.1) ∧ Vals (kvs.map (·.2)) (ws.map (·.2)) := by
  induction h with
  | nil => exact ⟨rfl, .nil⟩
  | cons a b ih => exact ⟨by rw [List.map_cons, List.map_cons, ih.1, a.1], .cons a.2 ih.2⟩
mutual
theorem Dat.reads {X : Cx} {pins : List (Addr × Obj)} {σ : L2.St} {H : Hp} {s : Shared} (I : L2.Inv X pins σ H s) : ∀ {v d as u}, Dat X.K H v d as → RelV v u → Reads s.heap u d as
  | _, _, _, _, .non, r => by cases r; exact .none
  | _, _, _, _, .bl b, r => by cases r; exact .bool b
  | _, _, _, _, .int i, r => by obtain ⟨t, rfl⟩ := r; exact .int i t
  | _, _, _, _, .str x, r => by obtain ⟨t, rfl⟩ := r; exact .str x t
  | _, _, _, _, .tup h hs, r => by
    cases r
    obtain ⟨its, r1, ⟨o, e, c, n, dd⟩, _⟩ := I.tuple h
    exact .tuple e c dd (DatA.reads I hs r1)
  | _, _, _, _, .lst h hs, r => by
    cases r
    obtain ⟨its, r1, ⟨o, n, e, c, _, dd⟩, _⟩ := I.list h
    exact .list e c dd (DatA.reads I hs r1)
  | _, _, _, _, .dct (kvs := kvs) (ds := ds) h hs, r => by
    cases r
    obtain ⟨_, _, ws, hw, o, es, ep, e, ex, dd, _, hp, _⟩ := I.hok _ _ h
    obtain ⟨k1, k2⟩ := keys_read (h := s.heap) hp
    obtain ⟨f1, f2⟩ := kv_fst hw
    have hl := hs.len
    have z1 : ((kvs.map fun kv => kD kv.1).zip ds).map (·.1) = kvs.map fun kv => kD kv.1 := List.map_fst_zip (by rw [List.length_map] at *; omega)
    have z2 : ((kvs.map fun kv => kD kv.1).zip ds).map (·.2) = ds := List.map_snd_zip (by rw [List.length_map] at *; omega)
    refine Reads.dict (as := []) e ex.1 dd ?_ ?_
    · rw [z1, ← f1]
      exact k1
    · rw [z2, k2]
      exact DatA.reads I hs f2
theorem DatA.reads {X : Cx} {pins : List (Addr × Obj)} {σ : L2.St} {H : Hp} {s : Shared} (I : L2.Inv X pins σ H s) : ∀ {vs ds as us}, DatA X.K H vs ds as → Vals vs us → ReadsAll s.heap us ds as
  | _, _, _, _, .nil, r => by cases r; exact .nil
  | _, _, _, _, .cons h hs, r => by
    cases r with
    | cons r1 r2 => exact .cons (Dat.reads I h r1) (DatA.reads I hs r2)
end
theorem Rd_same {H H' : Hp} (S : ∀ b o, H b = some o → H' b = some o) {a o} (h : Rd H a o) : Rd H' a o := by
  rcases h with h | ⟨u, h⟩
  · exact .inl (S _ _ h)
  · exact .inr ⟨u, S _ _ h⟩
theorem SqT_same {K} {H H' : Hp} (S : ∀ b o, H b = some o → H' b = some o) {a xs} (h : SqT K H a xs) : SqT K H' a xs := h.imp (Rd_same S) id
theorem SqL_same {K} {H H' : Hp} (S : ∀ b o, H b = some o → H' b = some o) {a xs} (h : SqL K H a xs) : SqL K H' a xs := h.imp (Rd_same S) id
mutual
theorem Dat.same {K : PySem.W.Frag} {H H' : Hp} (S : ∀ b o, H b = some o → H' b = some o) : ∀ {v d as}, Dat K H v d as → Dat K H' v d as
  | _, _, _, .non => .non
  | _, _, _, .bl b => .bl b
  | _, _, _, .int b => .int b
  | _, _, _, .str b => .str b
  | _, _, _, .tup h hs => .tup (SqT_same S h) (DatA.same S hs)
  | _, _, _, .lst h hs => .lst (SqL_same S h) (DatA.same S hs)
  | _, _, _, .dct h hs => .dct (S _ _ h) (DatA.same S hs)
theorem DatA.same {K : PySem.W.Frag} {H H' : Hp} (S : ∀ b o, H b = some o → H' b = some o) : ∀ {v d as}, DatA K H v d as → DatA K H' v d as
  | _, _, _, .nil => .nil
  | _, _, _, .cons h hs => .cons (Dat.same S h) (DatA.same S hs)
end
/-- what repr gives for a value -/
structure Shw (K : PySem.W.Frag) (H : Hp) (v : V) (z : Str) : Prop where
  ex : ∃ d as, Dat K H v d as ∧ d.showable = true ∧ (d.hasDict = true → ∀ b ∈ as, ∃ kvs, H b = some (.dK kvs)) ∧ d.shown = z ∧ d.depth ≤ 90
  sz : z.length ≤ 2000
theorem Shw.same {K : PySem.W.Frag} {H H' : Hp} (S : ∀ b o, H b = some o → H' b = some o) {v z} (h : Shw K H v z) : Shw K H' v z := by
  obtain ⟨⟨d, as, a, b, c, e, f⟩, z⟩ := h
  exact ⟨⟨d, as, a.same S, b, fun q x m => by obtain ⟨k, e⟩ := c q x m; exact ⟨k, S _ _ e⟩, e, f⟩, z⟩
def rRp (K : PySem.W.Frag) : List V → Hp → VK → Prop := fun xs H Q => ∃ v z, xs = [v] ∧ Shw K H v z ∧ Q (.str z) H
theorem call_repr {X : Cx} (hu : X.A.units + 100 < cLine) (hg : X.A.guards = some []) : CallR X (.builtin "repr") (rRp X.K) := by
  intro pins s σ H xs us Q I r h
  obtain ⟨v, z, rfl, ⟨⟨d, as, hd, h1, h2, rfl, h4⟩, h5⟩, q⟩ := h
  cases r with
  | cons r1 r2 =>
  cases r2
  have hb : d.shown.length ≤ sizeLine := Nat.le_trans h5 (by decide)
  have key : ∀ t tk, EP X pins σ Q (.str d.shown t) ⟨s.heap, s.gens, s.drawn, tk, s.os⟩ := fun t tk => ⟨.str d.shown, H, I.tok _, ⟨t, rfl⟩, q⟩
  have big : ∀ a, v = .ref a → wpAny (model X.prog X.w) X.A (call (.builtin "repr") [.ref a]) (EP X pins σ Q) X.xe s := by
    intro a e
    subst e
    have R := hd.reads I (u := .ref a) rfl
    refine repr_of_reads' (h₀ := s.heap) R h1 ?_ hg ?_ (fun _ _ e => e) ?_ hb
    · intro e m
      obtain ⟨kvs, e2⟩ := h2 e _ m
      have := (I.hok _ _ e2).2.1
      simp at this
    · omega
    · intro h' u tk hk
      exact ⟨.str d.shown, H, I.kept hk, ⟨u, rfl⟩, q⟩
  cases hd with
  | non =>
    cases r1
    exact P.repr_of_none (key _ _)
  | bl b =>
    cases r1
    cases b <;> exact P.repr_of_bool (key _ _)
  | int i =>
    obtain ⟨t, rfl⟩ := r1
    exact P.repr_of_int (of_decide_eq_true h1) (key _ _)
  | str x =>
    obtain ⟨t, rfl⟩ := r1
    exact P.repr_of_str (key _ _) hb
  | tup _ _ => cases r1; exact big _ rfl
  | lst _ _ => cases r1; exact big _ rfl
  | dct _ _ => cases r1; exact big _ rfl
end GD

/-! ## Own exceptions with a field: raised, and the field read in the suite that caught it -/
namespace XV
open PySem PySem.Spec PyProof.Rows L2
/-- what a class of such exceptions gives: cn its name, fn its field -/
structure MakeOk (K : PySem.W.Frag) (mg : Str → Option Value) (cn fn : Str) (C : Addr) : Prop where
  gC : mg cn = some (.ref C)
  kC : PySem.W.keepIn K (.ref C) = true
  exC : PySem.W.subIn K (.ref C) (.type "BaseException") = some true
  tyC : PySem.W.typeIn K (.ref C) = some (.type "type")
  hdC : PySem.W.hasDictIn K C = true
  ga : PySem.W.findIn K (.ref C) "__getattribute__" = some (some (.builtin "BaseException.__getattribute__"))
  gg : PySem.W.findIn K (.ref C) "__getattr__" = some none
  noN : PySem.W.findIn K (.ref C) fn = some none
  made : ∀ {prog : Program} {w : World} {A : Around} {R : Result → Shared → Prop} {s : Shared} {v : Value}, K.In s.heap → s.heap.NoLimit → A.depth + 1 < recursionLimit → (∀ h' tk e d, PySem.XO.OwnMade fn s.heap h' e C d v → R (.ok (.ret (.ref e))) { s with heap := h', toks := tk }) → codeAny (model prog w) A (.call (.ref C) ⟨[v], []⟩) R s
/-- an own class, as an except clause names it -/
theorem exm_self {K : PySem.W.Frag} {S C : Addr} {b : Bool} (h1 : PySem.W.subIn K (.ref S) (.type "BaseException") = some true) (h2 : PySem.W.hasDictIn K S = true) (h3 : PySem.W.typeIn K (.ref S) = some (.type "type")) (h4 : PySem.W.subIn K (.ref C) (.ref S) = some b) : PySem.W.exmOne K (.ref C) (.ref S) = some b := by
  obtain ⟨cd, hc, _⟩ := PySem.W.any_some h2
  have e1 : (PySem.W.subIn K (.ref S) (.type "BaseException") == some true) = true := by rw [h1]; rfl
  have e2 : ((PySem.W.clsIn K S).isSome && PySem.W.typeIn K (.ref S) == some (.type "type")) = true := by rw [hc, h3]; rfl
  show (if (PySem.W.subIn K (.ref S) (.type "BaseException") == some true) = true then (if ((PySem.W.clsIn K S).isSome && PySem.W.typeIn K (.ref S) == some (.type "type")) = true then PySem.W.subIn K (.ref C) (.ref S) else none) else none) = some b
  rw [if_pos e1, if_pos e2]; exact h4
theorem relO_fld {v : V} {v' : Value} (r : RelV v v') (fn f : Str) : RelO (List.lookup f [(fn, v)]) (if f = fn then some v' else none) := by
  by_cases hw : f = fn
  · subst hw
    rw [if_pos rfl, show List.lookup f [(f, v)] = some v by simp [List.lookup]]
    exact r
  · rw [if_neg hw, show List.lookup f [(fn, v)] = none by simp [List.lookup, show (f == fn) = false by simpa using hw]]
    trivial
section
variable {X : Cx} {C : Addr} {cn fn : Str}
/-- C(e) -/
def tMkX (C : Addr) (fn : Str) (ta : TA) : L2.St → Hp → XK → Prop := fun σ H Q => ta σ H fun vs H1 => ∃ v, vs = [v] ∧ ∀ d, H1 d = none → Q (.ref C) (some d) (upd H1 d (.xd [(fn, v)]))
theorem pmk_x {a : Expr} {ta : TA} {p pos : Pos} {k : Nat} (T : MakeOk X.K X.mg cn fn C) (hr : Room k X.A) (ha : PA X [a] ta) (hg : Gl X cn := by rfl) (hdb : (cn == ("__debug__" : Str)) = false := by decide)
    (he : starEach (a :: []) X.env = (false, eval a X.env) :: starEach [] X.env := by rfl) (hpl : (backTo pos (starEach [] X.env)).any (·.1) = false := by rfl) : PMk X (.Call (.Name cn p) [a] [] pos) (tMkX C fn ta) := by
  intro pins s σ H Q I h
  refine wpAny_Call_Name_kw (ld_glob I hg T.gC (PySem.W.callWith_K (h₀ := X.base) I.ok.mod.kin T.kC (thn (ha.run pos pins s σ H _ I h) fun us s1 hh => ?_) he hpl) hdb)
  obtain ⟨vs, H1, I1, r1, v, ev, q1⟩ := hh
  subst ev
  refine ⟨I1.kIn, ?_⟩
  cases r1 with
  | cons rv rn =>
    rename_i v' us'
    cases rn
    show wpAny _ _ (call (.ref C) [v']) _ _ _
    have hlim := I1.nolimit
    obtain ⟨hp, g, dr, tk, os⟩ := s1
    refine wpAny_call (T.made I1.kIn hlim (by have := hr.dp; omega) fun h' tk' e d M => ?_)
    show MkP X pins σ Q (.ref e) ⟨h', g, dr, tk', os⟩
    obtain ⟨oe, hoe, hc, hd, t1, hdat⟩ := M.obj
    obtain ⟨G', g1, g2⟩ := restrict h' fun b => decide (b ≠ e)
    have gk : ∀ b, b ≠ e → G'.get? b = h'.get? b := fun b hb => g1 b (decide_eq_true hb)
    have ge : G'.get? e = none := g2 e (by simp)
    have old : ∀ b o, hp.get? b = some o → G'.get? b = some o := fun b o q => (gk b (Nat.ne_of_lt (Nat.lt_of_lt_of_le (Heap.lt_size q) M.new))).trans (M.keep b o q)
    have ob : ObjOk X.prog X.w (upd H1 d (.xd [(fn, v)])) G' d (.xd [(fn, v)]) := ⟨_, M.ns.at (fun o q => (gk d M.dne).trans q), fun f => relO_fld rv fn f⟩
    have J : Inv X pins σ (upd H1 d (.xd [(fn, v)])) ⟨G', g, dr, tk', os⟩ := I1.laid (t' := tk') old M.dbig ob
    refine ⟨e, oe, _, ⟨G', g, dr, tk', os⟩, _, .ref C, some d, rfl, J, fun b o q => ?_, ge, hoe, ⟨hc, hd⟩, hdat, rfl, ?_, rfl, I1.bare, raises_own T.exC T.tyC, q1 d (I1.hok.fresh M.dbig)⟩
    · by_cases hb : b = e
      · have q' : G'.get? b = some o := q
        rw [hb, ge] at q'
        cases q'
      · exact (gk b hb).symm.trans q
    · rw [upd_ne (Ne.symm M.dne)]
      exact I1.hok.fresh M.new
/-- raise C(e) -/
def tRaiseX (C : Addr) (fn : Str) (W : WX) (ta : TA) : TS := fun _ σ H => tMkX C fn ta σ H fun cls d H' => W cls d σ H'
theorem ps_raiseX {a : Expr} {ta : TA} {W : WX} {p pos pos2 : Pos} {k : Nat} (hc : X.calm = true) (T : MakeOk X.K X.mg cn fn C) (hr : Room k X.A) (tk : Takes X W) (ha : PA X [a] ta) (hg : Gl X cn := by rfl) (hdb : (cn == ("__debug__" : Str)) = false := by decide)
    (he : starEach (a :: []) X.env = (false, eval a X.env) :: starEach [] X.env := by rfl) (hpl : (backTo pos (starEach [] X.env)).any (·.1) = false := by rfl) :
    PS X (.Raise (some (.Call (.Name cn p) [a] [] pos)) none pos2) (tRaiseX C fn W ta) := ps_raise hc tk (pmk_x T hr ha hg hdb he hpl)
/-- e.f, e the exception that the suite holds (at a; its class cls, its dict d) -/
def tFldX (C : Addr) (fn : Str) (a : Addr) (cls : Value) (d : Option Addr) (te : TE) : TE := fun σ H Q => te σ H fun x H1 => x = .ref a ∧ cls = .ref C ∧ ∃ (dd : Addr) (v : V), d = some dd ∧ H1 dd = some (.xd [(fn, v)]) ∧ Q v H1
theorem pe_fldX {a : Addr} {oe : Obj} {cls : Value} {d : Option Addr} {pn : List (Addr × Obj)} {e : Expr} {te : TE} {pos : Pos} (T : MakeOk X.K X.mg cn fn C) (hz : Zc cls d oe) (hf : ∃ vs, oe.data = .fields vs) (he : PE (X.suite a ((a, oe) :: pn)) e te)
    (hb : attributeBase e fn X.env (eval e X.env) = eval e X.env := by rfl) : PE (X.suite a ((a, oe) :: pn)) (.Attribute e fn pos) (tFldX C fn a cls d te) := by
  refine ⟨fun pins s σ H Q I h => attr_of hb (thn (he.run pins s σ H _ I h) fun u s1 hh => ?_)⟩
  obtain ⟨x, H1, I1, rx, ex, ec, dd, v, ed, ea, q⟩ := hh
  subst ex
  obtain rfl : u = Value.ref a := rx
  subst ec
  subst ed
  obtain ⟨ha, _⟩ := I1.pin (a, oe) (List.mem_append_left _ List.mem_cons_self)
  obtain ⟨vs, hd⟩ := hf
  obtain ⟨mA, hns, hr⟩ := (show ObjOk X.prog X.w H1 s1.heap dd (.xd [(fn, v)]) from I1.hok dd _ ea)
  obtain ⟨od, ho, hl⟩ := lookIn_ns hns
  have l : List.lookup fn [(fn, v)] = some v := by simp [List.lookup]
  obtain ⟨u, hu, ru⟩ := RelO.some_of (v := v) (o := mA fn) (by rw [← l]; exact hr fn)
  have J : PySem.W.InstAt s1.heap a oe C (some od) := ⟨ha, hz.1, by unfold PySem.W.notCls; rw [hd] <;> rfl, by rw [hz.2]; exact ho⟩
  exact HandSPX.exc_get I1.kIn J T.ga T.gg T.exC (PySem.W.findObj_own T.hdC T.noN rfl (by rw [hl, hu])) (handed_of ru) ⟨v, H1, I1.tok _, ru, q⟩
end
end XV
/-! ## try with several except clauses, with names or without -/
namespace XT
open PySem PySem.Spec PyProof.Rows L2
abbrev Cl : Type := Value × Option Nat × (Addr → Value → Option Addr → TS)
/-- what follows a suite whose error stood in slot i -/
def gone (i : Nat) (D : Ends) : Ends := { nx := fun σ' H' => D.nx (σ'.set i none) H', rt := D.rt, bk := fun σ' H' => D.bk (σ'.set i none) H', ct := fun σ' H' => D.ct (σ'.set i none) H' }
/-- what the clauses wish of an exception of the body, one after the other -/
def wMix (K : PySem.W.Frag) (Wout : WX) (D : Ends) : List Cl → WX
  | [] => Wout
  | (c, n, ts) :: r => fun cls d σ H => ∃ b, PySem.W.exmOne K cls c = some b ∧ (b = true → ∀ a, H a = none → match n with | none => ts a cls d D σ H | some i => ts a cls d (gone i D) (σ.set i (some (.ref a))) H) ∧ (b = false → wMix K Wout D r cls d σ H)
inductive HdsMix (X : Cx) : List ExceptHandler → List Cl → Prop
  | nil : HdsMix X [] []
  | bare {x : Str} {c : Value} {ts : Addr → Value → Option Addr → TS} {b₀ : Stmt} {suite : List Stmt} {np pos' : Pos} {hds : List ExceptHandler} {l : List Cl} (hc : Names X x c)
      (hsu : ∀ (a : Addr) (oe : Obj) (cls : Value) (d : Option Addr) (pn : List (Addr × Obj)), Zc cls d oe → (∃ vs, oe.data = .fields vs) → PSs (X.suite a ((a, oe) :: pn)) (b₀ :: suite) (ts a cls d)) (r : HdsMix X hds l) : HdsMix X (.ExceptHandler (some (.Name x np)) none (b₀ :: suite) pos' :: hds) ((c, none, ts) :: l)
  | named {x n : Str} {i : Nat} {c : Value} {ts : Addr → Value → Option Addr → TS} {b₀ : Stmt} {suite : List Stmt} {np pos' : Pos} {hds : List ExceptHandler} {l : List Cl} (hc : Names X x c) (hN : X.N.Nodup) (hi : X.N[i]? = some n) (hln : X.env.kindOf n = some .local)
      (hsu : ∀ (a : Addr) (oe : Obj) (cls : Value) (d : Option Addr) (pn : List (Addr × Obj)), Zc cls d oe → (∃ vs, oe.data = .fields vs) → PSs (X.suite a ((a, oe) :: pn)) (b₀ :: suite) (ts a cls d)) (r : HdsMix X hds l) : HdsMix X (.ExceptHandler (some (.Name x np)) (some n) (b₀ :: suite) pos' :: hds) ((c, some i, ts) :: l)
section
variable {X : Cx} {body : List Stmt} {h₀ : ExceptHandler} {hds : List ExceptHandler} {l : List Cl} {pos : Pos} {tb : WX → TS} {Wout : WX}
theorem ps_try_mix (hs : X.stack = X.env :: X.outer) (hf : X.env.frame = some X.env.locals) (tk : Takes X Wout)
    (hb : ∀ (W : WX) (pn : List (Addr × Obj)) (xe : Value → Shared → Prop), Takes (X.tr pn xe) W → PassesOwn (model X.prog X.w) X.A X.env xe → PSs (X.tr pn xe) body (tb W))
    (hh : HdsMix X (h₀ :: hds) l) : PS X (.Try body (h₀ :: hds) [] [] pos) (fun D σ H => tb (wMix X.K Wout D l) D σ H) := by
  refine ⟨fun pins s σ H D I h => wpAny_Try_except ?_⟩
  have ok := I.ok
  have hfr : X.A.frames = some (X.env :: X.outer) := by rw [ok.frames, hs]
  refine wpAny_mono ((hb (wMix X.K Wout D l) (X.pn ++ pins) (fun e s₁ => wpAny (model X.prog X.w) X.A (noteFrame e X.env) (fun _ s₂ => wpAny (model X.prog X.w) X.A (setFlight e none) (fun _ s₃ => wpAny (model X.prog X.w) X.A (handleBy e X.env (h₀ :: hds)) (SP X pins D) X.xe s₃) X.xe s₂) X.xe s₁) (fun u s' xx => ?_) PassesOwn.looking).run [] s σ H D (I.toTry _) h) (fun f s1 hsp => ?_) (fun e s1 he => he)
  · obtain ⟨a, B, sI, pins', σ', H', cls, d, rfl, J', nb, up, sky, na, os, ag, w⟩ := xx
    have J : Inv X pins σ' H' sI := J'.ofTry ok
    have sky' : Sky B (X.env :: X.outer) a (Zc cls d) X.env.locals s'.heap := by rw [← hs]; exact sky
    show wpAny (model X.prog X.w) X.A (noteFrame (.ref a) X.env) _ _ _; refine Sky.land Zc.steady hfr hf sky' fun h3 fl3 up3 => ?_
    have J3 : Inv X pins σ' H' { s' with heap := h3 } := J.landed nb fl3.1 (up.trans up3) os ag
    obtain ⟨oe3, vs3, he3, hz3, hd3⟩ := fl3.there
    have nfr : a ∉ frs (X.env :: X.outer) := fun hm => by
      obtain ⟨_, o', e', hnf⟩ := fl3.2.2.1.mem hm
      rw [he3] at e'; cases e'; exact hnf _ hd3
    have nL : a ≠ X.env.locals := fun z => nfr (List.mem_filterMap.mpr ⟨X.env, List.mem_cons_self, by rw [hf, z]⟩)
    have nF : a ∉ X.fs := fun hm => by
      obtain ⟨e, he, q⟩ := List.mem_filterMap.mp hm
      exact nfr (List.mem_filterMap.mpr ⟨e, List.mem_cons_of_mem _ he, q⟩)
    have S3 := J3.suite he3 hd3 na nL nF
    have LT : PySem.W.Looks (model X.prog X.w) h3 (typeOf (.ref a)) cls := fun A Q E s k q => wpAny_typeOf_ref (k _ _ he3) (by rw [hz3.1]; exact q)
    have test : ∀ {x : Str} {c : Value} {np : Pos} {Q : Value → Shared → Prop} {E : Value → Shared → Prop}, Names X x c → Q c { s' with heap := h3 } → wpAny (model X.prog X.w) (X.A.mark (some (.ref a))) (eval (.Name x np) X.env) Q E { s' with heap := h3 } := fun {x c np Q E} hc q => by
      obtain ⟨hg, hdbg, hm | ⟨hm, hv, hnn⟩⟩ := hc
      · exact ld_glob (X := X.suite a ((a, oe3) :: (X.pn ++ pins))) S3 hg hm q hdbg
      · exact ld_blt (X := X.suite a ((a, oe3) :: (X.pn ++ pins))) S3 hg hm hv q hnn hdbg
    have go : ∀ {hds' : List ExceptHandler} {l' : List Cl}, HdsMix X hds' l' → wMix X.K Wout D l' cls d σ' H' → wpAny (model X.prog X.w) X.A (handleBy (.ref a) X.env hds') (SP X pins D) X.xe { s' with heap := h3 } := by
      intro hds' l' hk
      induction hk with
      | nil =>
        intro w
        refine wpAny_handleBy_nil ?_
        obtain ⟨k1, k2, k3, oe, vs, T, oT, ts', he, hz, hd, h1, hr⟩ := id fl3
        unfold PySem.passOn; refine wpAny_bind (wpAny_field he hd h1 ?_); rw [if_neg (show ¬ ((Value.ref T == Value.none) = true) from by simp)]
        have fin : wpAny (model X.prog X.w) X.A (setFlight (.ref a) X.env.frame) (fun _ s4 => wpAny (model X.prog X.w) X.A (throw (.ref a) : Sem Flow) (SP X pins D) X.xe s4) X.xe { s' with heap := h3 } := by
          rw [hf]; exact HandSPX.setFlight_upZ fl3 fun h4 hh4 up4 => wpAny_throw (tk _ _ ⟨a, B, sI, pins, σ', H', cls, d, rfl, J, nb, (up.trans up3).trans up4, .inr (.inr (by rw [hs]; exact hh4)), na, os, ag, w⟩)
        first | exact wpAny_bind (wpAny_pure (wpAny_bind fin)) | exact wpAny_bind fin
      | @bare x c ts b₀ suite np pos' hds2 l2 hc hsu r ih =>
        rintro ⟨b, hb1, hyes, hno⟩
        have LM := PySem.W.exm_one (M := model X.prog X.w) (J3.kIn) LT hb1
        refine wpAny_handleBy_cons (codeAny_handlers_test (test hc (LM.here ?_))) (by intro q; cases q)
        cases b with
        | true =>
          refine codeAny_handlers_suite (HandSPX.lands_againZ fl3 fun h4 fl4 up4 => ?_)
          have J4 : Inv X pins σ' H' { s' with heap := h4 } := J.landed nb fl4.1 ((up.trans up3).trans up4) os ag
          obtain ⟨oe4, vs4, he4, hz4, hd4⟩ := fl4.there
          refine wpAny_mono ((hsu a oe4 cls d (X.pn ++ pins) hz4 ⟨_, hd4⟩).run [] _ _ H' _ (J4.suite he4 hd4 na nL nF) (hyes rfl a na)) (fun f s6 hsp => ?_) (fun _ _ z => False.elim z)
          rcases f with _ | _ | _ | u
          all_goals first
            | (obtain ⟨v6, σ6, H6, S6, r6, q6⟩ := hsp; exact ⟨_, _, _, S6.unsuite ok, r6, q6⟩)
            | (obtain ⟨σ6, H6, S6, q6⟩ := hsp; exact ⟨_, _, S6.unsuite ok, q6⟩)
        | false => exact ih (hno rfl)
      | @named x n i c ts b₀ suite np pos' hds2 l2 hc hN hi hln hsu r ih =>
        rintro ⟨b, hb1, hyes, hno⟩
        have LM := PySem.W.exm_one (M := model X.prog X.w) (J3.kIn) LT hb1
        refine wpAny_handleBy_cons (codeAny_handlers_test (test hc (LM.here ?_))) (by intro q; cases q)
        cases b with
        | true =>
          refine codeAny_handlers_suite_as (HandSPX.lands_againZ fl3 fun h4 fl4 up4 => ?_)
          have J4 : Inv X pins σ' H' { s' with heap := h4 } := J.landed nb fl4.1 ((up.trans up3).trans up4) os ag
          obtain ⟨oe4, vs4, he4, hz4, hd4⟩ := fl4.there
          refine store_ok (X := X.suite a ((a, oe4) :: (X.pn ++ pins))) (v := .ref a) (J4.suite he4 hd4 na nL nF) hN hi (.inl hln) rfl (fun s5 S5 => ?_) (.inr hln)
          refine wpAny_mono ((hsu a oe4 cls d (X.pn ++ pins) hz4 ⟨_, hd4⟩).run [] s5 _ H' _ S5 (hyes rfl a na)) (fun f s6 hsp => ?_) (fun _ _ z => False.elim z)
          have end_ : ∀ {σ6 : L2.St} {H6 : Hp} {Q : Shared → Prop}, Inv (X.suite a ((a, oe4) :: (X.pn ++ pins))) [] σ6 H6 s6 → (∀ s7, Inv X pins (σ6.set i none) H6 s7 → Q s7) → wpAny (model X.prog X.w) X.A (do bindName X.env n .none; unbindBehindTheSuite X.env n pos') (fun _ s7 => Q s7) X.xe s6 := fun {σ6 H6 Q} S6 hq => gone_ok (S6.unsuite ok) hN hi hln hq
          rcases f with _ | _ | _ | u
          all_goals first
            | (obtain ⟨v6, σ6, H6, S6, r6, q6⟩ := hsp; exact end_ S6 fun s7 J7 => ⟨_, _, _, J7, r6, q6⟩)
            | (obtain ⟨σ6, H6, S6, q6⟩ := hsp; exact end_ S6 fun s7 J7 => ⟨_, _, J7, q6⟩)
        | false => exact ih (hno rfl)
    exact go hh w
  · rcases f with _ | _ | _ | u
    all_goals first
      | (obtain ⟨v, σ', H', J', r, q⟩ := hsp; exact ⟨v, σ', H', J'.ofTry ok, r, q⟩)
      | (obtain ⟨σ', H', J', q⟩ := hsp; exact wpAny_execs_nil ⟨σ', H', J'.ofTry ok, q⟩)
      | (obtain ⟨σ', H', J', q⟩ := hsp; exact ⟨σ', H', J'.ofTry ok, q⟩)
end
end XT
theorem XV.ok_ParseError {K : PySem.W.Frag} {mg : PySem.Str → Option PySem.Value} {C fI : PySem.Addr} (T : PySem.XO_ParseError.Own K mg C fI) : XV.MakeOk K mg "ParseError" "number" C := ⟨T.gC, T.kC, T.exC, T.tyC, T.hdC, T.ga, T.gg, T.noN, fun X l d q => PySem.XO_ParseError.make T X l d q⟩
theorem XV.ok_UnknownName {K : PySem.W.Frag} {mg : PySem.Str → Option PySem.Value} {C fI : PySem.Addr} (T : PySem.XO_UnknownName.Own K mg C fI) : XV.MakeOk K mg "UnknownName" "word" C := ⟨T.gC, T.kC, T.exC, T.tyC, T.hdC, T.ga, T.gg, T.noN, fun X l d q => PySem.XO_UnknownName.make T X l d q⟩
theorem XV.ok_Parted {K : PySem.W.Frag} {mg : PySem.Str → Option PySem.Value} {C fI : PySem.Addr} (T : PySem.XO_Parted.Own K mg C fI) : XV.MakeOk K mg "Parted" "parting" C := ⟨T.gC, T.kC, T.exC, T.tyC, T.hdC, T.ga, T.gg, T.noN, fun X l d q => PySem.XO_Parted.make T X l d q⟩
theorem XV.ok_InvalidNumber {K : PySem.W.Frag} {mg : PySem.Str → Option PySem.Value} {C fI : PySem.Addr} (T : PySem.XO_InvalidNumber.Own K mg C fI) : XV.MakeOk K mg "InvalidNumber" "value" C := ⟨T.gC, T.kC, T.exC, T.tyC, T.hdC, T.ga, T.gg, T.noN, fun X l d q => PySem.XO_InvalidNumber.make T X l d q⟩
theorem XV.ok_NothingToUndo {K : PySem.W.Frag} {mg : PySem.Str → Option PySem.Value} {C fI : PySem.Addr} (T : PySem.XO_NothingToUndo.Own K mg C fI) : XV.MakeOk K mg "NothingToUndo" "many" C := ⟨T.gC, T.kC, T.exC, T.tyC, T.hdC, T.ga, T.gg, T.noN, fun X l d q => PySem.XO_NothingToUndo.make T X l d q⟩
theorem XV.ok_TooMany {K : PySem.W.Frag} {mg : PySem.Str → Option PySem.Value} {C fI : PySem.Addr} (T : PySem.XO_TooMany.Own K mg C fI) : XV.MakeOk K mg "TooMany" "limit" C := ⟨T.gC, T.kC, T.exC, T.tyC, T.hdC, T.ga, T.gg, T.noN, fun X l d q => PySem.XO_TooMany.make T X l d q⟩
theorem XV.ok_Refused {K : PySem.W.Frag} {mg : PySem.Str → Option PySem.Value} {C fI : PySem.Addr} (T : PySem.XO_Refused.Own K mg C fI) : XV.MakeOk K mg "Refused" "pledge" C := ⟨T.gC, T.kC, T.exC, T.tyC, T.hdC, T.ga, T.gg, T.noN, fun X l d q => PySem.XO_Refused.make T X l d q⟩
/-! Exceptions held as values: made, and their kinds asked. -/
namespace GD
open PySem PySem.Spec PyProof.Rows L2
/-- an exception object with a dict -/
def exq (a C d : Addr) : HO := .ext fun h => ∃ oe, h.get? a = some oe ∧ oe.cls = .ref C ∧ oe.dict = some d ∧ ∃ vs, oe.data = .fields vs
/-- v is an exception of the class at C, with or without a dict of one field -/
def ExP (H : Hp) (v : V) (C : Addr) : Prop := ∃ a, v = .ref a ∧ (H a = some (ExO (.ref C) a) ∨ ∃ d x y, H a = some (exq a C d) ∧ H d = some (.xd [(x, y)]))
theorem ExP.same {H H' : Hp} (S : ∀ b o, H b = some o → H' b = some o) {v C} (h : ExP H v C) : ExP H' v C := by
  obtain ⟨a, e, h | ⟨d, x, y, h1, h2⟩⟩ := h
  · exact ⟨a, e, .inl (S _ _ h)⟩
  · exact ⟨a, e, .inr ⟨d, x, y, S _ _ h1, S _ _ h2⟩⟩
theorem ExP.at {X : Cx} {pins : List (Addr × Obj)} {σ : L2.St} {H : Hp} {s : Shared} (I : L2.Inv X pins σ H s) {v C} (h : ExP H v C) : ∃ a ox od, v = .ref a ∧ PySem.W.InstAt s.heap a ox C od := by
  obtain ⟨a, e, h | ⟨d, x, y, h1, h2⟩⟩ := h
  · obtain ⟨⟨oe, vs, g, z, hd, _⟩, _⟩ := I.hok _ _ h
    exact ⟨a, oe, none, e, g, z.1, by unfold PySem.W.notCls; rw [hd] <;> rfl, by rw [z.2]; trivial⟩
  · obtain ⟨⟨oe, g, c1, c2, vs, c3⟩, _⟩ := I.hok _ _ h1
    obtain ⟨mA, hns, _⟩ := (show ObjOk X.prog X.w H s.heap d (.xd [(x, y)]) from I.hok _ _ h2)
    obtain ⟨od, ho, _⟩ := lookIn_ns hns
    exact ⟨a, oe, some od, e, g, c1, by unfold PySem.W.notCls; rw [c3] <;> rfl, by rw [c2]; exact ho⟩
theorem call_isX {X : Cx} : CallR X (.builtin "isinstance") fun xs H Q => ∃ v c C cv b, xs = [v, c] ∧ ExP H v C ∧ ExcC X.K C ∧ ClsV c cv ∧ PySem.W.kitOne X.K (.ref C) cv = some b ∧ Q (.bl b) H := by
  intro pins s σ H xs us Q I r h
  obtain ⟨v, c, C, cv, b, rfl, hx, hC, hc, hk, q⟩ := h
  obtain ⟨a, ox, od, rfl, J⟩ := hx.at I
  cases r with
  | cons r1 r2 =>
  cases r2 with
  | cons r3 r4 =>
  cases r4
  cases r1
  have e2 := ClsV.eq hc r3
  subst e2
  obtain ⟨cd, hcd, _⟩ := PySem.W.any_some hC.hd
  exact PySem.W.kia_one (PySem.W.kitx_exc (ox := ox) (od := od) (by rw [hcd]; rfl) hC.hg hC.hk hC.hs hC.ha hC.hn hC.ht hC.hm) I.kIn J hk (fun e => nomatch e) fun tk => ⟨.bl b, H, I.tok _, rfl, q⟩
/-- C(e), kept as a value -/
def tMkV (C : Addr) (fn : Str) (ta : TA) : TE := fun σ H Q => ta σ H fun vs H1 => ∃ v, vs = [v] ∧ ∀ a d, H1 a = none → H1 d = none → a ≠ d → Q (.ref a) (upd (upd H1 d (.xd [(fn, v)])) a (exq a C d))
theorem pe_makeX {X : Cx} {C : Addr} {cn fn : Str} {e1 : Expr} {ta : TA} {p pos : Pos} {k : Nat} (T : XV.MakeOk X.K X.mg cn fn C) (hr : Room k X.A) (ha : PA X [e1] ta) (hg : Gl X cn := by rfl) (hdb : (cn == ("__debug__" : Str)) = false := by decide)
    (he : starEach (e1 :: []) X.env = (false, eval e1 X.env) :: starEach [] X.env := by rfl) (hpl : (backTo pos (starEach [] X.env)).any (·.1) = false := by rfl) : PE X (.Call (.Name cn p) [e1] [] pos) (tMkV C fn ta) := by
  refine ⟨fun pins s σ H Q I h => ?_⟩
  refine wpAny_Call_Name_kw (ld_glob I hg T.gC (PySem.W.callWith_K (h₀ := X.base) I.ok.mod.kin T.kC (thn (ha.run pos pins s σ H _ I h) fun us s1 hh => ?_) he hpl) hdb)
  obtain ⟨vs, H1, I1, r1, v, ev, q1⟩ := hh
  subst ev
  refine ⟨I1.kIn, ?_⟩
  cases r1 with
  | cons rv rn =>
    rename_i v' us'
    cases rn
    show wpAny _ _ (call (.ref C) [v']) _ _ _
    have hlim := I1.nolimit
    obtain ⟨hp, g, dr, tk, os⟩ := s1
    refine wpAny_call (T.made I1.kIn hlim (by have := hr.dp; omega) fun h' tk' e d M => ?_)
    show EP X pins σ Q (.ref e) ⟨h', g, dr, tk', os⟩
    obtain ⟨oe, hoe, hc, hd, t1, hdat⟩ := M.obj
    obtain ⟨G', g1, g2⟩ := restrict h' fun b => decide (b ≠ e)
    have gk : ∀ b, b ≠ e → G'.get? b = h'.get? b := fun b hb => g1 b (decide_eq_true hb)
    have ge : G'.get? e = none := g2 e (by simp)
    have old : ∀ b o, hp.get? b = some o → G'.get? b = some o := fun b o q => (gk b (Nat.ne_of_lt (Nat.lt_of_lt_of_le (Heap.lt_size q) M.new))).trans (M.keep b o q)
    have ob : ObjOk X.prog X.w (upd H1 d (.xd [(fn, v)])) G' d (.xd [(fn, v)]) := ⟨_, M.ns.at (fun o q => (gk d M.dne).trans q), fun f => XV.relO_fld rv fn f⟩
    have J : Inv X pins σ (upd H1 d (.xd [(fn, v)])) ⟨G', g, dr, tk', os⟩ := I1.laid (t' := tk') old M.dbig ob
    have kG : ∀ b u, G'.get? b = some u → h'.get? b = some u := fun b u q => by
      by_cases hb : b = e
      · subst hb
        rw [ge] at q
        cases q
      · exact (gk b hb).symm.trans q
    have ne1 : H1 e = none := I1.hok.fresh M.new
    have nd1 : H1 d = none := I1.hok.fresh M.dbig
    have hn : upd H1 d (.xd [(fn, v)]) e = none := by
      rw [upd_ne (Ne.symm M.dne)]
      exact ne1
    have ob2 : ObjOk X.prog X.w (upd (upd H1 d (.xd [(fn, v)])) e (exq e C d)) h' e (exq e C d) :=
      ⟨⟨oe, hoe, hc, hd, _, hdat⟩, ⟨oe, hoe⟩, fun h1 h2 ⟨o1, z, z1⟩ kk => ⟨o1, kk o1 z, z1⟩⟩
    have J2 : Inv X pins σ (upd (upd H1 d (.xd [(fn, v)])) e (exq e C d)) ⟨h', g, dr, tk', os⟩ := J.un (Un.laidN kG ge hn) (HOk.laidN J.hok kG hn ob2)
    exact ⟨.ref e, _, J2, rfl, q1 e d ne1 nd1 (Ne.symm M.dne)⟩
end GD

namespace K0
open PySem PySem.Spec PyProof.Rows L2 GD
def top (i : Nat) : Stmt := PySem.Challenge.pw_wheelgrown_k00_errors_kept_and_caught.main.body.getD i (.Pass ⟨0, 0, 0, 0⟩)
abbrev s_law_dice : Stmt := top 20
abbrev s_law_roll : Stmt := top 21
abbrev s_law_pick : Stmt := top 22
abbrev s_law_plain_errors : Stmt := top 23
abbrev s_law_kinds_of : Stmt := top 24
abbrev s_law_raised : Stmt := top 25
abbrev s_law_word_of : Stmt := top 26
abbrev s_law_keepers_right : Stmt := top 27
abbrev s_law_singles_right : Stmt := top 28
abbrev s_law : Stmt := top 29
/-- where the classes stand -/
structure Ad where
  cWebError : Addr
  cInvalidPlace : Addr
  cInvalidTie : Addr
  cInvalidWeb : Addr
  cInvalidRoute : Addr
  cInvalidStep : Addr
  cInvalidGrowth : Addr
  cInvalidPart : Addr
  cInvalidDrawing : Addr
  cInvalidModel : Addr
  cInvalidOperation : Addr
  cParseError : Addr
  cUnknownName : Addr
  cParted : Addr
  cInvalidNumber : Addr
  cNothingToUndo : Addr
  cTooMany : Addr
  cRefused : Addr
/-- of what kinds the class at C is -/
structure Kn (K : PySem.W.Frag) (W C : Addr) (b0 b1 b2 b3 b4 b5 b6 b7 : Bool) : Prop where
  k0 : PySem.W.kitOne K (.ref C) (.ref W) = some b0
  k1 : PySem.W.kitOne K (.ref C) (.type "ValueError") = some b1
  k2 : PySem.W.kitOne K (.ref C) (.type "LookupError") = some b2
  k3 : PySem.W.kitOne K (.ref C) (.type "KeyError") = some b3
  k4 : PySem.W.kitOne K (.ref C) (.type "IndexError") = some b4
  k5 : PySem.W.kitOne K (.ref C) (.type "RuntimeError") = some b5
  k6 : PySem.W.kitOne K (.ref C) (.type "ArithmeticError") = some b6
  k7 : PySem.W.kitOne K (.ref C) (.type "OverflowError") = some b7
/-- a class made with a text -/
structure Pl (K : PySem.W.Frag) (mg : Str → Option Value) (n : Str) (C : Addr) : Prop where
  g : mg n = some (.ref C)
  k : PySem.W.keepIn K (.ref C) = true
  q : PySem.W.excIn K C [.type "ValueError", .type "Exception", .type "BaseException", .type "object"] "ValueError.__new__" = true
  s : PySem.W.subIn K (.ref C) (.type "BaseException") = some true
  t : PySem.W.typeIn K (.ref C) = some (.type "type")
/-- which error is which -/
structure Mat (K : PySem.W.Frag) (A : Ad) : Prop where
  m00 : PySem.W.kitOne K (.ref A.cInvalidPlace) (.ref A.cInvalidPlace) = some true
  m01 : PySem.W.kitOne K (.ref A.cInvalidPlace) (.ref A.cInvalidTie) = some false
  m02 : PySem.W.kitOne K (.ref A.cInvalidPlace) (.ref A.cInvalidWeb) = some false
  m03 : PySem.W.kitOne K (.ref A.cInvalidPlace) (.ref A.cInvalidRoute) = some false
  m04 : PySem.W.kitOne K (.ref A.cInvalidPlace) (.ref A.cInvalidStep) = some false
  m05 : PySem.W.kitOne K (.ref A.cInvalidPlace) (.ref A.cInvalidGrowth) = some false
  m06 : PySem.W.kitOne K (.ref A.cInvalidPlace) (.ref A.cInvalidPart) = some false
  m07 : PySem.W.kitOne K (.ref A.cInvalidPlace) (.ref A.cInvalidDrawing) = some false
  m08 : PySem.W.kitOne K (.ref A.cInvalidPlace) (.ref A.cInvalidModel) = some false
  m09 : PySem.W.kitOne K (.ref A.cInvalidPlace) (.ref A.cInvalidOperation) = some false
  mp0 : PySem.W.kitOne K (.ref A.cInvalidPlace) (.ref A.cParseError) = some false
  m10 : PySem.W.kitOne K (.ref A.cInvalidTie) (.ref A.cInvalidPlace) = some false
  m11 : PySem.W.kitOne K (.ref A.cInvalidTie) (.ref A.cInvalidTie) = some true
  m12 : PySem.W.kitOne K (.ref A.cInvalidTie) (.ref A.cInvalidWeb) = some false
  m13 : PySem.W.kitOne K (.ref A.cInvalidTie) (.ref A.cInvalidRoute) = some false
  m14 : PySem.W.kitOne K (.ref A.cInvalidTie) (.ref A.cInvalidStep) = some false
  m15 : PySem.W.kitOne K (.ref A.cInvalidTie) (.ref A.cInvalidGrowth) = some false
  m16 : PySem.W.kitOne K (.ref A.cInvalidTie) (.ref A.cInvalidPart) = some false
  m17 : PySem.W.kitOne K (.ref A.cInvalidTie) (.ref A.cInvalidDrawing) = some false
  m18 : PySem.W.kitOne K (.ref A.cInvalidTie) (.ref A.cInvalidModel) = some false
  m19 : PySem.W.kitOne K (.ref A.cInvalidTie) (.ref A.cInvalidOperation) = some false
  mp1 : PySem.W.kitOne K (.ref A.cInvalidTie) (.ref A.cParseError) = some false
  m20 : PySem.W.kitOne K (.ref A.cInvalidWeb) (.ref A.cInvalidPlace) = some false
  m21 : PySem.W.kitOne K (.ref A.cInvalidWeb) (.ref A.cInvalidTie) = some false
  m22 : PySem.W.kitOne K (.ref A.cInvalidWeb) (.ref A.cInvalidWeb) = some true
  m23 : PySem.W.kitOne K (.ref A.cInvalidWeb) (.ref A.cInvalidRoute) = some false
  m24 : PySem.W.kitOne K (.ref A.cInvalidWeb) (.ref A.cInvalidStep) = some false
  m25 : PySem.W.kitOne K (.ref A.cInvalidWeb) (.ref A.cInvalidGrowth) = some false
  m26 : PySem.W.kitOne K (.ref A.cInvalidWeb) (.ref A.cInvalidPart) = some false
  m27 : PySem.W.kitOne K (.ref A.cInvalidWeb) (.ref A.cInvalidDrawing) = some false
  m28 : PySem.W.kitOne K (.ref A.cInvalidWeb) (.ref A.cInvalidModel) = some false
  m29 : PySem.W.kitOne K (.ref A.cInvalidWeb) (.ref A.cInvalidOperation) = some false
  mp2 : PySem.W.kitOne K (.ref A.cInvalidWeb) (.ref A.cParseError) = some false
  m30 : PySem.W.kitOne K (.ref A.cInvalidRoute) (.ref A.cInvalidPlace) = some false
  m31 : PySem.W.kitOne K (.ref A.cInvalidRoute) (.ref A.cInvalidTie) = some false
  m32 : PySem.W.kitOne K (.ref A.cInvalidRoute) (.ref A.cInvalidWeb) = some false
  m33 : PySem.W.kitOne K (.ref A.cInvalidRoute) (.ref A.cInvalidRoute) = some true
  m34 : PySem.W.kitOne K (.ref A.cInvalidRoute) (.ref A.cInvalidStep) = some false
  m35 : PySem.W.kitOne K (.ref A.cInvalidRoute) (.ref A.cInvalidGrowth) = some false
  m36 : PySem.W.kitOne K (.ref A.cInvalidRoute) (.ref A.cInvalidPart) = some false
  m37 : PySem.W.kitOne K (.ref A.cInvalidRoute) (.ref A.cInvalidDrawing) = some false
  m38 : PySem.W.kitOne K (.ref A.cInvalidRoute) (.ref A.cInvalidModel) = some false
  m39 : PySem.W.kitOne K (.ref A.cInvalidRoute) (.ref A.cInvalidOperation) = some false
  mp3 : PySem.W.kitOne K (.ref A.cInvalidRoute) (.ref A.cParseError) = some false
  m40 : PySem.W.kitOne K (.ref A.cInvalidStep) (.ref A.cInvalidPlace) = some false
  m41 : PySem.W.kitOne K (.ref A.cInvalidStep) (.ref A.cInvalidTie) = some false
  m42 : PySem.W.kitOne K (.ref A.cInvalidStep) (.ref A.cInvalidWeb) = some false
  m43 : PySem.W.kitOne K (.ref A.cInvalidStep) (.ref A.cInvalidRoute) = some false
  m44 : PySem.W.kitOne K (.ref A.cInvalidStep) (.ref A.cInvalidStep) = some true
  m45 : PySem.W.kitOne K (.ref A.cInvalidStep) (.ref A.cInvalidGrowth) = some false
  m46 : PySem.W.kitOne K (.ref A.cInvalidStep) (.ref A.cInvalidPart) = some false
  m47 : PySem.W.kitOne K (.ref A.cInvalidStep) (.ref A.cInvalidDrawing) = some false
  m48 : PySem.W.kitOne K (.ref A.cInvalidStep) (.ref A.cInvalidModel) = some false
  m49 : PySem.W.kitOne K (.ref A.cInvalidStep) (.ref A.cInvalidOperation) = some false
  mp4 : PySem.W.kitOne K (.ref A.cInvalidStep) (.ref A.cParseError) = some false
  m50 : PySem.W.kitOne K (.ref A.cInvalidGrowth) (.ref A.cInvalidPlace) = some false
  m51 : PySem.W.kitOne K (.ref A.cInvalidGrowth) (.ref A.cInvalidTie) = some false
  m52 : PySem.W.kitOne K (.ref A.cInvalidGrowth) (.ref A.cInvalidWeb) = some false
  m53 : PySem.W.kitOne K (.ref A.cInvalidGrowth) (.ref A.cInvalidRoute) = some false
  m54 : PySem.W.kitOne K (.ref A.cInvalidGrowth) (.ref A.cInvalidStep) = some false
  m55 : PySem.W.kitOne K (.ref A.cInvalidGrowth) (.ref A.cInvalidGrowth) = some true
  m56 : PySem.W.kitOne K (.ref A.cInvalidGrowth) (.ref A.cInvalidPart) = some false
  m57 : PySem.W.kitOne K (.ref A.cInvalidGrowth) (.ref A.cInvalidDrawing) = some false
  m58 : PySem.W.kitOne K (.ref A.cInvalidGrowth) (.ref A.cInvalidModel) = some false
  m59 : PySem.W.kitOne K (.ref A.cInvalidGrowth) (.ref A.cInvalidOperation) = some false
  mp5 : PySem.W.kitOne K (.ref A.cInvalidGrowth) (.ref A.cParseError) = some false
  m60 : PySem.W.kitOne K (.ref A.cInvalidPart) (.ref A.cInvalidPlace) = some false
  m61 : PySem.W.kitOne K (.ref A.cInvalidPart) (.ref A.cInvalidTie) = some false
  m62 : PySem.W.kitOne K (.ref A.cInvalidPart) (.ref A.cInvalidWeb) = some false
  m63 : PySem.W.kitOne K (.ref A.cInvalidPart) (.ref A.cInvalidRoute) = some false
  m64 : PySem.W.kitOne K (.ref A.cInvalidPart) (.ref A.cInvalidStep) = some false
  m65 : PySem.W.kitOne K (.ref A.cInvalidPart) (.ref A.cInvalidGrowth) = some false
  m66 : PySem.W.kitOne K (.ref A.cInvalidPart) (.ref A.cInvalidPart) = some true
  m67 : PySem.W.kitOne K (.ref A.cInvalidPart) (.ref A.cInvalidDrawing) = some false
  m68 : PySem.W.kitOne K (.ref A.cInvalidPart) (.ref A.cInvalidModel) = some false
  m69 : PySem.W.kitOne K (.ref A.cInvalidPart) (.ref A.cInvalidOperation) = some false
  mp6 : PySem.W.kitOne K (.ref A.cInvalidPart) (.ref A.cParseError) = some false
  m70 : PySem.W.kitOne K (.ref A.cInvalidDrawing) (.ref A.cInvalidPlace) = some false
  m71 : PySem.W.kitOne K (.ref A.cInvalidDrawing) (.ref A.cInvalidTie) = some false
  m72 : PySem.W.kitOne K (.ref A.cInvalidDrawing) (.ref A.cInvalidWeb) = some false
  m73 : PySem.W.kitOne K (.ref A.cInvalidDrawing) (.ref A.cInvalidRoute) = some false
  m74 : PySem.W.kitOne K (.ref A.cInvalidDrawing) (.ref A.cInvalidStep) = some false
  m75 : PySem.W.kitOne K (.ref A.cInvalidDrawing) (.ref A.cInvalidGrowth) = some false
  m76 : PySem.W.kitOne K (.ref A.cInvalidDrawing) (.ref A.cInvalidPart) = some false
  m77 : PySem.W.kitOne K (.ref A.cInvalidDrawing) (.ref A.cInvalidDrawing) = some true
  m78 : PySem.W.kitOne K (.ref A.cInvalidDrawing) (.ref A.cInvalidModel) = some false
  m79 : PySem.W.kitOne K (.ref A.cInvalidDrawing) (.ref A.cInvalidOperation) = some false
  mp7 : PySem.W.kitOne K (.ref A.cInvalidDrawing) (.ref A.cParseError) = some false
  m80 : PySem.W.kitOne K (.ref A.cInvalidModel) (.ref A.cInvalidPlace) = some false
  m81 : PySem.W.kitOne K (.ref A.cInvalidModel) (.ref A.cInvalidTie) = some false
  m82 : PySem.W.kitOne K (.ref A.cInvalidModel) (.ref A.cInvalidWeb) = some false
  m83 : PySem.W.kitOne K (.ref A.cInvalidModel) (.ref A.cInvalidRoute) = some false
  m84 : PySem.W.kitOne K (.ref A.cInvalidModel) (.ref A.cInvalidStep) = some false
  m85 : PySem.W.kitOne K (.ref A.cInvalidModel) (.ref A.cInvalidGrowth) = some false
  m86 : PySem.W.kitOne K (.ref A.cInvalidModel) (.ref A.cInvalidPart) = some false
  m87 : PySem.W.kitOne K (.ref A.cInvalidModel) (.ref A.cInvalidDrawing) = some false
  m88 : PySem.W.kitOne K (.ref A.cInvalidModel) (.ref A.cInvalidModel) = some true
  m89 : PySem.W.kitOne K (.ref A.cInvalidModel) (.ref A.cInvalidOperation) = some false
  mp8 : PySem.W.kitOne K (.ref A.cInvalidModel) (.ref A.cParseError) = some false
  m90 : PySem.W.kitOne K (.ref A.cInvalidOperation) (.ref A.cInvalidPlace) = some false
  m91 : PySem.W.kitOne K (.ref A.cInvalidOperation) (.ref A.cInvalidTie) = some false
  m92 : PySem.W.kitOne K (.ref A.cInvalidOperation) (.ref A.cInvalidWeb) = some false
  m93 : PySem.W.kitOne K (.ref A.cInvalidOperation) (.ref A.cInvalidRoute) = some false
  m94 : PySem.W.kitOne K (.ref A.cInvalidOperation) (.ref A.cInvalidStep) = some false
  m95 : PySem.W.kitOne K (.ref A.cInvalidOperation) (.ref A.cInvalidGrowth) = some false
  m96 : PySem.W.kitOne K (.ref A.cInvalidOperation) (.ref A.cInvalidPart) = some false
  m97 : PySem.W.kitOne K (.ref A.cInvalidOperation) (.ref A.cInvalidDrawing) = some false
  m98 : PySem.W.kitOne K (.ref A.cInvalidOperation) (.ref A.cInvalidModel) = some false
  m99 : PySem.W.kitOne K (.ref A.cInvalidOperation) (.ref A.cInvalidOperation) = some true
  mp9 : PySem.W.kitOne K (.ref A.cInvalidOperation) (.ref A.cParseError) = some false
structure Exm (K : PySem.W.Frag) (A : Ad) : Prop where
  x_InvalidNumber_InvalidNumber : PySem.W.exmOne K (.ref A.cInvalidNumber) (.ref A.cInvalidNumber) = some true
  x_UnknownName_InvalidNumber : PySem.W.exmOne K (.ref A.cUnknownName) (.ref A.cInvalidNumber) = some false
  x_UnknownName_UnknownName : PySem.W.exmOne K (.ref A.cUnknownName) (.ref A.cUnknownName) = some true
  x_Parted_InvalidNumber : PySem.W.exmOne K (.ref A.cParted) (.ref A.cInvalidNumber) = some false
  x_Parted_UnknownName : PySem.W.exmOne K (.ref A.cParted) (.ref A.cUnknownName) = some false
  x_Parted_Parted : PySem.W.exmOne K (.ref A.cParted) (.ref A.cParted) = some true
  x_NothingToUndo_InvalidNumber : PySem.W.exmOne K (.ref A.cNothingToUndo) (.ref A.cInvalidNumber) = some false
  x_NothingToUndo_UnknownName : PySem.W.exmOne K (.ref A.cNothingToUndo) (.ref A.cUnknownName) = some false
  x_NothingToUndo_Parted : PySem.W.exmOne K (.ref A.cNothingToUndo) (.ref A.cParted) = some false
  x_NothingToUndo_NothingToUndo : PySem.W.exmOne K (.ref A.cNothingToUndo) (.ref A.cNothingToUndo) = some true
  x_TooMany_InvalidNumber : PySem.W.exmOne K (.ref A.cTooMany) (.ref A.cInvalidNumber) = some false
  x_TooMany_UnknownName : PySem.W.exmOne K (.ref A.cTooMany) (.ref A.cUnknownName) = some false
  x_TooMany_Parted : PySem.W.exmOne K (.ref A.cTooMany) (.ref A.cParted) = some false
  x_TooMany_NothingToUndo : PySem.W.exmOne K (.ref A.cTooMany) (.ref A.cNothingToUndo) = some false
  x_TooMany_TooMany : PySem.W.exmOne K (.ref A.cTooMany) (.ref A.cTooMany) = some true
  x_Refused_InvalidNumber : PySem.W.exmOne K (.ref A.cRefused) (.ref A.cInvalidNumber) = some false
  x_Refused_UnknownName : PySem.W.exmOne K (.ref A.cRefused) (.ref A.cUnknownName) = some false
  x_Refused_Parted : PySem.W.exmOne K (.ref A.cRefused) (.ref A.cParted) = some false
  x_Refused_NothingToUndo : PySem.W.exmOne K (.ref A.cRefused) (.ref A.cNothingToUndo) = some false
  x_Refused_TooMany : PySem.W.exmOne K (.ref A.cRefused) (.ref A.cTooMany) = some false
  x_Refused_Refused : PySem.W.exmOne K (.ref A.cRefused) (.ref A.cRefused) = some true
  x_ParseError_InvalidNumber : PySem.W.exmOne K (.ref A.cParseError) (.ref A.cInvalidNumber) = some false
  x_ParseError_UnknownName : PySem.W.exmOne K (.ref A.cParseError) (.ref A.cUnknownName) = some false
  x_ParseError_Parted : PySem.W.exmOne K (.ref A.cParseError) (.ref A.cParted) = some false
  x_ParseError_NothingToUndo : PySem.W.exmOne K (.ref A.cParseError) (.ref A.cNothingToUndo) = some false
  x_ParseError_TooMany : PySem.W.exmOne K (.ref A.cParseError) (.ref A.cTooMany) = some false
  x_ParseError_Refused : PySem.W.exmOne K (.ref A.cParseError) (.ref A.cRefused) = some false
  x_ParseError_ParseError : PySem.W.exmOne K (.ref A.cParseError) (.ref A.cParseError) = some true
  x_InvalidStep_InvalidNumber : PySem.W.exmOne K (.ref A.cInvalidStep) (.ref A.cInvalidNumber) = some false
  x_InvalidStep_UnknownName : PySem.W.exmOne K (.ref A.cInvalidStep) (.ref A.cUnknownName) = some false
  x_InvalidStep_Parted : PySem.W.exmOne K (.ref A.cInvalidStep) (.ref A.cParted) = some false
  x_InvalidStep_NothingToUndo : PySem.W.exmOne K (.ref A.cInvalidStep) (.ref A.cNothingToUndo) = some false
  x_InvalidStep_TooMany : PySem.W.exmOne K (.ref A.cInvalidStep) (.ref A.cTooMany) = some false
  x_InvalidStep_Refused : PySem.W.exmOne K (.ref A.cInvalidStep) (.ref A.cRefused) = some false
  x_InvalidStep_ParseError : PySem.W.exmOne K (.ref A.cInvalidStep) (.ref A.cParseError) = some false
  x_InvalidStep_InvalidStep : PySem.W.exmOne K (.ref A.cInvalidStep) (.ref A.cInvalidStep) = some true
  x_InvalidModel_InvalidNumber : PySem.W.exmOne K (.ref A.cInvalidModel) (.ref A.cInvalidNumber) = some false
  x_InvalidModel_UnknownName : PySem.W.exmOne K (.ref A.cInvalidModel) (.ref A.cUnknownName) = some false
  x_InvalidModel_Parted : PySem.W.exmOne K (.ref A.cInvalidModel) (.ref A.cParted) = some false
  x_InvalidModel_NothingToUndo : PySem.W.exmOne K (.ref A.cInvalidModel) (.ref A.cNothingToUndo) = some false
  x_InvalidModel_TooMany : PySem.W.exmOne K (.ref A.cInvalidModel) (.ref A.cTooMany) = some false
  x_InvalidModel_Refused : PySem.W.exmOne K (.ref A.cInvalidModel) (.ref A.cRefused) = some false
  x_InvalidModel_ParseError : PySem.W.exmOne K (.ref A.cInvalidModel) (.ref A.cParseError) = some false
  x_InvalidModel_InvalidStep : PySem.W.exmOne K (.ref A.cInvalidModel) (.ref A.cInvalidStep) = some false
  x_InvalidModel_WebError : PySem.W.exmOne K (.ref A.cInvalidModel) (.ref A.cWebError) = some true
/-- what the top leaves beside the defs -/
structure Txt (K : PySem.W.Frag) (mg : Str → Option Value) (A : Ad) : Prop where
  n_len : mg "len" = none
  n_int : mg "int" = none
  n_max : mg "max" = none
  n_min : mg "min" = none
  n_abs : mg "abs" = none
  n_isinstance : mg "isinstance" = none
  n_range : mg "range" = none
  n_repr : mg "repr" = none
  n_ValueError : mg "ValueError" = none
  n_LookupError : mg "LookupError" = none
  n_KeyError : mg "KeyError" = none
  n_IndexError : mg "IndexError" = none
  n_RuntimeError : mg "RuntimeError" = none
  n_ArithmeticError : mg "ArithmeticError" = none
  n_OverflowError : mg "OverflowError" = none
  p_WebError : Pl K mg "WebError" A.cWebError
  p_InvalidPlace : Pl K mg "InvalidPlace" A.cInvalidPlace
  p_InvalidTie : Pl K mg "InvalidTie" A.cInvalidTie
  p_InvalidWeb : Pl K mg "InvalidWeb" A.cInvalidWeb
  p_InvalidRoute : Pl K mg "InvalidRoute" A.cInvalidRoute
  p_InvalidStep : Pl K mg "InvalidStep" A.cInvalidStep
  p_InvalidGrowth : Pl K mg "InvalidGrowth" A.cInvalidGrowth
  p_InvalidPart : Pl K mg "InvalidPart" A.cInvalidPart
  p_InvalidDrawing : Pl K mg "InvalidDrawing" A.cInvalidDrawing
  p_InvalidModel : Pl K mg "InvalidModel" A.cInvalidModel
  p_InvalidOperation : Pl K mg "InvalidOperation" A.cInvalidOperation
  o_ParseError : XV.MakeOk K mg "ParseError" "number" A.cParseError
  o_UnknownName : XV.MakeOk K mg "UnknownName" "word" A.cUnknownName
  o_Parted : XV.MakeOk K mg "Parted" "parting" A.cParted
  o_InvalidNumber : XV.MakeOk K mg "InvalidNumber" "value" A.cInvalidNumber
  o_NothingToUndo : XV.MakeOk K mg "NothingToUndo" "many" A.cNothingToUndo
  o_TooMany : XV.MakeOk K mg "TooMany" "limit" A.cTooMany
  o_Refused : XV.MakeOk K mg "Refused" "pledge" A.cRefused
  e_WebError : ExcC K A.cWebError
  e_InvalidPlace : ExcC K A.cInvalidPlace
  e_InvalidTie : ExcC K A.cInvalidTie
  e_InvalidWeb : ExcC K A.cInvalidWeb
  e_InvalidRoute : ExcC K A.cInvalidRoute
  e_InvalidStep : ExcC K A.cInvalidStep
  e_InvalidGrowth : ExcC K A.cInvalidGrowth
  e_InvalidPart : ExcC K A.cInvalidPart
  e_InvalidDrawing : ExcC K A.cInvalidDrawing
  e_InvalidModel : ExcC K A.cInvalidModel
  e_InvalidOperation : ExcC K A.cInvalidOperation
  e_ParseError : ExcC K A.cParseError
  e_UnknownName : ExcC K A.cUnknownName
  e_Parted : ExcC K A.cParted
  e_InvalidNumber : ExcC K A.cInvalidNumber
  e_NothingToUndo : ExcC K A.cNothingToUndo
  e_TooMany : ExcC K A.cTooMany
  e_Refused : ExcC K A.cRefused
  k_WebError : Kn K A.cWebError A.cWebError true true false false false false false false
  k_InvalidPlace : Kn K A.cWebError A.cInvalidPlace true true false false false false false false
  k_InvalidTie : Kn K A.cWebError A.cInvalidTie true true false false false false false false
  k_InvalidWeb : Kn K A.cWebError A.cInvalidWeb true true false false false false false false
  k_InvalidRoute : Kn K A.cWebError A.cInvalidRoute true true false false false false false false
  k_InvalidStep : Kn K A.cWebError A.cInvalidStep true true false false false false false false
  k_InvalidGrowth : Kn K A.cWebError A.cInvalidGrowth true true false false false false false false
  k_InvalidPart : Kn K A.cWebError A.cInvalidPart true true false false false false false false
  k_InvalidDrawing : Kn K A.cWebError A.cInvalidDrawing true true false false false false false false
  k_InvalidModel : Kn K A.cWebError A.cInvalidModel true true false false false false false false
  k_InvalidOperation : Kn K A.cWebError A.cInvalidOperation true true false false false false false false
  k_ParseError : Kn K A.cWebError A.cParseError true true false false false false false false
  k_UnknownName : Kn K A.cWebError A.cUnknownName false false true true false false false false
  k_Parted : Kn K A.cWebError A.cParted false false true false false false false false
  k_InvalidNumber : Kn K A.cWebError A.cInvalidNumber false false true false true false false false
  k_NothingToUndo : Kn K A.cWebError A.cNothingToUndo false false false false false true false false
  k_TooMany : Kn K A.cWebError A.cTooMany false false false false false false true true
  k_Refused : Kn K A.cWebError A.cRefused false false false false false false true false
  mat : Mat K A
  exm : Exm K A
local macro_rules | `(tactic| walk_at "r1") => `(tactic| first | refine ⟨_, rfl, ?_⟩ | refine ⟨_, _, rfl, rfl, ?_⟩ | refine ⟨_, _, rfl, ?_⟩ | refine .inl ⟨_, rfl, ?_⟩ | refine .inr ⟨_, rfl, ?_⟩ | refine ⟨⟨_, rfl⟩, ?_⟩)
local macro_rules | `(tactic| walk_at "rr") => `(tactic| repeat walk_at "r1")
/-! ## Rules and contracts that serve every law with drawn numbers -/
theorem ifT {c : Bool} {A B : Prop} (hc : c = true) (h : A) : if c = true then A else B := by
  rw [if_pos hc]
  exact h
theorem ifF {c : Bool} {A B : Prop} (hc : c = false) (h : B) : if c = true then A else B := by
  rw [hc, if_neg Bool.false_ne_true]
  exact h
/-- a def of the top, as its callers see it -/
def Dfn (P : Program) (w : World) (K : PySem.W.Frag) (mg : Str → Option Value) (base : Heap) (x : Str) (k : Nat) (ps : List Str) (sp : Sp) : Prop :=
  ∃ (f : Addr) (fd : FuncData), mg x = some (.ref f) ∧ PySem.W.keepIn K (.ref f) = true ∧ Binds K fd ps [] ∧ FnOk P w K mg base CX0 k f fd ps sp
theorem Dfn.mk {P : Program} {w : World} {K : PySem.W.Frag} {mg : Str → Option Value} {base : Heap} {x : Str} {k : Nat} {ps : List Str} {sp : Sp} {f : Addr} {fd : FuncData} (m : mg x = some (.ref f)) (kp : PySem.W.keepIn K (.ref f) = true) (b : Binds K fd ps [])
    (h : FnOk P w K mg base CX0 k f fd ps sp) : Dfn P w K mg base x k ps sp := ⟨f, fd, m, kp, b, h⟩
/-- a call of a def of the top -/
theorem pe_d {X : Cx} {x : Str} {k : Nat} {ps : List Str} {sp : Sp} {e : Expr} {es : List Expr} {t : TA} {p pos : Pos} (D : Dfn X.prog X.w X.K X.mg X.base x k ps sp) (hr : Room k X.A) (ha : PA X (e :: es) t) (hg : Gl X x := by rfl)
    (hdb : (x == ("__debug__" : Str)) = false := by decide) (he : starEach (e :: es) X.env = (false, eval e X.env) :: starEach es X.env := by rfl) (hpl : (backTo pos (starEach es X.env)).any (·.1) = false := by rfl) :
    PE X (.Call (.Name x p) (e :: es) [] pos) (tCall sp [] E0 t) := by
  obtain ⟨f, fd, m, kp, b, h⟩ := D
  exact pe_call h hr hg m kp b .nil pass0 ha hdb he hpl
/-- a text times a written number -/
def repS (z : Str) (n : Nat) : Str := ⟨(List.replicate n z.cps).foldl (· ++ ·) #[]⟩
theorem repS_fold (z : Array Nat) : ∀ (n : Nat) (acc : Array Nat), ((List.replicate n z).foldl (· ++ ·) acc).toList = acc.toList ++ (List.replicate n z.toList).flatten
  | 0, acc => by simp
  | n + 1, acc => by
    rw [List.replicate_succ, List.foldl_cons, repS_fold z n, List.replicate_succ, List.flatten_cons, Array.toList_append, List.append_assoc]
theorem repS_list (z : Str) (n : Nat) : (repS z n).cps.toList = (List.replicate n z.cps.toList).flatten := by
  have := repS_fold z.cps n #[]
  show ((List.replicate n z.cps).foldl (· ++ ·) #[]).toList = _
  simpa using this
theorem repS_len (z : Str) (n : Nat) : (repS z n).length = n * z.length := by
  show (repS z n).cps.size = n * z.cps.size
  rw [← Array.length_toList, repS_list]
  simp
theorem op_mulS {X : Cx} : OpR X (binaryOp .Mult) (fun x y H Q => ∃ (z : Str) (n : Nat), x = .str z ∧ y = .int (n : Int) ∧ 2 ≤ n ∧ n < 1000 ∧ 0 < z.length ∧ z.length ≤ 1000 ∧ Q (.str (repS z n)) H) := by
  intro pins s σ H x y v u Q I rx ry h
  obtain ⟨z, n, rfl, rfl, h1, h2, h3, h4, q⟩ := h
  obtain ⟨t, rfl⟩ := rx
  obtain ⟨t', rfl⟩ := ry
  have hn : ¬ (n : Int) < 1 := by omega
  have h5 : ((n : Int) == 1 || z.length == 0) = false := by
    rw [Bool.or_eq_false_iff]
    exact ⟨beq_eq_false_iff_ne.mpr (by omega), beq_eq_false_iff_ne.mpr (by omega)⟩
  refine PySem.P.mul_str ?_ (fun _ _ => ?_) (fun _ _ => ?_) ?_
  · rw [decide_eq_false (show ¬ (n : Int) < -(2 ^ 63 : Int) by omega), decide_eq_false (show ¬ (n : Int) ≥ 2 ^ 63 by omega)]
    rfl
  · have : (1000 : Int) ≤ (2 ^ 63 - 1) / (n : Int) := by
      rw [Int.le_ediv_iff_mul_le (by omega)]
      omega
    omega
  · have h6 : z.length * n ≤ 1000 * 1000 := Nat.mul_le_mul h4 (by omega)
    show PySem.Builtin.Str.tooLong (z.length * (n : Int).toNat) = false
    rw [Int.toNat_natCast]
    unfold PySem.Builtin.Str.tooLong
    refine decide_eq_false ?_
    have : (1000 * 1000 : Nat) ≤ sizeLine := by decide
    omega
  · rw [if_neg hn, if_neg (by rw [h5]; exact Bool.false_ne_true), Int.toNat_natCast]
    refine ⟨?_, ⟨.str _, H, I.tok _, ⟨_, rfl⟩, q⟩⟩
    have h6 : z.length * n ≤ 1000 * 1000 := Nat.mul_le_mul h4 (by omega)
    have h7 : (repS z n).length = n * z.length := repS_len z n
    have : (1000 * 1000 : Nat) ≤ sizeLine := by decide
    show (repS z n).length ≤ sizeLine
    rw [h7, Nat.mul_comm]
    omega

theorem same_new' {H : Hp} {p : Addr} {o : HO} (h : H p = none) : Same H (upd H p o) := fun b u e => by
  rw [upd_ne (ne_of_none e h)]
  exact e
/-- t + u, t empty: u itself -/
theorem op_catT0 {X : Cx} : OpR X (binaryOp .Add) (fun x y H Q => ∃ a b ys, x = .ref a ∧ y = .ref b ∧ SqT X.K H a [] ∧ SqT X.K H b ys ∧ Q (.ref b) H) := by
  intro pins s σ H x y v u Q I rx ry h
  obtain ⟨a, b, ys, rfl, rfl, ha, hb, q⟩ := h
  cases rx
  cases ry
  obtain ⟨its, r1, p1, _⟩ := I.tuple ha
  obtain ⟨its2, r2, p2, _⟩ := I.tuple hb
  cases r1
  obtain ⟨⟨cls, dd, data, sl⟩, ho, hc, n, hd⟩ := id p1
  obtain ⟨⟨cls2, dd2, data2, sl2⟩, ho2, hc2, n2, hd2⟩ := id p2
  simp only at hc hd hc2 hd2
  subst hc hd hc2 hd2
  exact concat_meets ⟨_, ho, rfl⟩ ⟨_, ho2, rfl⟩ noFill_tuple_add seq_tuple_add PySem.F.slot_tuple_add PySem.F.entry_tuple_add (PySem.F.args_tuple_add_2 _ _)
      (tuple_addW0 a b _ its2.toArray n n2 dd dd2 sl sl2 (by simp)) ⟨ho, ho2, ⟨.ref b, H, I, rfl, q⟩⟩
/-- t + u of tuples, u not empty: a tuple of both -/
theorem op_catTT {X : Cx} : OpR X (binaryOp .Add) (fun x y H Q => ∃ a b xs ys, x = .ref a ∧ y = .ref b ∧ H a = some (.tup xs) ∧ H b = some (.tup ys) ∧ ys ≠ [] ∧ xs.length + ys.length ≤ sizeLine ∧
    ∀ q H', Same H H' → H' q = some (.tup (xs ++ ys)) → Q (.ref q) H') := by
  intro pins s σ H x y v u Q I rx ry h
  obtain ⟨a, b, xs, ys, rfl, rfl, ha, hb, hy, hz, q⟩ := h
  by_cases hx : xs = []
  · subst hx
    exact op_catT0 pins s σ H _ _ v u Q I rx ry ⟨a, b, ys, rfl, rfl, SqT.of ha, SqT.of hb, q b H (Same.refl _) hb⟩
  · exact op_catT pins s σ H _ _ v u Q I rx ry ⟨a, b, xs, ys, rfl, rfl, SqT.of ha, SqT.of hb, hx, hz, fun e => absurd e hy, fun _ p hp => q p _ (same_new' hp) upd_same⟩
/-- a comprehension over a text -/
theorem lc_str {x : Str} {g : TG} {tt : TT} {te : TE} {vs : List Nat} {σ : L2.St} {H1 : Hp} {D : Addr} {Qd : Hp → Prop} (Pv : Nat → Hp → Prop) (h0 : Pv 0 (upd H1 D (.lst [])))
    (hs : ∀ i c H, x.cps.toList[i]? = some c → Pv i H → g (.str ⟨#[c]⟩) (wipe σ vs) H fun σ2 H2 => wipe σ2 vs = wipe σ vs ∧ tt σ2 H2 fun b H3 =>
      if b = true then te σ2 H3 fun y H4 => ∃ acc, H4 D = some (.lst acc) ∧ acc.length < sizeLine ∧ Pv (i + 1) (upd H4 D (.lst (acc ++ [y]))) else Pv (i + 1) H3) (hd : ∀ H, Pv x.cps.toList.length H → Qd H) :
    ∃ W : Nat → Nat → Hp → Prop, (∃ m, W 0 m (upd H1 D (.lst []))) ∧ ∀ i m H, W i m H →
      ((Its x).stop i H ∧ Qd H) ∨ ((Its x).go i H ∧ ∃ Nx : Hp → Prop, (∀ H', Nx H' → ∃ m', m' < m ∧ W (i + 1) m' H') ∧ ∀ y H', (Its x).yld i H y H' → g y (wipe σ vs) H' fun σ2 H2 => wipe σ2 vs = wipe σ vs ∧ tt σ2 H2 fun b H3 =>
        if b = true then te σ2 H3 fun y H4 => ∃ acc, H4 D = some (.lst acc) ∧ acc.length < sizeLine ∧ Nx (upd H4 D (.lst (acc ++ [y]))) else Nx H3) := by
  have el : x.cps.toList.length = x.cps.size := Array.length_toList
  refine ⟨fun i m H => m = x.cps.size - i ∧ i ≤ x.cps.size ∧ Pv i H, ⟨x.cps.size, by simp, Nat.zero_le _, h0⟩, ?_⟩
  rintro i m H ⟨rfl, hi, p⟩
  by_cases hlt : i < x.cps.size
  · refine .inr ⟨hlt, Pv (i + 1), fun H' p' => ⟨x.cps.size - (i + 1), by omega, rfl, hlt, p'⟩, fun v H' y => ?_⟩
    obtain ⟨e, c, hc, rfl⟩ := y
    subst e
    exact hs i c _ (by rw [← hc]; simp) p
  · have e : i = x.cps.size := by omega
    subst e
    exact .inl ⟨Nat.le_refl _, hd H (by rw [el]; exact p)⟩
/-! ### the dice -/
def Dice (H : Hp) (d : Addr) : Prop := ∃ a b c : Int, H d = some (.lst [.int a, .int b, .int c])
/-- from H to H': the dice at d may have been rolled; all else that was tracked stands -/
structure Go (d : Addr) (H H' : Hp) : Prop where
  keep : ∀ b o, b ≠ d → H b = some o → H' b = some o
  dice : Dice H' d
theorem Go.refl {d : Addr} {H : Hp} (h : Dice H d) : Go d H H := ⟨fun _ _ _ h => h, h⟩
theorem Go.trans {d : Addr} {H H1 H2 : Hp} (a : Go d H H1) (b : Go d H1 H2) : Go d H H2 := ⟨fun c o n h => b.keep c o n (a.keep c o n h), b.dice⟩
theorem Go.same {d : Addr} {H H1 H2 : Hp} (a : Go d H H1) (b : Same H1 H2) : Go d H H2 := ⟨fun c o n h => b c o (a.keep c o n h), by
  obtain ⟨x, y, z, e⟩ := a.dice
  exact ⟨x, y, z, b _ _ e⟩⟩
theorem same_new {H : Hp} {p : Addr} {o : HO} (h : H p = none) : Same H (upd H p o) := fun b u e => by
  rw [upd_ne (ne_of_none e h)]
  exact e
theorem Go.new {d p : Addr} {H H1 : Hp} {o : HO} (a : Go d H H1) (h : H1 p = none) : Go d H (upd H1 p o) := a.same (same_new h)
theorem Go.roll {d : Addr} {H H1 : Hp} (a : Go d H H1) (x y z : Int) : Go d H (upd H1 d (.lst [.int x, .int y, .int z])) :=
  ⟨fun b o n h => by rw [upd_ne n]; exact a.keep b o n h, x, y, z, upd_same⟩
theorem Go.at_ne {d p : Addr} {H H1 : Hp} (a : Go d H H1) (h : H1 p = none) : p ≠ d := fun e => by
  obtain ⟨x, y, z, e'⟩ := a.dice
  rw [← e, h] at e'
  cases e'
theorem Go.free {d p : Addr} {H H1 : Hp} (a : Go d H H1) (h : H1 p = none) : H p = none := by
  cases e : H p with
  | none => rfl
  | some o => rw [a.keep p o (a.at_ne h) e] at h; cases h
theorem d0 (a b c : V) : atI [a, b, c] 0 = some a := rfl
theorem d1 (a b c : V) : atI [a, b, c] 1 = some b := rfl
theorem d2 (a b c : V) : atI [a, b, c] 2 = some c := rfl
structure spDice (K : PySem.W.Frag) (vs : List V) (H : Hp) (Q : VK) (E : XK) : Prop where
  h : ∃ (s : Addr) (ns : List Int) (i : Nat), SqL K H s (ns.map V.int) ∧ vs = [.ref s, .int i] ∧ ∀ (p : Addr) (a b c : Int), H p = none → Q (.ref p) (upd H p (.lst [.int a, .int b, .int c]))
structure spRoll (vs : List V) (H : Hp) (Q : VK) (E : XK) : Prop where
  h : ∃ (d : Addr) (n : Int), Dice H d ∧ vs = [.ref d, .int n] ∧ CDivW 0 n ∧ ∀ (k : Int) (a b c : Int), 0 ≤ k → k < n → Q (.int k) (upd H d (.lst [.int a, .int b, .int c]))
structure spPick (vs : List V) (H : Hp) (Q : VK) (E : XK) : Prop where
  h : ∃ (d : Addr) (x : V), Dice H d ∧ vs = [.ref d, x] ∧
  ((∃ (l : Addr) (xs : List V), x = .ref l ∧ H l = some (.lst xs) ∧ xs ≠ [] ∧ xs.length ≤ 1000 ∧ l ≠ d ∧ ∀ (y : V) (a b c : Int), y ∈ xs → Q y (upd H d (.lst [.int a, .int b, .int c]))) ∨
   (∃ z : Str, x = .str z ∧ 0 < z.length ∧ z.length ≤ 1000 ∧ ∀ (y : Nat) (a b c : Int), y ∈ z.cps.toList → Q (.str ⟨#[y]⟩) (upd H d (.lst [.int a, .int b, .int c]))))
theorem cdiv_small {n : Int} (h0 : 0 < n) (h : n < 2 ^ 64) : CDivW 0 n := wide_div (b := 64) h0 (by omega) (by decide) (by decide)
theorem fm_lo (m : Int) {k : Int} (hk : 0 < k) : 0 ≤ m.fmod k := by
  rw [Int.fmod_eq_emod_of_nonneg _ (by omega)]
  exact Int.emod_nonneg _ (by omega)
theorem fm_hi (m : Int) {k : Int} (hk : 0 < k) : m.fmod k < k := by
  rw [Int.fmod_eq_emod_of_nonneg _ (by omega)]
  exact Int.emod_lt_of_pos _ hk
theorem fm_mul (m : Int) {k : Int} (j : Int) (hk : 0 < k) (h : k ≤ 2 ^ 64) : CMul (m.fmod k) j := .inl ⟨by have := fm_lo m hk; omega, by have := fm_hi m hk; omega⟩
theorem ten120 : (10 : Int) ^ Int.toNat 60 * 10 ^ Int.toNat 60 ≠ 0 := by decide +kernel
theorem size3 : (3 : Nat) ≤ sizeLine := by decide
theorem q_bl {Q : VK} {H : Hp} {a b : Bool} (e : a = b) (k : Q (.bl b) H) : Q (.bl a) H := by
  rw [e]
  exact k
theorem take_more {α : Type} : ∀ {l : List α} {i : Nat} {x : α}, l[i]? = some x → l.take (i + 1) = l.take i ++ [x]
  | [], i, x, h => by simp at h
  | a :: l, 0, x, h => by
    have e : a = x := Option.some.inj h
    subst e
    rfl
  | a :: l, i + 1, x, h => by
    have ih := take_more (l := l) (i := i) (x := x) h
    show a :: l.take (i + 1) = a :: l.take i ++ [x]
    rw [ih]
    rfl
theorem same_own {H H' : Hp} {D : Addr} {o : HO} (h : Same H H') (hD : H D = none) : Same H (upd H' D o) := fun b u e => by
  rw [upd_ne (ne_of_none e hD)]
  exact h b u e
theorem line1000 : (1000 : Nat) < sizeLine := by decide
theorem roll_go {d : Addr} {H : Hp} {n : Int} {Q : VK} {E : XK} (hd : Dice H d) (h0 : 0 < n) (h1 : n < 2 ^ 64) (k : ∀ (j : Int) (H' : Hp), 0 ≤ j → j < n → Go d H H' → Q (.int j) H') : spRoll [.ref d, .int n] H Q E :=
  ⟨d, n, hd, rfl, cdiv_small h0 h1, fun j a b c g0 g1 => k j _ g0 g1 ((Go.refl hd).roll a b c)⟩
theorem pick_at {d l : Addr} {H : Hp} {xs : List V} {Q : VK} {E : XK} (hd : Dice H d) (hl : H l = some (.lst xs)) (hld : l ≠ d) (hne : xs ≠ []) (hn : xs.length ≤ 1000) (k : ∀ (y : V) (H' : Hp), y ∈ xs → Go d H H' → Q y H') : spPick [.ref d, .ref l] H Q E :=
  ⟨d, _, hd, rfl, .inl ⟨l, xs, rfl, hl, hne, hn, hld, fun y a b c hy => k y _ hy ((Go.refl hd).roll a b c)⟩⟩
theorem pick_new {d p : Addr} {H : Hp} {xs : List V} {Q : VK} {E : XK} (hd : Dice H d) (hp : H p = none) (hne : xs ≠ []) (hn : xs.length ≤ 1000) (k : ∀ (y : V) (H' : Hp), y ∈ xs → Go d H H' → Q y H') : spPick [.ref d, .ref p] (upd H p (.lst xs)) Q E :=
  pick_at ((Go.refl hd).new hp).dice upd_same ((Go.refl hd).at_ne hp) hne hn fun y H' hy g => k y H' hy (((Go.refl hd).new hp).trans g)
theorem pick_str {d : Addr} {H : Hp} {z : Str} {Q : VK} {E : XK} (hd : Dice H d) (h0 : 0 < z.length) (hn : z.length ≤ 1000) (k : ∀ (y : Nat) (H' : Hp), y ∈ z.cps.toList → Go d H H' → Q (.str ⟨#[y]⟩) H') : spPick [.ref d, .str z] H Q E :=
  ⟨d, _, hd, rfl, .inr ⟨z, rfl, h0, hn, fun y a b c hy => k y _ hy ((Go.refl hd).roll a b c)⟩⟩
/-- a store to an object that is newer than H -/
theorem Go.own {d D : Addr} {H H' : Hp} {o : HO} (a : Go d H H') (hD : H D = none) (hDd : D ≠ d) : Go d H (upd H' D o) :=
  ⟨fun b u hb e => by
    rw [upd_ne (ne_of_none e hD)]
    exact a.keep b u hb e, by
    obtain ⟨x, y, z, e⟩ := a.dice
    exact ⟨x, y, z, by rw [upd_ne hDd.symm]; exact e⟩⟩
/-- both ways lead on to the same -/
theorem ite_on {c : Bool} {A B N : Prop} (h1 : c = true → N → A) (h2 : c = false → N → B) (hN : N) : if c = true then A else B := by
  cases hc : c with
  | true => exact iteT (h1 hc hN)
  | false => exact iteF (h2 hc hN)
section
variable {A0 : Ad} {P : Program} {w : World} {K : PySem.W.Frag} {mg : Str → Option Value} {base : Heap}
theorem sc_dice : FnScope ["script", "spot", "cell", "left"] ["script", "spot"] (defScope s_law_dice) := ⟨rfl, rfl, rfl, by decide +kernel, rfl, by decide +kernel, by decide +kernel⟩
theorem ok_law_dice {f : Addr} {fd : FuncData} (F : Fun K "_law_dice" "_law_dice" s_law_dice f fd) (T : Txt K mg A0) : FnOk P w K mg base CX0 1 f fd ["script", "spot"] (spDice K) := by
  refine F.ok sc_dice (fun vs H Q E h => ?_) (fun cdv A outer s H vs Q E hr h => ?_)
  · obtain ⟨a, ns, i, _, rfl, _⟩ := h
    rfl
  · obtain ⟨a, ns, i, hS, rfl, k⟩ := h
    refine ⟨_, pss_cons (ps_set (i := 2) sc_dice.nd rfl (Or.inl rfl) (pe_ifExp (pt_cmpR op_lt (pv 1) (pe_callB call_len (by rfl) T.n_len (by decide +kernel) (pa_cons (pv 0) pa_nil)) (nomark _))
          (pe_callTy call_int1 (by rfl) T.n_int (by decide +kernel) (pa_cons (pe_ix ix_list (pv 0) (pv 1) (fun _ _ => rfl)) pa_nil))
          (pe_op op_add (pe_op op_mul pe_int (pv 1)) pe_int)))
      (pss_cons (ps_set (i := 3) sc_dice.nd rfl (Or.inl rfl) (pe_op op_modN
          (pe_callB (call_max2 rfl) (by rfl) T.n_max (by decide +kernel) (pa_cons pe_int (pa_cons (pe_op op_sub (pe_callB call_abs (by rfl) T.n_abs (by decide +kernel) (pa_cons (pv 2) pa_nil)) (pe_op op_pow pe_int pe_int)) pa_nil)))
          (pe_op op_mulW (pe_op op_pow pe_int pe_int) (pe_op op_pow pe_int pe_int))))
      (pss_one (ps_ret (pe_lst (pa_cons (pv 3) (pa_cons
          (pe_op op_add (pe_op op_add (pe_op op_add (pe_op op_mul (pe_op op_modN (pe_callB call_abs (by rfl) T.n_abs (by decide +kernel) (pa_cons (pv 2) pa_nil)) pe_int) pe_int) (pe_op op_mul pe_int (pv 1)))
            (pe_op op_mul pe_int (pe_callTy call_int1 (by rfl) T.n_int (by decide +kernel) (pa_cons (pe_cmpR op_lt (pv 2) pe_int (nomark _)) pa_nil)))) pe_int) (pa_cons pe_int pa_nil))))))), ?_⟩
    -- what stands behind the first row, for any cell
    have key : ∀ m : Int, ∃ r : Int, (m.fmod 1152921504606846883) = r ∧ 0 ≤ r ∧ r < 1152921504606846883 := fun m => ⟨_, rfl, by rw [Int.fmod_eq_emod_of_nonneg _ (by decide)]; exact Int.emod_nonneg _ (by decide), by rw [Int.fmod_eq_emod_of_nonneg _ (by decide)]; exact Int.emod_lt_of_pos _ (by decide)⟩
    refine ⟨_, rfl, _, rfl, _, _, rfl, .inl ⟨_, hS, rfl⟩, _, _, rfl, rfl, _, rfl, ?_⟩
    refine ite2 (fun hc => ?x) (fun hc => ?y)
    case' x =>
      have hi : i < ns.length := by
        have h1 : i < (List.map V.int ns).length := by
          have := of_decide_eq_true hc
          omega
        rwa [List.length_map] at h1
      have hx : (ns.map V.int)[i]? = some (.int ns[i]) := by
        rw [List.getElem?_map, List.getElem?_eq_getElem hi]
        rfl
      refine ⟨_, rfl, _, rfl, a, _, _, _, rfl, rfl, hS, atI_nat hx, .inl ⟨_, rfl, ?_⟩⟩
    case' y =>
      refine ⟨_, rfl, _, _, rfl, rfl, .inl ⟨by decide, by decide⟩, _, _, rfl, rfl, ?_⟩
    all_goals
      clear hc
      refine ⟨_, rfl, _, rfl, _, _, rfl, rfl, ⟨by decide, by decide, by decide⟩, ?_⟩
      walk_at "rr"
      refine ⟨⟨by decide, by decide, by decide⟩, _, _, rfl, rfl, ⟨by decide, by decide, by decide⟩, _, _, rfl, rfl, wide_mul (a := 200) (b := 200) (by decide) (by decide) (by decide) (by decide) (by decide), _, _, rfl, rfl, ten120, ?_⟩
      walk_at "rr"
      refine ⟨(by decide : (1152921504606846883 : Int) ≠ 0), ?_⟩
      walk_at "rr"
      refine ⟨fm_mul _ _ (by decide) (by decide), ?_⟩
      walk_at "rr"
      refine ⟨.inl ⟨by decide, by decide⟩, ?_⟩
      walk_at "rr"
      refine ⟨.inl ⟨by decide, by decide⟩, ?_⟩
      walk_at "rr"
      exact ⟨size3, fun p hp => k p _ _ _ hp⟩
theorem sc_roll : FnScope ["dice", "total", "found", "one", "two"] ["dice", "total"] (defScope s_law_roll) := ⟨rfl, rfl, rfl, by decide +kernel, rfl, by decide +kernel, by decide +kernel⟩
theorem ok_law_roll {f : Addr} {fd : FuncData} (F : Fun K "_law_roll" "_law_roll" s_law_roll f fd) (T : Txt K mg A0) : FnOk P w K mg base CX0 1 f fd ["dice", "total"] spRoll := by
  refine F.ok sc_roll (fun vs H Q E h => ?_) (fun cdv A outer s H vs Q E hr h => ?_)
  · obtain ⟨d, n, _, rfl, _⟩ := h
    rfl
  · obtain ⟨d, n, ⟨a, b, c, hd⟩, rfl, hn, k⟩ := h
    have hn0 : 0 < n := hn.1
    refine ⟨_, pss_cons (ps_if (pt_cmpR op_gt (pe_ix ix_list (pv 0) pe_int (fun _ _ => rfl)) pe_int (nomark _))
        (pss_cons (ps_set (i := 2) sc_roll.nd rfl (Or.inl rfl) (pe_op op_modN (pe_callTy call_int1 (by rfl) T.n_int (by decide +kernel) (pa_cons (pe_ix ix_list (pv 0) pe_int (fun _ _ => rfl)) pa_nil)) (pv 1)))
        (pss_cons (ps_asg (pe_op op_fdivW (pe_ix ix_list (pv 0) pe_int (fun _ _ => rfl)) (pv 1)) (pg_sub (pv 0) pe_int set_list))
        (pss_one (ps_ret (pv 2))))) pss_nil)
      (pss_cons (ps_asg (pe_op op_add (pe_ix ix_list (pv 0) pe_int (fun _ _ => rfl)) pe_int) (pg_sub (pv 0) pe_int set_list))
      (pss_cons (ps_set (i := 3) sc_roll.nd rfl (Or.inl rfl) (pe_op op_modN (pe_callTy call_int1 (by rfl) T.n_int (by decide +kernel) (pa_cons (pe_op op_add (pe_ix ix_list (pv 0) pe_int (fun _ _ => rfl)) (pe_op op_mul pe_int (pe_ix ix_list (pv 0) pe_int (fun _ _ => rfl)))) pa_nil)) pe_int))
      (pss_cons (ps_set (i := 4) sc_roll.nd rfl (Or.inl rfl) (pe_op op_add (pe_op op_mul (pe_op op_modN (pe_callTy call_int1 (by rfl) T.n_int (by decide +kernel) (pa_cons (pe_op op_add (pe_op op_mul (pv 3) (pv 3)) (pe_op op_mul pe_int (pe_ix ix_list (pv 0) pe_int (fun _ _ => rfl)))) pa_nil)) pe_int) pe_int) (pv 3)))
      (pss_one (ps_ret (pe_op op_modN (pe_callTy call_int1 (by rfl) T.n_int (by decide +kernel) (pa_cons (pe_op op_fdivN (pv 4) pe_int) pa_nil)) (pv 1))))))), ?_⟩
    walk_at "rr"
    refine ⟨_, _, _, _, rfl, rfl, SqL.of hd, d0 _ _ _, ?_⟩
    walk_at "rr"
    refine ite2 (fun hc => ?_) (fun hc => ?_)
    · walk_at "rr"
      refine ⟨_, _, _, _, rfl, rfl, SqL.of hd, d0 _ _ _, ?_⟩
      walk_at "rr"
      refine ⟨by show n ≠ 0; omega, ?_⟩
      walk_at "rr"
      refine ⟨_, _, _, _, rfl, rfl, SqL.of hd, d0 _ _ _, ?_⟩
      walk_at "rr"
      refine ⟨hn, ?_⟩
      walk_at "rr"
      refine ⟨d, _, _, 0, rfl, rfl, hd, rfl, ?_⟩
      walk_at "rr"
      exact k _ _ _ _ (fm_lo _ hn0) (fm_hi _ hn0)
    · walk_at "rr"
      refine ⟨_, _, _, _, rfl, rfl, SqL.of hd, d2 _ _ _, ?_⟩
      walk_at "rr"
      refine ⟨d, _, _, 2, rfl, rfl, hd, rfl, ?_⟩
      have hd' : (upd H d (.lst ([V.int a, V.int b, V.int c].set 2 (V.int (c + 1))))) d = some (.lst [V.int a, V.int b, V.int (c + 1)]) := upd_same
      walk_at "rr"
      refine ⟨_, _, _, _, rfl, rfl, SqL.of hd', d1 _ _ _, ?_⟩
      walk_at "rr"
      refine ⟨_, _, _, _, rfl, rfl, SqL.of hd', d2 _ _ _, ?_⟩
      walk_at "rr"
      refine ⟨.inl ⟨by decide, by decide⟩, ?_⟩
      walk_at "rr"
      refine ⟨(by decide : (2305843009213693921 : Int) ≠ 0), ?_⟩
      walk_at "rr"
      refine ⟨fm_mul _ _ (by decide) (by decide), ?_⟩
      walk_at "rr"
      refine ⟨_, _, _, _, rfl, rfl, SqL.of hd', d2 _ _ _, ?_⟩
      walk_at "rr"
      refine ⟨.inl ⟨by decide, by decide⟩, ?_⟩
      walk_at "rr"
      refine ⟨(by decide : (2305843009213693907 : Int) ≠ 0), ?_⟩
      walk_at "rr"
      refine ⟨fm_mul _ _ (by decide) (by decide), ?_⟩
      walk_at "rr"
      refine ⟨⟨by decide, by decide⟩, ?_⟩
      walk_at "rr"
      refine ⟨by show n ≠ 0; omega, ?_⟩
      exact k _ _ _ _ (fm_lo _ hn0) (fm_hi _ hn0)
theorem sc_pick : FnScope ["dice", "items"] ["dice", "items"] (defScope s_law_pick) := ⟨rfl, rfl, rfl, by decide +kernel, rfl, by decide +kernel, by decide +kernel⟩
theorem ok_law_pick {f : Addr} {fd : FuncData} (F : Fun K "_law_pick" "_law_pick" s_law_pick f fd) (T : Txt K mg A0) (DR : Dfn P w K mg base "_law_roll" 1 ["dice", "total"] spRoll) : FnOk P w K mg base CX0 2 f fd ["dice", "items"] spPick := by
  refine F.ok sc_pick (fun vs H Q E h => ?_) (fun cdv A outer s H vs Q E hr h => ?_)
  · obtain ⟨d, x, _, rfl, _⟩ := h
    rfl
  · obtain ⟨d, x, hd, rfl, k⟩ := h
    refine ⟨_, pss_one (ps_ret (pe_ix ix_seq (pv 1) (pe_d DR hr (pa_cons (pv 0) (pa_cons (pe_callB call_len (by rfl) T.n_len (by decide +kernel) (pa_cons (pv 1) pa_nil)) pa_nil))) (fun _ _ => rfl))), ?_⟩
    rcases k with ⟨l, xs, rfl, hl, hne, hlen, hld, k⟩ | ⟨z, rfl, hz, hz2, k⟩
    · walk_at "rr"
      have h0 : 0 < xs.length := List.length_pos_iff.mpr hne
      refine ⟨_, xs.length, rfl, .inl ⟨xs, SqL.of hl, rfl⟩, ?_⟩
      refine ⟨d, _, hd, rfl, cdiv_small (by omega) (by omega), fun j a b c h1 h2 => ?_⟩
      obtain ⟨m, rfl⟩ : ∃ m : Nat, j = m := ⟨j.toNat, by omega⟩
      have hm : m < xs.length := by omega
      exact .inl ⟨l, xs, _, _, rfl, rfl, SqL.of (by rw [upd_ne hld]; exact hl), atI_nat (List.getElem?_eq_getElem hm), k _ _ _ _ (List.getElem_mem hm)⟩
    · walk_at "rr"
      have hs : (1000 : Nat) ≤ sizeLine := by decide
      refine ⟨_, z.length, rfl, ⟨by omega, rfl⟩, ?_⟩
      refine ⟨d, _, hd, rfl, cdiv_small (by omega) (by omega), fun j a b c h1 h2 => ?_⟩
      obtain ⟨m, rfl⟩ : ∃ m : Nat, j = m := ⟨j.toNat, by omega⟩
      have hm : m < z.cps.toList.length := by rw [Array.length_toList]; show m < z.length; omega
      exact .inr (.inr ⟨z, _, _, rfl, rfl, by omega, atI_nat (List.getElem?_eq_getElem hm), k _ _ _ _ (List.getElem_mem hm)⟩)
end
/-! ### the kinds of an error -/
theorem ps_imp {X : Cx} {st : Stmt} {t t' : TS} (h : PS X st t) (f : ∀ D σ H, t' D σ H → t D σ H) : PS X st t' := ⟨fun pins s σ H D I q => h.run pins s σ H D I (f D σ H q)⟩
theorem pe_imp {X : Cx} {e : Expr} {t t' : TE} (h : PE X e t) (f : ∀ σ H Q, t' σ H Q → t σ H Q) : PE X e t' := ⟨fun pins s σ H Q I q => h.run pins s σ H Q I (f σ H Q q)⟩
theorem upd_id {H : Hp} {q : Addr} {o : HO} (h : H q = some o) : upd H q o = H := by
  funext b
  by_cases e : b = q
  · subst e
    rw [upd_same, h]
  · rw [upd_ne e]
def tKind (K : PySem.W.Frag) (cv : Value) (nm : Str) : TS := fun D σ H => ∃ v q C b acc, σ[0]? = some (some v) ∧ σ[1]? = some (some (.ref q)) ∧ ExP H v C ∧ ExcC K C ∧ PySem.W.kitOne K (.ref C) cv = some b ∧ H q = some (.lst acc) ∧ acc.length ≤ 100 ∧
  D.nx σ (upd H q (.lst (acc ++ if b = true then [.str nm] else [])))
theorem ps_kind {X : Cx} {x1 x2 x3 nm : Str} {c : V} {cv : Value} {p1 p2 p3 p4 p5 p6 p7 p8 p9 pb : Pos} {j : Nat} (hc : PE X (.Name x3 p9) (tC c)) (hcv : ClsV c cv) (gi : Gl X "isinstance") (mi : X.mg "isinstance" = none)
    (h0 : PE X (.Name x1 p2) (tVar 0)) (h1 : PE X (.Name x2 p4) (tVar 1)) (hli : (p5.endLine == pb.line) = true := by rfl) :
    PS X (.If (.Call (.Name "isinstance" p1) [.Name x1 p2, .Name x3 p9] [] p3) [.Expr (.Call (.Attribute (.Name x2 p4) "append" p5) [.Constant (.str nm) j p6] [] pb) p7] [] p8) (tKind X.K cv nm) := by
  refine ps_imp (ps_if (pt_val (pe_callB call_isX gi mi (by decide +kernel) (pa_cons h0 (pa_cons hc pa_nil)))) (pss_one (ps_expr (pe_bm PySem.F.plainAttrs_list PySem.F.slot_list_append PySem.F.type_list_append mt_append h1 (pa_cons pe_str pa_nil) (hline := hli)))) pss_nil) ?_
  rintro D σ H ⟨v, q, C, b, acc, s0, s1, hx, he, hk, hq, hl, hD⟩
  refine ⟨v, s0, v, c, C, cv, b, rfl, hx, he, hcv, hk, ?_⟩
  cases b with
  | true =>
    refine ⟨true, rfl, ifT rfl ?_⟩
    refine ⟨_, s1, .inl ⟨rfl, _, SqL.of hq⟩, ?_⟩
    refine ⟨q, _, _, rfl, rfl, hq, by have := line1000; omega, ?_⟩
    exact hD
  | false =>
    refine ⟨false, rfl, ifF rfl ?_⟩
    rw [if_neg Bool.false_ne_true, List.append_nil, upd_id hq] at hD
    exact hD
/-- the words of the kinds -/
def kWords (b0 b1 b2 b3 b4 b5 b6 b7 : Bool) : List V :=
  (((((((([] ++ if b0 = true then [V.str "web"] else []) ++ if b1 = true then [V.str "value"] else []) ++ if b2 = true then [V.str "lookup"] else []) ++ if b3 = true then [V.str "key"] else []) ++ if b4 = true then [V.str "index"] else []) ++ if b5 = true then [V.str "runtime"] else []) ++ if b6 = true then [V.str "arithmetic"] else []) ++ if b7 = true then [V.str "overflow"] else [])
structure spKinds (K : PySem.W.Frag) (A : Ad) (vs : List V) (H : Hp) (Q : VK) (E : XK) : Prop where
  h : ∃ v C b0 b1 b2 b3 b4 b5 b6 b7, ExP H v C ∧ vs = [v] ∧ ExcC K C ∧ Kn K A.cWebError C b0 b1 b2 b3 b4 b5 b6 b7 ∧ ∀ q, H q = none → Q (.ref q) (upd H q (.lst (kWords b0 b1 b2 b3 b4 b5 b6 b7)))
section
variable {A0 : Ad} {P : Program} {w : World} {K : PySem.W.Frag} {mg : Str → Option Value} {base : Heap}
theorem sc_kinds : FnScope ["error", "found"] ["error"] (defScope s_law_kinds_of) := ⟨rfl, rfl, rfl, by decide +kernel, rfl, by decide +kernel, by decide +kernel⟩
theorem upd_upd {H : Hp} {q : Addr} {o u : HO} : upd (upd H q o) q u = upd H q u := by
  funext b
  by_cases e : b = q
  · subst e
    rw [upd_same, upd_same]
  · rw [upd_ne e, upd_ne e, upd_ne e]
theorem ok_law_kinds_of {f : Addr} {fd : FuncData} (F : Fun K "_law_kinds_of" "_law_kinds_of" s_law_kinds_of f fd) (T : Txt K mg A0) : FnOk P w K mg base CX0 1 f fd ["error"] (spKinds K A0) := by
  refine F.ok sc_kinds (fun vs H Q E h => ?_) (fun cdv A outer s H vs Q E hr h => ?_)
  · obtain ⟨v, C, b0, b1, b2, b3, b4, b5, b6, b7, _, rfl, _⟩ := h
    rfl
  · obtain ⟨v, C, b0, b1, b2, b3, b4, b5, b6, b7, hx, rfl, he, hk, k⟩ := h
    refine ⟨_, pss_cons (ps_set (i := 1) sc_kinds.nd rfl (Or.inl rfl) (pe_lst pa_nil))
      (pss_cons (ps_kind (c := .ref A0.cWebError) (pe_glob (by rfl) T.p_WebError.g rfl) (.own _) (by rfl) T.n_isinstance (pv 0) (pv 1))
      (pss_cons (ps_kind (c := .ty "ValueError") (pe_bltn (by rfl) T.n_ValueError (by decide +kernel) rfl) (.ty _) (by rfl) T.n_isinstance (pv 0) (pv 1))
      (pss_cons (ps_kind (c := .ty "LookupError") (pe_bltn (by rfl) T.n_LookupError (by decide +kernel) rfl) (.ty _) (by rfl) T.n_isinstance (pv 0) (pv 1))
      (pss_cons (ps_kind (c := .ty "KeyError") (pe_bltn (by rfl) T.n_KeyError (by decide +kernel) rfl) (.ty _) (by rfl) T.n_isinstance (pv 0) (pv 1))
      (pss_cons (ps_kind (c := .ty "IndexError") (pe_bltn (by rfl) T.n_IndexError (by decide +kernel) rfl) (.ty _) (by rfl) T.n_isinstance (pv 0) (pv 1))
      (pss_cons (ps_kind (c := .ty "RuntimeError") (pe_bltn (by rfl) T.n_RuntimeError (by decide +kernel) rfl) (.ty _) (by rfl) T.n_isinstance (pv 0) (pv 1))
      (pss_cons (ps_kind (c := .ty "ArithmeticError") (pe_bltn (by rfl) T.n_ArithmeticError (by decide +kernel) rfl) (.ty _) (by rfl) T.n_isinstance (pv 0) (pv 1))
      (pss_cons (ps_kind (c := .ty "OverflowError") (pe_bltn (by rfl) T.n_OverflowError (by decide +kernel) rfl) (.ty _) (by rfl) T.n_isinstance (pv 0) (pv 1))
      (pss_one (ps_ret (pv 1))))))))))), ?_⟩
    refine ⟨by decide, fun q hq => ?_⟩
    have S : ∀ l : List V, Same H (upd H q (.lst l)) := fun l => same_new hq
    have g : ∀ (l1 l2 : List V), upd (upd H q (.lst l1)) q (.lst l2) = upd H q (.lst l2) := fun _ _ => upd_upd
    have L : ∀ (b : Bool) (s : Str) (l : List V) (n : Nat), l.length ≤ n → (l ++ if b = true then [V.str s] else []).length ≤ n + 1 := fun b s l n hl => by
      cases b
      · rw [if_neg Bool.false_ne_true, List.append_nil]; omega
      · rw [if_pos rfl, List.length_append, List.length_singleton]; omega
    refine ⟨v, q, C, b0, [], rfl, rfl, hx.same (S _), he, hk.k0, upd_same, by decide, ?_⟩
    rw [g]
    refine ⟨v, q, C, b1, _, rfl, rfl, hx.same (S _), he, hk.k1, upd_same, Nat.le_trans (L _ _ _ 0 (by decide)) (by decide), ?_⟩
    rw [g]
    refine ⟨v, q, C, b2, _, rfl, rfl, hx.same (S _), he, hk.k2, upd_same, Nat.le_trans (L _ _ _ 1 (L _ _ _ 0 (by decide))) (by decide), ?_⟩
    rw [g]
    refine ⟨v, q, C, b3, _, rfl, rfl, hx.same (S _), he, hk.k3, upd_same, Nat.le_trans (L _ _ _ 2 (L _ _ _ 1 (L _ _ _ 0 (by decide)))) (by decide), ?_⟩
    rw [g]
    refine ⟨v, q, C, b4, _, rfl, rfl, hx.same (S _), he, hk.k4, upd_same, Nat.le_trans (L _ _ _ 3 (L _ _ _ 2 (L _ _ _ 1 (L _ _ _ 0 (by decide))))) (by decide), ?_⟩
    rw [g]
    refine ⟨v, q, C, b5, _, rfl, rfl, hx.same (S _), he, hk.k5, upd_same, Nat.le_trans (L _ _ _ 4 (L _ _ _ 3 (L _ _ _ 2 (L _ _ _ 1 (L _ _ _ 0 (by decide)))))) (by decide), ?_⟩
    rw [g]
    refine ⟨v, q, C, b6, _, rfl, rfl, hx.same (S _), he, hk.k6, upd_same, Nat.le_trans (L _ _ _ 5 (L _ _ _ 4 (L _ _ _ 3 (L _ _ _ 2 (L _ _ _ 1 (L _ _ _ 0 (by decide))))))) (by decide), ?_⟩
    rw [g]
    refine ⟨v, q, C, b7, _, rfl, rfl, hx.same (S _), he, hk.k7, upd_same, Nat.le_trans (L _ _ _ 6 (L _ _ _ 5 (L _ _ _ 4 (L _ _ _ 3 (L _ _ _ 2 (L _ _ _ 1 (L _ _ _ 0 (by decide)))))))) (by decide), ?_⟩
    rw [g]
    refine ⟨_, rfl, ?_⟩
    exact k q hq
end
/-! ### one error of each class that takes a text -/
def plainA (A : Ad) : List Addr := [A.cInvalidPlace, A.cInvalidTie, A.cInvalidWeb, A.cInvalidRoute, A.cInvalidStep, A.cInvalidGrowth, A.cInvalidPart, A.cInvalidDrawing, A.cInvalidModel, A.cInvalidOperation]
def Errs (A : Ad) (H : Hp) (es : List V) : Prop := Paired (fun v C => ExP H v C) es (plainA A)
structure spPlain (A : Ad) (vs : List V) (H : Hp) (Q : VK) (E : XK) : Prop where
  h : vs = [] ∧ ∀ q H' es, Same H H' → H' q = some (.lst es) → Errs A H' es → Q (.ref q) H'
section
variable {A0 : Ad} {P : Program} {w : World} {K : PySem.W.Frag} {mg : Str → Option Value} {base : Heap}
theorem sc_plain : FnScope ["some"] [] (defScope s_law_plain_errors) := ⟨rfl, rfl, rfl, by decide +kernel, rfl, by decide +kernel, by decide +kernel⟩
theorem ok_law_plain_errors {f : Addr} {fd : FuncData} (F : Fun K "_law_plain_errors" "_law_plain_errors" s_law_plain_errors f fd) (T : Txt K mg A0) : FnOk P w K mg base CX0 1 f fd [] (spPlain A0) := by
  refine F.ok sc_plain (fun vs H Q E h => ?_) (fun cdv A outer s H vs Q E hr h => ?_)
  · obtain ⟨rfl, _⟩ := h
    rfl
  · obtain ⟨rfl, k⟩ := h
    refine ⟨_, pss_cons (ps_set (i := 0) sc_plain.nd rfl (Or.inl rfl) (pe_lst (pa_cons (pe_exc1 PySem.F.excBase_ValueError T.p_InvalidPlace.q T.p_InvalidPlace.g T.p_InvalidPlace.k (by rfl) pe_str) (pa_cons (pe_exc1 PySem.F.excBase_ValueError T.p_InvalidTie.q T.p_InvalidTie.g T.p_InvalidTie.k (by rfl) pe_str) (pa_cons (pe_exc1 PySem.F.excBase_ValueError T.p_InvalidWeb.q T.p_InvalidWeb.g T.p_InvalidWeb.k (by rfl) pe_str) (pa_cons (pe_exc1 PySem.F.excBase_ValueError T.p_InvalidRoute.q T.p_InvalidRoute.g T.p_InvalidRoute.k (by rfl) pe_str) (pa_cons (pe_exc1 PySem.F.excBase_ValueError T.p_InvalidStep.q T.p_InvalidStep.g T.p_InvalidStep.k (by rfl) pe_str) (pa_cons (pe_exc1 PySem.F.excBase_ValueError T.p_InvalidGrowth.q T.p_InvalidGrowth.g T.p_InvalidGrowth.k (by rfl) pe_str) pa_nil))))))))
      (pss_one (ps_ret (pe_op op_cat (pv 0) (pe_lst (pa_cons (pe_exc1 PySem.F.excBase_ValueError T.p_InvalidPart.q T.p_InvalidPart.g T.p_InvalidPart.k (by rfl) pe_str) (pa_cons (pe_exc1 PySem.F.excBase_ValueError T.p_InvalidDrawing.q T.p_InvalidDrawing.g T.p_InvalidDrawing.k (by rfl) pe_str) (pa_cons (pe_exc1 PySem.F.excBase_ValueError T.p_InvalidModel.q T.p_InvalidModel.g T.p_InvalidModel.k (by rfl) pe_str) (pa_cons (pe_exc1 PySem.F.excBase_ValueError T.p_InvalidOperation.q T.p_InvalidOperation.g T.p_InvalidOperation.k (by rfl) pe_str) pa_nil)))))))), ?_⟩
    intro a0 h0
    intro a1 h1
    intro a2 h2
    intro a3 h3
    intro a4 h4
    intro a5 h5
    refine ⟨(by decide : 6 ≤ sizeLine), fun p hp => ?_⟩
    refine ⟨_, rfl, ?_⟩
    intro a6 h6
    intro a7 h7
    intro a8 h8
    intro a9 h9
    refine ⟨(by decide : 4 ≤ sizeLine), fun q hq => ?_⟩
    have hpp := (same_new (o := .lst [.ref a6, .ref a7, .ref a8, .ref a9]) hq) p _ ((same_new (o := ExO (.ref A0.cInvalidOperation) a9) h9) p _ ((same_new (o := ExO (.ref A0.cInvalidModel) a8) h8) p _ ((same_new (o := ExO (.ref A0.cInvalidDrawing) a7) h7) p _ ((same_new (o := ExO (.ref A0.cInvalidPart) a6) h6) p _ upd_same))))
    refine ⟨p, q, _, _, rfl, rfl, hpp, upd_same, (by decide : 6 + 4 ≤ sizeLine), fun r hr2 => ?_⟩
    refine k r _ _ ((same_new h0).trans ((same_new h1).trans ((same_new h2).trans ((same_new h3).trans ((same_new h4).trans ((same_new h5).trans ((same_new hp).trans ((same_new h6).trans ((same_new h7).trans ((same_new h8).trans ((same_new h9).trans ((same_new hq).trans (same_new hr2))))))))))))) upd_same ?_
    refine .cons ?_ (.cons ?_ (.cons ?_ (.cons ?_ (.cons ?_ (.cons ?_ (.cons ?_ (.cons ?_ (.cons ?_ (.cons ?_ .nil)))))))))
    · exact ⟨a0, rfl, .inl ((show Same _ _ from (same_new h1).trans ((same_new h2).trans ((same_new h3).trans ((same_new h4).trans ((same_new h5).trans ((same_new hp).trans ((same_new h6).trans ((same_new h7).trans ((same_new h8).trans ((same_new h9).trans ((same_new hq).trans (same_new hr2)))))))))))) a0 _ upd_same)⟩
    · exact ⟨a1, rfl, .inl ((show Same _ _ from (same_new h2).trans ((same_new h3).trans ((same_new h4).trans ((same_new h5).trans ((same_new hp).trans ((same_new h6).trans ((same_new h7).trans ((same_new h8).trans ((same_new h9).trans ((same_new hq).trans (same_new hr2))))))))))) a1 _ upd_same)⟩
    · exact ⟨a2, rfl, .inl ((show Same _ _ from (same_new h3).trans ((same_new h4).trans ((same_new h5).trans ((same_new hp).trans ((same_new h6).trans ((same_new h7).trans ((same_new h8).trans ((same_new h9).trans ((same_new hq).trans (same_new hr2)))))))))) a2 _ upd_same)⟩
    · exact ⟨a3, rfl, .inl ((show Same _ _ from (same_new h4).trans ((same_new h5).trans ((same_new hp).trans ((same_new h6).trans ((same_new h7).trans ((same_new h8).trans ((same_new h9).trans ((same_new hq).trans (same_new hr2))))))))) a3 _ upd_same)⟩
    · exact ⟨a4, rfl, .inl ((show Same _ _ from (same_new h5).trans ((same_new hp).trans ((same_new h6).trans ((same_new h7).trans ((same_new h8).trans ((same_new h9).trans ((same_new hq).trans (same_new hr2)))))))) a4 _ upd_same)⟩
    · exact ⟨a5, rfl, .inl ((show Same _ _ from (same_new hp).trans ((same_new h6).trans ((same_new h7).trans ((same_new h8).trans ((same_new h9).trans ((same_new hq).trans (same_new hr2))))))) a5 _ upd_same)⟩
    · exact ⟨a6, rfl, .inl ((show Same _ _ from (same_new h7).trans ((same_new h8).trans ((same_new h9).trans ((same_new hq).trans (same_new hr2))))) a6 _ upd_same)⟩
    · exact ⟨a7, rfl, .inl ((show Same _ _ from (same_new h8).trans ((same_new h9).trans ((same_new hq).trans (same_new hr2)))) a7 _ upd_same)⟩
    · exact ⟨a8, rfl, .inl ((show Same _ _ from (same_new h9).trans ((same_new hq).trans (same_new hr2))) a8 _ upd_same)⟩
    · exact ⟨a9, rfl, .inl ((show Same _ _ from (same_new hq).trans (same_new hr2)) a9 _ upd_same)⟩
end
/-! ### each error is of its own class only -/
theorem GDu {H : Hp} {q : Addr} {o u : HO} : upd (upd H q o) q u = upd H q u := upd_upd
def rIsX (K : PySem.W.Frag) : List V → Hp → VK → Prop := fun xs H Q => ∃ v c C cv b, xs = [v, c] ∧ ExP H v C ∧ ExcC K C ∧ ClsV c cv ∧ PySem.W.kitOne K (.ref C) cv = some b ∧ Q (.bl b) H
theorem call_isX' {X : Cx} : CallR X (.builtin "isinstance") (rIsX X.K) := call_isX
def tRow (K : PySem.W.Frag) (C : Addr) : TE := fun σ H Q => ∃ (p : Addr) (es : List V) (bs : List Bool) (r1 r2 r3 r4 : Option V), σ = [some (.ref p), r1, r2, r3, r4] ∧ H p = some (.lst es) ∧ es.length ≤ 1000 ∧ bs.length = es.length ∧
  (∀ (i : Nat) (v : V) (b : Bool), es[i]? = some v → bs[i]? = some b → ∃ Ci, ExP H v Ci ∧ ExcC K Ci ∧ PySem.W.kitOne K (.ref Ci) (.ref C) = some b) ∧ ∀ q, H q = none → Q (.ref q) (upd H q (.lst (bs.map V.bl)))
theorem row_imp {K : PySem.W.Frag} {C : Addr} : ∀ σ H Q, tRow K C σ H Q → tLc (iList K (tVar 0)) (gName 2) tYes (tCB (rIsX K) (tCons (tVar 2) (tCons (tC (.ref C)) tNil))) [2] σ H Q := by
  rintro σ H Q ⟨p, es, bs, r1, r2, r3, r4, rfl, hp, hl, hb, hk, k⟩
  have hs := line1000
  refine ⟨_, rfl, p, rfl, ⟨_, SqL.of hp⟩, fun D hD => ?_⟩
  refine lc_list (K := K) (a := p) (xs := es) (fun i H' => H' = upd H D (.lst ((bs.take i).map V.bl))) rfl (fun i H' _ e => ?_) ?_ ?_
  · subst e
    exact SqL.of (by rw [upd_ne (ne_of_none hp hD)]; exact hp)
  · rintro i v H' hi rfl
    have hil : i < es.length := (List.getElem?_eq_some_iff.mp hi).1
    have hbi : bs[i]? = some bs[i] := List.getElem?_eq_getElem (by omega)
    obtain ⟨Ci, hx, he, hk⟩ := hk i v _ hi hbi
    have S : Same H (upd H D (.lst ((bs.take i).map V.bl))) := same_new hD
    refine ⟨rfl, ?_⟩
    refine ⟨v, rfl, v, .ref C, Ci, .ref C, _, rfl, hx.same S, he, .own _, hk, ?_⟩
    refine ⟨_, upd_same, ?_, ?_⟩
    · rw [List.length_map, List.length_take]
      omega
    · rw [GDu, take_more hbi, List.map_append]
      rfl
  · rintro H' rfl
    rw [← hb, List.take_length]
    exact k D hD
theorem pe_d0 {X : Cx} {x : Str} {k : Nat} {sp : Sp} {p pos : Pos} (D : Dfn X.prog X.w X.K X.mg X.base x k [] sp) (hr : Room k X.A) (hg : Gl X x := by rfl) (hdb : (x == ("__debug__" : Str)) = false := by decide) : PE X (.Call (.Name x p) [] [] pos) (tCall sp [] E0 tNil) := by
  obtain ⟨f, fd, m, kp, b, h⟩ := D
  exact pe_call0 h hr hg m kp b .nil pass0 hdb
def scSpot : Scope := { kind := .function, names := [(".0", .local), ("spot", .cell), ("range", .globalImplicit)], isGenerator := false, isCoroutine := false }
theorem paired_get {α β : Type} {R : α → β → Prop} {xs : List α} {ys : List β} (h : Paired R xs ys) : ∀ {i : Nat} {x : α}, xs[i]? = some x → ∃ y, ys[i]? = some y ∧ R x y := by
  induction h with
  | nil => intro i x e; cases e
  | cons r _ ih =>
    intro i x e
    cases i with
    | zero =>
      cases e
      exact ⟨_, rfl, r⟩
    | succ n => exact ih e
theorem paired_len {α β : Type} {R : α → β → Prop} {xs : List α} {ys : List β} (h : Paired R xs ys) : xs.length = ys.length := by
  induction h with
  | nil => rfl
  | cons _ _ ih => rw [List.length_cons, List.length_cons, ih]
theorem plain_facts {K : PySem.W.Frag} {mg : Str → Option Value} {A : Ad} (T : Txt K mg A) {C : Addr} (h : C ∈ plainA A) : ExcC K C ∧ Kn K A.cWebError C true true false false false false false false := by
  simp only [plainA, List.mem_cons, List.not_mem_nil, or_false] at h
  rcases h with rfl | rfl | rfl | rfl | rfl | rfl | rfl | rfl | rfl | rfl
  · exact ⟨T.e_InvalidPlace, T.k_InvalidPlace⟩
  · exact ⟨T.e_InvalidTie, T.k_InvalidTie⟩
  · exact ⟨T.e_InvalidWeb, T.k_InvalidWeb⟩
  · exact ⟨T.e_InvalidRoute, T.k_InvalidRoute⟩
  · exact ⟨T.e_InvalidStep, T.k_InvalidStep⟩
  · exact ⟨T.e_InvalidGrowth, T.k_InvalidGrowth⟩
  · exact ⟨T.e_InvalidPart, T.k_InvalidPart⟩
  · exact ⟨T.e_InvalidDrawing, T.k_InvalidDrawing⟩
  · exact ⟨T.e_InvalidModel, T.k_InvalidModel⟩
  · exact ⟨T.e_InvalidOperation, T.k_InvalidOperation⟩
theorem mat_get {K : PySem.W.Frag} {A : Ad} (M : Mat K A) : ∀ {i j : Nat} {Ci Cj : Addr}, (plainA A)[i]? = some Ci → (plainA A)[j]? = some Cj → PySem.W.kitOne K (.ref Ci) (.ref Cj) = some (i == j)
  | 0, 0, _, _, rfl, rfl => M.m00
  | 0, 1, _, _, rfl, rfl => M.m01
  | 0, 2, _, _, rfl, rfl => M.m02
  | 0, 3, _, _, rfl, rfl => M.m03
  | 0, 4, _, _, rfl, rfl => M.m04
  | 0, 5, _, _, rfl, rfl => M.m05
  | 0, 6, _, _, rfl, rfl => M.m06
  | 0, 7, _, _, rfl, rfl => M.m07
  | 0, 8, _, _, rfl, rfl => M.m08
  | 0, 9, _, _, rfl, rfl => M.m09
  | 0, n + 10, _, _, _, h => by cases h
  | 1, 0, _, _, rfl, rfl => M.m10
  | 1, 1, _, _, rfl, rfl => M.m11
  | 1, 2, _, _, rfl, rfl => M.m12
  | 1, 3, _, _, rfl, rfl => M.m13
  | 1, 4, _, _, rfl, rfl => M.m14
  | 1, 5, _, _, rfl, rfl => M.m15
  | 1, 6, _, _, rfl, rfl => M.m16
  | 1, 7, _, _, rfl, rfl => M.m17
  | 1, 8, _, _, rfl, rfl => M.m18
  | 1, 9, _, _, rfl, rfl => M.m19
  | 1, n + 10, _, _, _, h => by cases h
  | 2, 0, _, _, rfl, rfl => M.m20
  | 2, 1, _, _, rfl, rfl => M.m21
  | 2, 2, _, _, rfl, rfl => M.m22
  | 2, 3, _, _, rfl, rfl => M.m23
  | 2, 4, _, _, rfl, rfl => M.m24
  | 2, 5, _, _, rfl, rfl => M.m25
  | 2, 6, _, _, rfl, rfl => M.m26
  | 2, 7, _, _, rfl, rfl => M.m27
  | 2, 8, _, _, rfl, rfl => M.m28
  | 2, 9, _, _, rfl, rfl => M.m29
  | 2, n + 10, _, _, _, h => by cases h
  | 3, 0, _, _, rfl, rfl => M.m30
  | 3, 1, _, _, rfl, rfl => M.m31
  | 3, 2, _, _, rfl, rfl => M.m32
  | 3, 3, _, _, rfl, rfl => M.m33
  | 3, 4, _, _, rfl, rfl => M.m34
  | 3, 5, _, _, rfl, rfl => M.m35
  | 3, 6, _, _, rfl, rfl => M.m36
  | 3, 7, _, _, rfl, rfl => M.m37
  | 3, 8, _, _, rfl, rfl => M.m38
  | 3, 9, _, _, rfl, rfl => M.m39
  | 3, n + 10, _, _, _, h => by cases h
  | 4, 0, _, _, rfl, rfl => M.m40
  | 4, 1, _, _, rfl, rfl => M.m41
  | 4, 2, _, _, rfl, rfl => M.m42
  | 4, 3, _, _, rfl, rfl => M.m43
  | 4, 4, _, _, rfl, rfl => M.m44
  | 4, 5, _, _, rfl, rfl => M.m45
  | 4, 6, _, _, rfl, rfl => M.m46
  | 4, 7, _, _, rfl, rfl => M.m47
  | 4, 8, _, _, rfl, rfl => M.m48
  | 4, 9, _, _, rfl, rfl => M.m49
  | 4, n + 10, _, _, _, h => by cases h
  | 5, 0, _, _, rfl, rfl => M.m50
  | 5, 1, _, _, rfl, rfl => M.m51
  | 5, 2, _, _, rfl, rfl => M.m52
  | 5, 3, _, _, rfl, rfl => M.m53
  | 5, 4, _, _, rfl, rfl => M.m54
  | 5, 5, _, _, rfl, rfl => M.m55
  | 5, 6, _, _, rfl, rfl => M.m56
  | 5, 7, _, _, rfl, rfl => M.m57
  | 5, 8, _, _, rfl, rfl => M.m58
  | 5, 9, _, _, rfl, rfl => M.m59
  | 5, n + 10, _, _, _, h => by cases h
  | 6, 0, _, _, rfl, rfl => M.m60
  | 6, 1, _, _, rfl, rfl => M.m61
  | 6, 2, _, _, rfl, rfl => M.m62
  | 6, 3, _, _, rfl, rfl => M.m63
  | 6, 4, _, _, rfl, rfl => M.m64
  | 6, 5, _, _, rfl, rfl => M.m65
  | 6, 6, _, _, rfl, rfl => M.m66
  | 6, 7, _, _, rfl, rfl => M.m67
  | 6, 8, _, _, rfl, rfl => M.m68
  | 6, 9, _, _, rfl, rfl => M.m69
  | 6, n + 10, _, _, _, h => by cases h
  | 7, 0, _, _, rfl, rfl => M.m70
  | 7, 1, _, _, rfl, rfl => M.m71
  | 7, 2, _, _, rfl, rfl => M.m72
  | 7, 3, _, _, rfl, rfl => M.m73
  | 7, 4, _, _, rfl, rfl => M.m74
  | 7, 5, _, _, rfl, rfl => M.m75
  | 7, 6, _, _, rfl, rfl => M.m76
  | 7, 7, _, _, rfl, rfl => M.m77
  | 7, 8, _, _, rfl, rfl => M.m78
  | 7, 9, _, _, rfl, rfl => M.m79
  | 7, n + 10, _, _, _, h => by cases h
  | 8, 0, _, _, rfl, rfl => M.m80
  | 8, 1, _, _, rfl, rfl => M.m81
  | 8, 2, _, _, rfl, rfl => M.m82
  | 8, 3, _, _, rfl, rfl => M.m83
  | 8, 4, _, _, rfl, rfl => M.m84
  | 8, 5, _, _, rfl, rfl => M.m85
  | 8, 6, _, _, rfl, rfl => M.m86
  | 8, 7, _, _, rfl, rfl => M.m87
  | 8, 8, _, _, rfl, rfl => M.m88
  | 8, 9, _, _, rfl, rfl => M.m89
  | 8, n + 10, _, _, _, h => by cases h
  | 9, 0, _, _, rfl, rfl => M.m90
  | 9, 1, _, _, rfl, rfl => M.m91
  | 9, 2, _, _, rfl, rfl => M.m92
  | 9, 3, _, _, rfl, rfl => M.m93
  | 9, 4, _, _, rfl, rfl => M.m94
  | 9, 5, _, _, rfl, rfl => M.m95
  | 9, 6, _, _, rfl, rfl => M.m96
  | 9, 7, _, _, rfl, rfl => M.m97
  | 9, 8, _, _, rfl, rfl => M.m98
  | 9, 9, _, _, rfl, rfl => M.m99
  | 9, n + 10, _, _, _, h => by cases h
  | n + 10, _, _, _, h, _ => by cases h
theorem mat_pe {K : PySem.W.Frag} {A : Ad} (M : Mat K A) : ∀ {i : Nat} {Ci : Addr}, (plainA A)[i]? = some Ci → PySem.W.kitOne K (.ref Ci) (.ref A.cParseError) = some false
  | 0, _, rfl => M.mp0
  | 1, _, rfl => M.mp1
  | 2, _, rfl => M.mp2
  | 3, _, rfl => M.mp3
  | 4, _, rfl => M.mp4
  | 5, _, rfl => M.mp5
  | 6, _, rfl => M.mp6
  | 7, _, rfl => M.mp7
  | 8, _, rfl => M.mp8
  | 9, _, rfl => M.mp9
  | n + 10, _, h => by cases h
def boolsB (j : Nat) : List Bool := (List.range 10).map fun i => i == j
def bools (j : Nat) : List V := (boolsB j).map V.bl
theorem row_cond {K : PySem.W.Frag} {mg : Str → Option Value} {A : Ad} (T : Txt K mg A) {H : Hp} {es : List V} (hE : Errs A H es) {j : Nat} {Cj : Addr} (hj : (plainA A)[j]? = some Cj) (i : Nat) (v : V) (b : Bool) (h1 : es[i]? = some v) (h2 : (boolsB j)[i]? = some b) :
    ∃ Ci, ExP H v Ci ∧ ExcC K Ci ∧ PySem.W.kitOne K (.ref Ci) (.ref Cj) = some b := by
  obtain ⟨Ci, hci, hx⟩ := paired_get hE h1
  obtain ⟨he, _⟩ := plain_facts T (List.mem_of_getElem? hci)
  have hb : b = (i == j) := by
    unfold boolsB at h2
    rw [List.getElem?_map] at h2
    cases e : (List.range 10)[i]? with
    | none =>
      rw [e] at h2
      cases h2
    | some m =>
      rw [e] at h2
      obtain ⟨hi, e2⟩ := List.getElem?_eq_some_iff.mp e
      rw [List.getElem_range] at e2
      subst e2
      exact (Option.some.inj h2).symm
  subst hb
  exact ⟨Ci, hx, he, mat_get T.mat hci hj⟩
theorem exp_set {H : Hp} {q : Addr} {l l2 : List V} (hq : H q = some (.lst l)) {v : V} {C : Addr} (h : ExP H v C) : ExP (upd H q (.lst l2)) v C := by
  obtain ⟨a, e, h | ⟨d, x, y, h1, h2⟩⟩ := h
  · refine ⟨a, e, .inl ?_⟩
    rw [upd_ne (fun z => by rw [z, hq] at h; cases h)]
    exact h
  · refine ⟨a, e, .inr ⟨d, x, y, ?_, ?_⟩⟩
    · rw [upd_ne (fun z => by rw [z, hq] at h1; cases h1)]
      exact h1
    · rw [upd_ne (fun z => by rw [z, hq] at h2; cases h2)]
      exact h2
theorem paired_imp {α β : Type} {R S : α → β → Prop} (f : ∀ x y, R x y → S x y) {xs : List α} {ys : List β} (h : Paired R xs ys) : Paired S xs ys := by
  induction h with
  | nil => exact .nil
  | cons r _ ih => exact .cons (f _ _ r) ih
theorem paired_snoc {α β : Type} {R : α → β → Prop} {xs : List α} {ys : List β} (h : Paired R xs ys) {x : α} {y : β} (r : R x y) : Paired R (xs ++ [x]) (ys ++ [y]) := by
  induction h with
  | nil => exact .cons r .nil
  | cons r' _ ih => exact .cons r' ih
structure RowsAt (A : Ad) (H0 H : Hp) (p q : Addr) (es : List V) (n : Nat) : Prop where
  sm : Same H0 H
  q0 : H0 q = none
  hp : H p = some (.lst es)
  pq : p ≠ q
  hE : Errs A H es
  hq : ∃ ds : List Addr, H q = some (.lst (ds.map V.ref)) ∧ Paired (fun d j => d ≠ q ∧ H d = some (.lst (bools j))) ds (List.range n)
theorem RowsAt.step {A : Ad} {H0 H : Hp} {p q D : Addr} {es : List V} {n : Nat} (h : RowsAt A H0 H p q es n) (hD : H D = none) {ds : List Addr} (hq : H q = some (.lst (ds.map V.ref))) (hP : Paired (fun d j => d ≠ q ∧ H d = some (.lst (bools j))) ds (List.range n)) :
    RowsAt A H0 (upd (upd H D (.lst (bools n))) q (.lst (ds.map V.ref ++ [.ref D]))) p q es (n + 1) := by
  have hDq : D ≠ q := fun e => by rw [e, hq] at hD; cases hD
  have S := same_new (o := .lst (bools n)) hD
  refine ⟨same_own (h.sm.trans S) h.q0, h.q0, by rw [upd_ne h.pq]; exact S _ _ h.hp, h.pq, paired_imp (fun v C x => exp_set (S _ _ hq) (x.same S)) h.hE, ds ++ [D], by rw [upd_same, List.map_append]; rfl, ?_⟩
  rw [List.range_succ]
  refine paired_snoc (paired_imp (fun d j x => ⟨x.1, by rw [upd_ne x.1]; exact S _ _ x.2⟩) hP) ⟨hDq, by rw [upd_ne hDq]; exact upd_same⟩
def tApp (K : PySem.W.Frag) (A : Ad) (n : Nat) : TS := fun D σ H => ∃ (H0 : Hp) (p q : Addr) (es : List V) (r2 r3 r4 : Option V), σ = [some (.ref p), some (.ref q), r2, r3, r4] ∧ RowsAt A H0 H p q es n ∧ (∀ H', RowsAt A H0 H' p q es (n + 1) → D.nx σ H')
theorem app_imp {K : PySem.W.Frag} {mg : Str → Option Value} {A : Ad} (T : Txt K mg A) {n : Nat} {C : Addr} (hn : n < 10) (hj : (plainA A)[n]? = some C) : ∀ D σ H, tApp K A n D σ H → tDrop (tBM K "list" rAppend (tVar 1) (tCons (tRow K C) tNil)) D σ H := by
  rintro D σ H ⟨H0, p, q, es, r2, r3, r4, rfl, h, k⟩
  obtain ⟨ds, hq, hP⟩ := h.hq
  have hl : es.length = 10 := paired_len h.hE
  have hd : ds.length = n := by
    have := paired_len hP
    rwa [List.length_range] at this
  have hs := line1000
  refine ⟨_, rfl, .inl ⟨rfl, _, SqL.of hq⟩, ?_⟩
  refine ⟨p, es, boolsB n, some (.ref q), r2, r3, r4, rfl, h.hp, by omega, by rw [hl]; rfl, row_cond T h.hE hj, fun D2 hD2 => ?_⟩
  have hq' := (same_new (o := .lst ((boolsB n).map V.bl)) hD2) q _ hq
  refine ⟨q, _, _, rfl, rfl, hq', by rw [List.length_map]; omega, ?_⟩
  exact k _ (h.step hD2 hq hP)
mutual
theorem dp_same {K : PySem.W.Frag} {H H' : Hp} (S : ∀ b o, H b = some o → H' b = some o) : ∀ {v d}, Dp K H v d → Dp K H' v d
  | _, _, .non => .non
  | _, _, .bl b => .bl b
  | _, _, .int b => .int b
  | _, _, .str b => .str b
  | _, _, .lst h hs => .lst (SqL_same S h) (dpa_same S hs)
  | _, _, .tup h hs => .tup (SqT_same S h) (dpa_same S hs)
theorem dpa_same {K : PySem.W.Frag} {H H' : Hp} (S : ∀ b o, H b = some o → H' b = some o) : ∀ {v d}, DpAll K H v d → DpAll K H' v d
  | _, _, .nil => .nil
  | _, _, .cons h hs => .cons (dp_same S h) (dpa_same S hs)
end
theorem dpa_snoc {K : PySem.W.Frag} {H : Hp} : ∀ {vs ds v d}, DpAll K H vs ds → Dp K H v d → DpAll K H (vs ++ [v]) (ds ++ [d])
  | _, _, _, _, .nil, h => .cons h .nil
  | _, _, _, _, .cons x hs, h => .cons x (dpa_snoc hs h)
theorem dpa_bools {K : PySem.W.Frag} {H : Hp} : ∀ bs : List Bool, DpAll K H (bs.map V.bl) (bs.map PyData.bool)
  | [] => .nil
  | b :: bs => .cons (.bl b) (dpa_bools bs)
def dRow (j : Nat) : PyData := .list ((boolsB j).map PyData.bool)
theorem dpa_rows {K : PySem.W.Frag} {H : Hp} {q : Addr} : ∀ {ds : List Addr} {js : List Nat}, Paired (fun d j => d ≠ q ∧ H d = some (.lst (bools j))) ds js → DpAll K H (ds.map V.ref) (js.map dRow)
  | _, _, .nil => .nil
  | _, _, .cons r rs => .cons (.lst (SqL.of r.2) (dpa_bools _)) (dpa_rows rs)
def nRowB (j : Nat) : List Bool := (List.range 10).map fun (o : Nat) => decide (V.int ((0 : Int) + (j : Int)) = V.int ((0 : Int) + (o : Int)))
def dN (j : Nat) : PyData := .list ((nRowB j).map PyData.bool)
theorem dpa_rowsN {K : PySem.W.Frag} {H : Hp} {q : Addr} : ∀ {ds : List Addr} {js : List Nat}, Paired (fun d j => d ≠ q ∧ H d = some (.lst ((nRowB j).map V.bl))) ds js → DpAll K H (ds.map V.ref) (js.map dN)
  | _, _, .nil => .nil
  | _, _, .cons r rs => .cons (.lst (SqL.of r.2) (dpa_bools _)) (dpa_rowsN rs)
theorem rows_eq : PyData.eqv (.list ((List.range 10).map dRow)) (.list ((List.range 10).map dN)) = true := by decide +kernel
theorem rows_s1 : SeqAt.shaped (.list ((List.range 10).map dRow)) = true := by decide +kernel
theorem rows_s2 : SeqAt.shaped (.list ((List.range 10).map dN)) = true := by decide +kernel
structure spSingles (vs : List V) (H : Hp) (Q : VK) (E : XK) : Prop where
  h : vs = [] ∧ ∀ H', Same H H' → Q (.bl true) H'
section
variable {A0 : Ad} {P : Program} {w : World} {K : PySem.W.Frag} {mg : Str → Option Value} {base : Heap}
theorem sc_singles : FnScope ["some", "rows", "error", "spot", "other"] [] (defScope s_law_singles_right) := ⟨rfl, rfl, rfl, by decide +kernel, rfl, by decide +kernel, by decide +kernel⟩
theorem ok_law_singles_right {f : Addr} {fd : FuncData} (F : Fun K "_law_singles_right" "_law_singles_right" s_law_singles_right f fd) (T : Txt K mg A0) (DP : Dfn P w K mg base "_law_plain_errors" 1 [] (spPlain A0)) (DK : Dfn P w K mg base "_law_kinds_of" 1 ["error"] (spKinds K A0)) :
    FnOk P w K mg base CX0 2 f fd [] spSingles := by
  refine F.ok sc_singles (fun vs H Q E h => ?_) (fun cdv A outer s H vs Q E hr h => ?_)
  · obtain ⟨rfl, _⟩ := h
    rfl
  · obtain ⟨rfl, k⟩ := h
    have hu := hu_of hr
    refine ⟨_, pss_cons (ps_set (i := 0) sc_singles.nd rfl (Or.inl rfl) (pe_d0 DP hr))
      (pss_cons (ps_if (pt_cmpR (op_neD hr.units) (pe_lc (own := [("error", 2)]) (g := gName 2) rfl sc_singles.nd (pi_list (pv 0)) (blkOk_by (own := [("error", 2)]) (N := ["some", "rows", "error", "spot", "other"]) (sc := defScope s_law_singles_right) (by decide +kernel)) (fun _ _ _ _ _ => pg_name (i := 2) sc_singles.nd rfl (Or.inl rfl)) (fun _ _ _ _ _ => pts_one (pt_cmpR (show OpR _ (compareOp .NotEq) (rNeD K) from op_neD hr.units) (pe_d DK hr (pa_cons (pv 2) pa_nil)) (pe_lst (pa_cons pe_str (pa_cons pe_str pa_nil))) (nomark _))) (fun _ _ _ _ _ => pv 2)) (pe_lst pa_nil) (nomark _)) (pss_one (ps_ret pe_bl)) pss_nil)
      (pss_cons (ps_set (i := 1) sc_singles.nd rfl (Or.inl rfl) (pe_lst (pa_cons (pe_imp (pe_lc (own := [("error", 2)]) (g := gName 2) (tt := tYes) rfl sc_singles.nd (pi_list (pv 0)) (blkOk_by (own := [("error", 2)]) (N := ["some", "rows", "error", "spot", "other"]) (sc := defScope s_law_singles_right) (by decide +kernel)) (fun _ _ _ _ _ => pg_name (i := 2) sc_singles.nd rfl (Or.inl rfl)) (fun _ _ _ _ _ => pts_nil) (fun _ _ _ _ _ => pe_callB call_isX' (by rfl) T.n_isinstance (by decide +kernel) (pa_cons (pv 2) (pa_cons (pe_glob (v := .ref A0.cInvalidPlace) (by rfl) T.p_InvalidPlace.g rfl) pa_nil)))) row_imp) (pa_cons (pe_imp (pe_lc (own := [("error", 2)]) (g := gName 2) (tt := tYes) rfl sc_singles.nd (pi_list (pv 0)) (blkOk_by (own := [("error", 2)]) (N := ["some", "rows", "error", "spot", "other"]) (sc := defScope s_law_singles_right) (by decide +kernel)) (fun _ _ _ _ _ => pg_name (i := 2) sc_singles.nd rfl (Or.inl rfl)) (fun _ _ _ _ _ => pts_nil) (fun _ _ _ _ _ => pe_callB call_isX' (by rfl) T.n_isinstance (by decide +kernel) (pa_cons (pv 2) (pa_cons (pe_glob (v := .ref A0.cInvalidTie) (by rfl) T.p_InvalidTie.g rfl) pa_nil)))) row_imp) pa_nil))))
      (pss_cons (ps_set (i := 1) sc_singles.nd rfl (Or.inl rfl) (pe_op op_cat (pv 1) (pe_lst (pa_cons (pe_imp (pe_lc (own := [("error", 2)]) (g := gName 2) (tt := tYes) rfl sc_singles.nd (pi_list (pv 0)) (blkOk_by (own := [("error", 2)]) (N := ["some", "rows", "error", "spot", "other"]) (sc := defScope s_law_singles_right) (by decide +kernel)) (fun _ _ _ _ _ => pg_name (i := 2) sc_singles.nd rfl (Or.inl rfl)) (fun _ _ _ _ _ => pts_nil) (fun _ _ _ _ _ => pe_callB call_isX' (by rfl) T.n_isinstance (by decide +kernel) (pa_cons (pv 2) (pa_cons (pe_glob (v := .ref A0.cInvalidWeb) (by rfl) T.p_InvalidWeb.g rfl) pa_nil)))) row_imp) (pa_cons (pe_imp (pe_lc (own := [("error", 2)]) (g := gName 2) (tt := tYes) rfl sc_singles.nd (pi_list (pv 0)) (blkOk_by (own := [("error", 2)]) (N := ["some", "rows", "error", "spot", "other"]) (sc := defScope s_law_singles_right) (by decide +kernel)) (fun _ _ _ _ _ => pg_name (i := 2) sc_singles.nd rfl (Or.inl rfl)) (fun _ _ _ _ _ => pts_nil) (fun _ _ _ _ _ => pe_callB call_isX' (by rfl) T.n_isinstance (by decide +kernel) (pa_cons (pv 2) (pa_cons (pe_glob (v := .ref A0.cInvalidRoute) (by rfl) T.p_InvalidRoute.g rfl) pa_nil)))) row_imp) pa_nil)))))
      (pss_cons (ps_imp (ps_expr (pe_bm PySem.F.plainAttrs_list PySem.F.slot_list_append PySem.F.type_list_append mt_append (pv 1) (pa_cons (pe_imp (pe_lc (own := [("error", 2)]) (g := gName 2) (tt := tYes) rfl sc_singles.nd (pi_list (pv 0)) (blkOk_by (own := [("error", 2)]) (N := ["some", "rows", "error", "spot", "other"]) (sc := defScope s_law_singles_right) (by decide +kernel)) (fun _ _ _ _ _ => pg_name (i := 2) sc_singles.nd rfl (Or.inl rfl)) (fun _ _ _ _ _ => pts_nil) (fun _ _ _ _ _ => pe_callB call_isX' (by rfl) T.n_isinstance (by decide +kernel) (pa_cons (pv 2) (pa_cons (pe_glob (v := .ref A0.cInvalidStep) (by rfl) T.p_InvalidStep.g rfl) pa_nil)))) row_imp) pa_nil))) (app_imp (n := 4) T (by decide) rfl))
      (pss_cons (ps_imp (ps_expr (pe_bm PySem.F.plainAttrs_list PySem.F.slot_list_append PySem.F.type_list_append mt_append (pv 1) (pa_cons (pe_imp (pe_lc (own := [("error", 2)]) (g := gName 2) (tt := tYes) rfl sc_singles.nd (pi_list (pv 0)) (blkOk_by (own := [("error", 2)]) (N := ["some", "rows", "error", "spot", "other"]) (sc := defScope s_law_singles_right) (by decide +kernel)) (fun _ _ _ _ _ => pg_name (i := 2) sc_singles.nd rfl (Or.inl rfl)) (fun _ _ _ _ _ => pts_nil) (fun _ _ _ _ _ => pe_callB call_isX' (by rfl) T.n_isinstance (by decide +kernel) (pa_cons (pv 2) (pa_cons (pe_glob (v := .ref A0.cInvalidGrowth) (by rfl) T.p_InvalidGrowth.g rfl) pa_nil)))) row_imp) pa_nil))) (app_imp (n := 5) T (by decide) rfl))
      (pss_cons (ps_imp (ps_expr (pe_bm PySem.F.plainAttrs_list PySem.F.slot_list_append PySem.F.type_list_append mt_append (pv 1) (pa_cons (pe_imp (pe_lc (own := [("error", 2)]) (g := gName 2) (tt := tYes) rfl sc_singles.nd (pi_list (pv 0)) (blkOk_by (own := [("error", 2)]) (N := ["some", "rows", "error", "spot", "other"]) (sc := defScope s_law_singles_right) (by decide +kernel)) (fun _ _ _ _ _ => pg_name (i := 2) sc_singles.nd rfl (Or.inl rfl)) (fun _ _ _ _ _ => pts_nil) (fun _ _ _ _ _ => pe_callB call_isX' (by rfl) T.n_isinstance (by decide +kernel) (pa_cons (pv 2) (pa_cons (pe_glob (v := .ref A0.cInvalidPart) (by rfl) T.p_InvalidPart.g rfl) pa_nil)))) row_imp) pa_nil))) (app_imp (n := 6) T (by decide) rfl))
      (pss_cons (ps_imp (ps_expr (pe_bm PySem.F.plainAttrs_list PySem.F.slot_list_append PySem.F.type_list_append mt_append (pv 1) (pa_cons (pe_imp (pe_lc (own := [("error", 2)]) (g := gName 2) (tt := tYes) rfl sc_singles.nd (pi_list (pv 0)) (blkOk_by (own := [("error", 2)]) (N := ["some", "rows", "error", "spot", "other"]) (sc := defScope s_law_singles_right) (by decide +kernel)) (fun _ _ _ _ _ => pg_name (i := 2) sc_singles.nd rfl (Or.inl rfl)) (fun _ _ _ _ _ => pts_nil) (fun _ _ _ _ _ => pe_callB call_isX' (by rfl) T.n_isinstance (by decide +kernel) (pa_cons (pv 2) (pa_cons (pe_glob (v := .ref A0.cInvalidDrawing) (by rfl) T.p_InvalidDrawing.g rfl) pa_nil)))) row_imp) pa_nil))) (app_imp (n := 7) T (by decide) rfl))
      (pss_cons (ps_imp (ps_expr (pe_bm PySem.F.plainAttrs_list PySem.F.slot_list_append PySem.F.type_list_append mt_append (pv 1) (pa_cons (pe_imp (pe_lc (own := [("error", 2)]) (g := gName 2) (tt := tYes) rfl sc_singles.nd (pi_list (pv 0)) (blkOk_by (own := [("error", 2)]) (N := ["some", "rows", "error", "spot", "other"]) (sc := defScope s_law_singles_right) (by decide +kernel)) (fun _ _ _ _ _ => pg_name (i := 2) sc_singles.nd rfl (Or.inl rfl)) (fun _ _ _ _ _ => pts_nil) (fun _ _ _ _ _ => pe_callB call_isX' (by rfl) T.n_isinstance (by decide +kernel) (pa_cons (pv 2) (pa_cons (pe_glob (v := .ref A0.cInvalidModel) (by rfl) T.p_InvalidModel.g rfl) pa_nil)))) row_imp) pa_nil))) (app_imp (n := 8) T (by decide) rfl))
      (pss_cons (ps_imp (ps_expr (pe_bm PySem.F.plainAttrs_list PySem.F.slot_list_append PySem.F.type_list_append mt_append (pv 1) (pa_cons (pe_imp (pe_lc (own := [("error", 2)]) (g := gName 2) (tt := tYes) rfl sc_singles.nd (pi_list (pv 0)) (blkOk_by (own := [("error", 2)]) (N := ["some", "rows", "error", "spot", "other"]) (sc := defScope s_law_singles_right) (by decide +kernel)) (fun _ _ _ _ _ => pg_name (i := 2) sc_singles.nd rfl (Or.inl rfl)) (fun _ _ _ _ _ => pts_nil) (fun _ _ _ _ _ => pe_callB call_isX' (by rfl) T.n_isinstance (by decide +kernel) (pa_cons (pv 2) (pa_cons (pe_glob (v := .ref A0.cInvalidOperation) (by rfl) T.p_InvalidOperation.g rfl) pa_nil)))) row_imp) pa_nil))) (app_imp (n := 9) T (by decide) rfl))
      (pss_cons (ps_if (pt_cmpR (op_neD hr.units) (pe_imp (pe_lc (own := [("error", 2)]) (g := gName 2) (tt := tYes) rfl sc_singles.nd (pi_list (pv 0)) (blkOk_by (own := [("error", 2)]) (N := ["some", "rows", "error", "spot", "other"]) (sc := defScope s_law_singles_right) (by decide +kernel)) (fun _ _ _ _ _ => pg_name (i := 2) sc_singles.nd rfl (Or.inl rfl)) (fun _ _ _ _ _ => pts_nil) (fun _ _ _ _ _ => pe_callB call_isX' (by rfl) T.n_isinstance (by decide +kernel) (pa_cons (pv 2) (pa_cons (pe_glob (v := .ref A0.cParseError) (by rfl) T.o_ParseError.gC rfl) pa_nil)))) row_imp) (pe_op op_rep (pe_lst (pa_cons pe_bl pa_nil)) pe_int) (nomark _)) (pss_one (ps_ret pe_bl)) pss_nil)
      (pss_one (ps_ret (pe_cmpR (op_eqD hr.units) (pv 1) (pe_lc (own := [("spot", 3)]) (g := gName 3) (tt := tYes) rfl sc_singles.nd (pi_range1 (by rfl) T.n_range (pa_cons pe_int pa_nil)) (blkOk_by (own := [("spot", 3)]) (N := ["some", "rows", "error", "spot", "other"]) (sc := defScope s_law_singles_right) (by decide +kernel)) (fun _ _ _ _ _ => pg_name (i := 3) sc_singles.nd rfl (Or.inr rfl)) (fun _ _ _ _ _ => pts_nil) (fun _ _ _ _ _ => pe_lc (own := [("other", 4)]) (g := gName 4) (tt := tYes) rfl sc_singles.nd (pi_range1 (by rfl) T.n_range (pa_cons pe_int pa_nil)) (blkOk_by (own := [("other", 4)]) (N := ["some", "rows", "error", "spot", "other"]) (sc := scSpot) (by decide +kernel)) (fun _ _ _ _ _ => pg_name (i := 4) sc_singles.nd rfl (Or.inl rfl)) (fun _ _ _ _ _ => pts_nil) (fun _ _ _ _ _ => pe_cmpR op_eq (pv 3) (pv 4) (nomark _)))) (nomark _)))))))))))))), ?_⟩
    refine ⟨rfl, fun p H1 es s1 hp hE => ?_⟩
    have hs := line1000
    have hlen : es.length = 10 := paired_len hE
    -- no other kinds
    refine ⟨_, rfl, p, rfl, ⟨_, SqL.of hp⟩, fun D hD => ?_⟩
    refine lc_list (K := K) (a := p) (xs := es) (fun i H' => Same H1 H' ∧ H' D = some (.lst [])) ⟨same_new hD, upd_same⟩ (fun i H' _ q => SqL.of (q.1 _ _ hp)) ?_ ?_
    · rintro i v H2 hi ⟨s2, hD2⟩
      obtain ⟨Ci, hci, hx⟩ := paired_get hE hi
      obtain ⟨he, hk⟩ := plain_facts T (List.mem_of_getElem? hci)
      refine ⟨rfl, ?_⟩
      refine ⟨v, rfl, ⟨v, Ci, _, _, _, _, _, _, _, _, hx.same s2, rfl, he, hk, fun q hq => ?_⟩⟩
      refine ⟨(by decide : 2 ≤ sizeLine), fun r hr3 => ?_⟩
      refine ⟨_, _, .lst (SqL.of ((same_new hr3) q _ upd_same)) (.cons (.str _) (.cons (.str _) .nil)), .lst (SqL.of upd_same) (.cons (.str _) (.cons (.str _) .nil)), by decide +kernel, by decide +kernel, ?_⟩
      exact ⟨false, rfl, ifF rfl ⟨(s2.trans (same_new hq)).trans (same_new hr3), (same_new hr3) D _ ((same_new hq) D _ hD2)⟩⟩
    · rintro H2 ⟨s2, hD2⟩
      refine ⟨Nat.zero_le _, fun r hr3 => ?_⟩
      refine ⟨_, _, .lst (SqL.of ((same_new hr3) D _ hD2)) .nil, .lst (SqL.of upd_same) .nil, rfl, rfl, ?_⟩
      refine ⟨false, rfl, ifF rfl ?_⟩
      have hE3 : Errs A0 (upd H2 r (.lst [])) es := paired_imp (fun v C x => (x.same s2).same (same_new hr3)) hE
      have hp3 := (same_new (o := .lst []) hr3) p _ (s2 p _ hp)
      generalize hH3 : upd H2 r (.lst []) = H3 at hE3 hp3
      have s3 : Same H H3 := by rw [← hH3]; exact (s1.trans s2).trans (same_new hr3)
      -- the first four rows
      refine ⟨p, es, boolsB 0, none, none, none, none, rfl, hp3, by omega, by rw [hlen]; rfl, row_cond T hE3 rfl, fun D0 hD0 => ?_⟩
      have S0 := same_new (o := .lst ((boolsB 0).map V.bl)) hD0
      refine ⟨p, es, boolsB 1, none, none, none, none, rfl, S0 p _ hp3, by omega, by rw [hlen]; rfl, row_cond T (paired_imp (fun v C x => x.same S0) hE3) rfl, fun D1 hD1 => ?_⟩
      have S1 := same_new (o := .lst ((boolsB 1).map V.bl)) hD1
      refine ⟨(by decide : 2 ≤ sizeLine), fun l1 hl1 => ?_⟩
      have S2 := same_new (o := .lst [.ref D0, .ref D1]) hl1
      refine ⟨_, rfl, ?_⟩
      refine ⟨p, es, boolsB 2, some (.ref l1), none, none, none, rfl, S2 p _ (S1 p _ (S0 p _ hp3)), by omega, by rw [hlen]; rfl, row_cond T (paired_imp (fun v C x => ((x.same S0).same S1).same S2) hE3) rfl, fun D2 hD2' => ?_⟩
      have S3 := same_new (o := .lst ((boolsB 2).map V.bl)) hD2'
      refine ⟨p, es, boolsB 3, some (.ref l1), none, none, none, rfl, S3 p _ (S2 p _ (S1 p _ (S0 p _ hp3))), by omega, by rw [hlen]; rfl, row_cond T (paired_imp (fun v C x => (((x.same S0).same S1).same S2).same S3) hE3) rfl, fun D3 hD3 => ?_⟩
      have S4 := same_new (o := .lst ((boolsB 3).map V.bl)) hD3
      refine ⟨(by decide : 2 ≤ sizeLine), fun l2 hl2 => ?_⟩
      have S5 := same_new (o := .lst [.ref D2, .ref D3]) hl2
      refine ⟨l1, l2, _, _, rfl, rfl, S5 l1 _ (S4 l1 _ (S3 l1 _ upd_same)), upd_same, (by decide : 2 + 2 ≤ sizeLine), fun q hq => ?_⟩
      have S6 := same_new (o := .lst ([.ref D0, .ref D1] ++ [.ref D2, .ref D3])) hq
      have r4 : RowsAt A0 H (upd (upd (upd (upd (upd (upd (upd H3 D0 (.lst ((boolsB 0).map V.bl))) D1 (.lst ((boolsB 1).map V.bl))) l1 (.lst [.ref D0, .ref D1])) D2 (.lst ((boolsB 2).map V.bl))) D3 (.lst ((boolsB 3).map V.bl))) l2 (.lst [.ref D2, .ref D3])) q (.lst ([.ref D0, .ref D1] ++ [.ref D2, .ref D3]))) p q es 4 := by
        have sA := ((((((s3.trans S0).trans S1).trans S2).trans S3).trans S4).trans S5)
        have hq0 : ∀ {b o}, (upd (upd (upd (upd (upd (upd H3 D0 (.lst ((boolsB 0).map V.bl))) D1 (.lst ((boolsB 1).map V.bl))) l1 (.lst [.ref D0, .ref D1])) D2 (.lst ((boolsB 2).map V.bl))) D3 (.lst ((boolsB 3).map V.bl))) l2 (.lst [.ref D2, .ref D3])) b = some o → b ≠ q := fun h e => by rw [e, hq] at h; cases h
        have d0 := S5 D0 _ (S4 D0 _ (S3 D0 _ (S2 D0 _ (S1 D0 _ upd_same))))
        have d1 := S5 D1 _ (S4 D1 _ (S3 D1 _ (S2 D1 _ upd_same)))
        have d2 := S5 D2 _ (S4 D2 _ upd_same)
        have d3 := S5 D3 _ upd_same
        have hpl := S5 p _ (S4 p _ (S3 p _ (S2 p _ (S1 p _ (S0 p _ hp3)))))
        refine ⟨sA.trans S6, ?_, S6 p _ hpl, hq0 hpl, paired_imp (fun v C x => ((((((x.same S0).same S1).same S2).same S3).same S4).same S5).same S6) hE3, [D0, D1, D2, D3], upd_same, ?_⟩
        · cases e : H q with
          | none => rfl
          | some o => exact absurd rfl (hq0 (sA q o e))
        · exact .cons ⟨hq0 d0, S6 _ _ d0⟩ (.cons ⟨hq0 d1, S6 _ _ d1⟩ (.cons ⟨hq0 d2, S6 _ _ d2⟩ (.cons ⟨hq0 d3, S6 _ _ d3⟩ .nil)))
      generalize (upd (upd (upd (upd (upd (upd (upd H3 D0 (.lst ((boolsB 0).map V.bl))) D1 (.lst ((boolsB 1).map V.bl))) l1 (.lst [.ref D0, .ref D1])) D2 (.lst ((boolsB 2).map V.bl))) D3 (.lst ((boolsB 3).map V.bl))) l2 (.lst [.ref D2, .ref D3])) q (.lst ([.ref D0, .ref D1] ++ [.ref D2, .ref D3]))) = H4 at r4
      clear hD0 hD1 hl1 hD2' hD3 hl2 hq S0 S1 S2 S3 S4 S5 S6
      refine ⟨H, p, q, es, none, none, none, rfl, r4, fun H5 r5 => ?_⟩
      refine ⟨H, p, q, es, none, none, none, rfl, r5, fun H6 r6 => ?_⟩
      refine ⟨H, p, q, es, none, none, none, rfl, r6, fun H7 r7 => ?_⟩
      refine ⟨H, p, q, es, none, none, none, rfl, r7, fun H8 r8 => ?_⟩
      refine ⟨H, p, q, es, none, none, none, rfl, r8, fun H9 r9 => ?_⟩
      refine ⟨H, p, q, es, none, none, none, rfl, r9, fun HA rA => ?_⟩
      -- no ParseError
      refine ⟨p, es, List.replicate 10 false, some (.ref q), none, none, none, rfl, rA.hp, by omega, by rw [hlen]; rfl, fun i v b h1 h2 => ?_, fun D7 hD7 => ?_⟩
      · obtain ⟨Ci, hci, hx⟩ := paired_get rA.hE h1
        obtain ⟨he, _⟩ := plain_facts T (List.mem_of_getElem? hci)
        have hb : b = false := List.eq_of_mem_replicate (List.mem_of_getElem? h2)
        subst hb
        exact ⟨Ci, hx, he, mat_pe T.mat hci⟩
      refine ⟨(by decide : 1 ≤ sizeLine), fun l hl => ?_⟩
      refine ⟨l, 10, [.bl false], rfl, rfl, upd_same, by decide, by decide, (by decide : 1 * 10 ≤ sizeLine), fun m hm => ?_⟩
      have SA := same_new (o := .lst ((List.replicate 10 false).map V.bl)) hD7
      have SB := same_new (o := .lst [V.bl false]) hl
      have SC := same_new (o := .lst (List.replicate (Int.toNat 10) [V.bl false]).flatten) hm
      refine ⟨_, _, .lst (SqL.of (SC D7 _ (SB D7 _ upd_same))) (dpa_bools _), .lst (SqL.of upd_same) (dpa_bools (List.replicate 10 false)), by decide +kernel, by decide +kernel, ?_⟩
      refine ⟨false, by decide +kernel, ifF rfl ?_⟩
      obtain ⟨ds, hq, hP⟩ := rA.hq
      have hq' := SC q _ (SB q _ (SA q _ hq))
      have hP' : Paired (fun d j => d ≠ q ∧ (upd (upd (upd HA D7 (.lst ((List.replicate 10 false).map V.bl))) l (.lst [V.bl false])) m (.lst (List.replicate (Int.toNat 10) [V.bl false]).flatten)) d = some (.lst (bools j))) ds (List.range 10) := paired_imp (fun d j x => ⟨x.1, SC _ _ (SB _ _ (SA _ _ x.2))⟩) hP
      have sF := ((rA.sm.trans SA).trans SB).trans SC
      generalize (upd (upd (upd HA D7 (.lst ((List.replicate 10 false).map V.bl))) l (.lst [V.bl false])) m (.lst (List.replicate (Int.toNat 10) [V.bl false]).flatten)) = HB at hq' hP' sF
      -- the rows, all at once
      refine ⟨_, rfl, ?_⟩
      refine ⟨_, rfl, by decide, by decide, fun G hG => ?_⟩
      refine lc_range (lo := 0) (n := 10) (fun i H' => Same HB H' ∧ ∃ gs : List Addr, gs.length = i ∧ H' G = some (.lst (gs.map V.ref)) ∧ Paired (fun d j => d ≠ G ∧ H' d = some (.lst ((nRowB j).map V.bl))) gs (List.range i)) ⟨same_new hG, [], rfl, upd_same, .nil⟩ ?_ ?_
      · rintro i HC hi ⟨sC, gs, hgl, hGl, hPg⟩
        refine ⟨rfl, ?_⟩
        refine ⟨_, rfl, by decide, by decide, fun G2 hG2 => ?_⟩
        refine lc_range (lo := 0) (n := 10) (fun o H' => H' = upd HC G2 (.lst (((List.range o).map fun (o : Nat) => decide (V.int ((0 : Int) + (i : Int)) = V.int ((0 : Int) + (o : Int)))).map V.bl))) rfl ?_ ?_
        · rintro o H' ho rfl
          refine ⟨rfl, ?_⟩
          refine ⟨_, rfl, _, rfl, rfl, ?_⟩
          refine ⟨_, upd_same, ?_, ?_⟩
          · rw [List.length_map, List.length_map, List.length_range]
            omega
          · rw [GDu, List.range_succ, List.map_append, List.map_append]
            rfl
        · rintro H' rfl
          have hG12 : G2 ≠ G := fun e => by rw [e, hGl] at hG2; cases hG2
          have SG := same_new (o := .lst (((List.range 10).map fun (o : Nat) => decide (V.int ((0 : Int) + (i : Int)) = V.int ((0 : Int) + (o : Int)))).map V.bl)) hG2
          refine ⟨gs.map V.ref, SG G _ hGl, by rw [List.length_map]; omega, same_own (sC.trans SG) hG, gs ++ [G2], by rw [List.length_append, hgl]; rfl, by rw [upd_same, List.map_append]; rfl, ?_⟩
          rw [show List.range (i + 1) = List.range i ++ [i] from List.range_succ]
          refine paired_snoc ?_ ?_
          · refine paired_imp (fun d j x => ?_) hPg
            exact ⟨x.1, by rw [upd_ne x.1]; exact SG _ _ x.2⟩
          · exact ⟨hG12, by rw [upd_ne hG12]; exact upd_same⟩
      · rintro HC ⟨sC, gs, hgl, hGl, hPg⟩
        refine ⟨_, _, .lst (SqL.of (sC q _ hq')) (dpa_rows (show Paired (fun d j => d ≠ q ∧ HC d = some (.lst (bools j))) ds (List.range 10) from paired_imp (fun d j x => ⟨x.1, sC _ _ x.2⟩) hP')), .lst (SqL.of hGl) (dpa_rowsN hPg), rows_s1, rows_s2, ?_⟩
        exact q_bl (Q := Q) rows_eq (k _ (sF.trans sC))
end
/-! ### what is raised -/
def keepW (A : Ad) : Nat → Option (Addr × Str)
  | 0 => some (A.cInvalidNumber, "value")
  | 1 => some (A.cUnknownName, "word")
  | 2 => some (A.cParted, "parting")
  | 3 => some (A.cNothingToUndo, "many")
  | 4 => some (A.cTooMany, "limit")
  | 5 => some (A.cRefused, "pledge")
  | 6 => some (A.cParseError, "number")
  | _ => none
def plainW (A : Ad) : Nat → Option Addr
  | 7 => some A.cInvalidStep
  | 8 => some A.cInvalidModel
  | _ => none
structure spRaised (A : Ad) (vs : List V) (H : Hp) (Q : VK) (E : XK) : Prop where
  h : ∃ (i : Nat) (v : V), vs = [.int i, v] ∧ i < 9 ∧ (∀ C f, keepW A i = some (C, f) → ∀ d, H d = none → E (.ref C) (some d) (upd H d (.xd [(f, v)]))) ∧ (∀ C, plainW A i = some C → E (.ref C) none H)
section
variable {A0 : Ad} {P : Program} {w : World} {K : PySem.W.Frag} {mg : Str → Option Value} {base : Heap}
theorem sc_raised : FnScope ["way", "value"] ["way", "value"] (defScope s_law_raised) := ⟨rfl, rfl, rfl, by decide +kernel, rfl, by decide +kernel, by decide +kernel⟩
theorem ok_law_raised {f : Addr} {fd : FuncData} (F : Fun K "_law_raised" "_law_raised" s_law_raised f fd) (T : Txt K mg A0) : FnOk P w K mg base (L2.CX P w) 2 f fd ["way", "value"] (spRaised A0) := by
  refine F.okX sc_raised (fun vs H Q E h => ?_) (fun cdv A outer s H vs Q E hr h => ?_)
  · obtain ⟨i, v, rfl, _⟩ := h
    rfl
  · obtain ⟨i, v, rfl, hi, k1, k2⟩ := h
    refine ⟨_, pss_cons (ps_if (pt_cmpR op_eq (pv 0) pe_int (nomark _)) (pss_one (XV.ps_raiseX (W := fun cls d _ H => E cls d H) rfl T.o_InvalidNumber hr (takes_of rfl rfl rfl rfl) (pa_cons (pv 1) pa_nil))) pss_nil)
      (pss_cons (ps_if (pt_cmpR op_eq (pv 0) pe_int (nomark _)) (pss_one (XV.ps_raiseX (W := fun cls d _ H => E cls d H) rfl T.o_UnknownName hr (takes_of rfl rfl rfl rfl) (pa_cons (pv 1) pa_nil))) pss_nil)
      (pss_cons (ps_if (pt_cmpR op_eq (pv 0) pe_int (nomark _)) (pss_one (XV.ps_raiseX (W := fun cls d _ H => E cls d H) rfl T.o_Parted hr (takes_of rfl rfl rfl rfl) (pa_cons (pv 1) pa_nil))) pss_nil)
      (pss_cons (ps_if (pt_cmpR op_eq (pv 0) pe_int (nomark _)) (pss_one (XV.ps_raiseX (W := fun cls d _ H => E cls d H) rfl T.o_NothingToUndo hr (takes_of rfl rfl rfl rfl) (pa_cons (pv 1) pa_nil))) pss_nil)
      (pss_cons (ps_if (pt_cmpR op_eq (pv 0) pe_int (nomark _)) (pss_one (XV.ps_raiseX (W := fun cls d _ H => E cls d H) rfl T.o_TooMany hr (takes_of rfl rfl rfl rfl) (pa_cons (pv 1) pa_nil))) pss_nil)
      (pss_cons (ps_if (pt_cmpR op_eq (pv 0) pe_int (nomark _)) (pss_one (XV.ps_raiseX (W := fun cls d _ H => E cls d H) rfl T.o_Refused hr (takes_of rfl rfl rfl rfl) (pa_cons (pv 1) pa_nil))) pss_nil)
      (pss_cons (ps_if (pt_cmpR op_eq (pv 0) pe_int (nomark _)) (pss_one (XV.ps_raiseX (W := fun cls d _ H => E cls d H) rfl T.o_ParseError hr (takes_of rfl rfl rfl rfl) (pa_cons (pv 1) pa_nil))) pss_nil)
      (pss_cons (ps_if (pt_cmpR op_eq (pv 0) pe_int (nomark _)) (pss_one (ps_raise (W := fun cls d _ H => E cls d H) rfl (takes_of rfl rfl rfl rfl) (pmk_own PySem.F.excBase_ValueError T.p_InvalidStep.q T.p_InvalidStep.g T.p_InvalidStep.k (raises_own T.p_InvalidStep.s T.p_InvalidStep.t) (by rfl)))) pss_nil)
      (pss_one (ps_raise (W := fun cls d _ H => E cls d H) rfl (takes_of rfl rfl rfl rfl) (pmk_own PySem.F.excBase_ValueError T.p_InvalidModel.q T.p_InvalidModel.g T.p_InvalidModel.k (raises_own T.p_InvalidModel.s T.p_InvalidModel.t) (by rfl))))))))))), ?_⟩
    match i, hi, k1, k2 with
    | 0, _, k1, k2 =>
      refine ⟨_, rfl, rfl, _, rfl, ifT (by decide +kernel) ?_⟩
      exact ⟨_, rfl, v, rfl, fun d hd => k1 _ _ rfl d hd⟩
    | 1, _, k1, k2 =>
      refine ⟨_, rfl, rfl, _, rfl, ifF (by decide +kernel) ?_⟩
      refine ⟨_, rfl, rfl, _, rfl, ifT (by decide +kernel) ?_⟩
      exact ⟨_, rfl, v, rfl, fun d hd => k1 _ _ rfl d hd⟩
    | 2, _, k1, k2 =>
      refine ⟨_, rfl, rfl, _, rfl, ifF (by decide +kernel) ?_⟩
      refine ⟨_, rfl, rfl, _, rfl, ifF (by decide +kernel) ?_⟩
      refine ⟨_, rfl, rfl, _, rfl, ifT (by decide +kernel) ?_⟩
      exact ⟨_, rfl, v, rfl, fun d hd => k1 _ _ rfl d hd⟩
    | 3, _, k1, k2 =>
      refine ⟨_, rfl, rfl, _, rfl, ifF (by decide +kernel) ?_⟩
      refine ⟨_, rfl, rfl, _, rfl, ifF (by decide +kernel) ?_⟩
      refine ⟨_, rfl, rfl, _, rfl, ifF (by decide +kernel) ?_⟩
      refine ⟨_, rfl, rfl, _, rfl, ifT (by decide +kernel) ?_⟩
      exact ⟨_, rfl, v, rfl, fun d hd => k1 _ _ rfl d hd⟩
    | 4, _, k1, k2 =>
      refine ⟨_, rfl, rfl, _, rfl, ifF (by decide +kernel) ?_⟩
      refine ⟨_, rfl, rfl, _, rfl, ifF (by decide +kernel) ?_⟩
      refine ⟨_, rfl, rfl, _, rfl, ifF (by decide +kernel) ?_⟩
      refine ⟨_, rfl, rfl, _, rfl, ifF (by decide +kernel) ?_⟩
      refine ⟨_, rfl, rfl, _, rfl, ifT (by decide +kernel) ?_⟩
      exact ⟨_, rfl, v, rfl, fun d hd => k1 _ _ rfl d hd⟩
    | 5, _, k1, k2 =>
      refine ⟨_, rfl, rfl, _, rfl, ifF (by decide +kernel) ?_⟩
      refine ⟨_, rfl, rfl, _, rfl, ifF (by decide +kernel) ?_⟩
      refine ⟨_, rfl, rfl, _, rfl, ifF (by decide +kernel) ?_⟩
      refine ⟨_, rfl, rfl, _, rfl, ifF (by decide +kernel) ?_⟩
      refine ⟨_, rfl, rfl, _, rfl, ifF (by decide +kernel) ?_⟩
      refine ⟨_, rfl, rfl, _, rfl, ifT (by decide +kernel) ?_⟩
      exact ⟨_, rfl, v, rfl, fun d hd => k1 _ _ rfl d hd⟩
    | 6, _, k1, k2 =>
      refine ⟨_, rfl, rfl, _, rfl, ifF (by decide +kernel) ?_⟩
      refine ⟨_, rfl, rfl, _, rfl, ifF (by decide +kernel) ?_⟩
      refine ⟨_, rfl, rfl, _, rfl, ifF (by decide +kernel) ?_⟩
      refine ⟨_, rfl, rfl, _, rfl, ifF (by decide +kernel) ?_⟩
      refine ⟨_, rfl, rfl, _, rfl, ifF (by decide +kernel) ?_⟩
      refine ⟨_, rfl, rfl, _, rfl, ifF (by decide +kernel) ?_⟩
      refine ⟨_, rfl, rfl, _, rfl, ifT (by decide +kernel) ?_⟩
      exact ⟨_, rfl, v, rfl, fun d hd => k1 _ _ rfl d hd⟩
    | 7, _, k1, k2 =>
      refine ⟨_, rfl, rfl, _, rfl, ifF (by decide +kernel) ?_⟩
      refine ⟨_, rfl, rfl, _, rfl, ifF (by decide +kernel) ?_⟩
      refine ⟨_, rfl, rfl, _, rfl, ifF (by decide +kernel) ?_⟩
      refine ⟨_, rfl, rfl, _, rfl, ifF (by decide +kernel) ?_⟩
      refine ⟨_, rfl, rfl, _, rfl, ifF (by decide +kernel) ?_⟩
      refine ⟨_, rfl, rfl, _, rfl, ifF (by decide +kernel) ?_⟩
      refine ⟨_, rfl, rfl, _, rfl, ifF (by decide +kernel) ?_⟩
      refine ⟨_, rfl, rfl, _, rfl, ifT (by decide +kernel) ?_⟩
      exact k2 _ rfl
    | 8, _, k1, k2 =>
      refine ⟨_, rfl, rfl, _, rfl, ifF (by decide +kernel) ?_⟩
      refine ⟨_, rfl, rfl, _, rfl, ifF (by decide +kernel) ?_⟩
      refine ⟨_, rfl, rfl, _, rfl, ifF (by decide +kernel) ?_⟩
      refine ⟨_, rfl, rfl, _, rfl, ifF (by decide +kernel) ?_⟩
      refine ⟨_, rfl, rfl, _, rfl, ifF (by decide +kernel) ?_⟩
      refine ⟨_, rfl, rfl, _, rfl, ifF (by decide +kernel) ?_⟩
      refine ⟨_, rfl, rfl, _, rfl, ifF (by decide +kernel) ?_⟩
      refine ⟨_, rfl, rfl, _, rfl, ifF (by decide +kernel) ?_⟩
      exact k2 _ rfl
end
/-! ### which clause takes it -/
/-- the word for the clause, z what repr gives for the value -/
def wordAt (z : Str) : Nat → Str
  | 0 => "number " ++ z
  | 1 => "name " ++ z
  | 2 => "parted " ++ z
  | 3 => "undo " ++ z
  | 4 => "many " ++ z
  | 5 => "refused " ++ z
  | 6 => "line " ++ z
  | 7 => "step"
  | _ => "web"
structure DfnX (P : Program) (w : World) (K : PySem.W.Frag) (mg : Str → Option Value) (base : Heap) (x : Str) (k : Nat) (ps : List Str) (sp : Sp) : Prop where
  h : ∃ (f : Addr) (fd : FuncData), mg x = some (.ref f) ∧ PySem.W.keepIn K (.ref f) = true ∧ Binds K fd ps [] ∧ FnOk P w K mg base (L2.CX P w) k f fd ps sp
structure DfnG (P : Program) (w : World) (K : PySem.W.Frag) (mg : Str → Option Value) (base : Heap) (x : Str) (k : Nat) (ps : List Str) (sp : Sp) : Prop where
  h : ∃ (f : Addr) (fd : FuncData), mg x = some (.ref f) ∧ PySem.W.keepIn K (.ref f) = true ∧ Binds K fd ps [] ∧ FnG P w K mg base k f fd ps sp
theorem pe_dG {X : Cx} {x : Str} {k : Nat} {ps : List Str} {sp : Sp} {e : Expr} {es : List Expr} {t : TA} {p pos : Pos} (D : DfnG X.prog X.w X.K X.mg X.base x k ps sp) (hr : Room k X.A) (hgd : X.A.guards = some []) (ha : PA X (e :: es) t) (hg : Gl X x := by rfl)
    (hdb : (x == ("__debug__" : Str)) = false := by decide) (he : starEach (e :: es) X.env = (false, eval e X.env) :: starEach es X.env := by rfl) (hpl : (backTo pos (starEach es X.env)).any (·.1) = false := by rfl) :
    PE X (.Call (.Name x p) (e :: es) [] pos) (tCall sp [] E0 t) := by
  obtain ⟨f, fd, m, kp, b, h⟩ := D
  exact pe_callG h hr hgd hg m kp b ha hdb he hpl
structure spWord (K : PySem.W.Frag) (vs : List V) (H : Hp) (Q : VK) (E : XK) : Prop where
  h : ∃ (i : Nat) (v : V) (z : Str), Shw K H v z ∧ vs = [.int i, v] ∧ i < 9 ∧ ∀ H', Same H H' → Q (.str (wordAt z i)) H'
section
variable {A0 : Ad} {P : Program} {w : World} {K : PySem.W.Frag} {mg : Str → Option Value} {base : Heap}
theorem sc_word : FnScope ["way", "value", "e"] ["way", "value"] (defScope s_law_word_of) := ⟨rfl, rfl, rfl, by decide +kernel, rfl, by decide +kernel, by decide +kernel⟩
theorem ok_law_word_of {f : Addr} {fd : FuncData} (F : Fun K "_law_word_of" "_law_word_of" s_law_word_of f fd) (T : Txt K mg A0) (DR : DfnX P w K mg base "_law_raised" 2 ["way", "value"] (spRaised A0)) : FnG P w K mg base 3 f fd ["way", "value"] (spWord K) := by
  refine GD.ok F sc_word (fun vs H Q E h => ?_) (fun cdv A outer s H vs Q E hr hgd h => ?_)
  · obtain ⟨i, v, z, _, rfl, _⟩ := h
    rfl
  · obtain ⟨i, v, z, hz, rfl, hi, k⟩ := h
    obtain ⟨fR, fdR, gR, kR, bR, hR⟩ := DR
    have hu : (A.deeper (envOfC "_law_word_of" (defScope s_law_word_of) s.heap.objs.size f cdv)).units + 100 < cLine := by have := hr.un; omega
    refine ⟨_, pss_one (XT.ps_try_mix (tb := fun W => tDrop (tCallS (spRaised A0) (WE W) (tCons (tVar 0) (tCons (tVar 1) tNil)))) (Wout := fun _ _ _ _ => False) rfl rfl takes0
      (fun W pn xe tk _ => pss_one (ps_expr (by exact (pe_callS hR hr rfl gR kR bR (fun σ => passAt tk σ) (pa_cons (pv 0) (pa_cons (pv 1) pa_nil))))))
      (.named (i := 2) ⟨rfl, by decide, Or.inl T.o_InvalidNumber.gC⟩ sc_word.nd rfl rfl (fun a oe cls d pn hz hf => pss_one (ps_ret (pe_op op_add_str pe_str (pe_callB (show CallR _ (.builtin "repr") (rRp K) from call_repr (by exact hu) hgd) (by rfl) T.n_repr (by decide +kernel) (pa_cons (XV.pe_fldX T.o_InvalidNumber hz hf (pv 2)) pa_nil)))))
      (.named (i := 2) ⟨rfl, by decide, Or.inl T.o_UnknownName.gC⟩ sc_word.nd rfl rfl (fun a oe cls d pn hz hf => pss_one (ps_ret (pe_op op_add_str pe_str (pe_callB (show CallR _ (.builtin "repr") (rRp K) from call_repr (by exact hu) hgd) (by rfl) T.n_repr (by decide +kernel) (pa_cons (XV.pe_fldX T.o_UnknownName hz hf (pv 2)) pa_nil)))))
      (.named (i := 2) ⟨rfl, by decide, Or.inl T.o_Parted.gC⟩ sc_word.nd rfl rfl (fun a oe cls d pn hz hf => pss_one (ps_ret (pe_op op_add_str pe_str (pe_callB (show CallR _ (.builtin "repr") (rRp K) from call_repr (by exact hu) hgd) (by rfl) T.n_repr (by decide +kernel) (pa_cons (XV.pe_fldX T.o_Parted hz hf (pv 2)) pa_nil)))))
      (.named (i := 2) ⟨rfl, by decide, Or.inl T.o_NothingToUndo.gC⟩ sc_word.nd rfl rfl (fun a oe cls d pn hz hf => pss_one (ps_ret (pe_op op_add_str pe_str (pe_callB (show CallR _ (.builtin "repr") (rRp K) from call_repr (by exact hu) hgd) (by rfl) T.n_repr (by decide +kernel) (pa_cons (XV.pe_fldX T.o_NothingToUndo hz hf (pv 2)) pa_nil)))))
      (.named (i := 2) ⟨rfl, by decide, Or.inl T.o_TooMany.gC⟩ sc_word.nd rfl rfl (fun a oe cls d pn hz hf => pss_one (ps_ret (pe_op op_add_str pe_str (pe_callB (show CallR _ (.builtin "repr") (rRp K) from call_repr (by exact hu) hgd) (by rfl) T.n_repr (by decide +kernel) (pa_cons (XV.pe_fldX T.o_TooMany hz hf (pv 2)) pa_nil)))))
      (.named (i := 2) ⟨rfl, by decide, Or.inl T.o_Refused.gC⟩ sc_word.nd rfl rfl (fun a oe cls d pn hz hf => pss_one (ps_ret (pe_op op_add_str pe_str (pe_callB (show CallR _ (.builtin "repr") (rRp K) from call_repr (by exact hu) hgd) (by rfl) T.n_repr (by decide +kernel) (pa_cons (XV.pe_fldX T.o_Refused hz hf (pv 2)) pa_nil)))))
      (.named (i := 2) ⟨rfl, by decide, Or.inl T.o_ParseError.gC⟩ sc_word.nd rfl rfl (fun a oe cls d pn hz hf => pss_one (ps_ret (pe_op op_add_str pe_str (pe_callB (show CallR _ (.builtin "repr") (rRp K) from call_repr (by exact hu) hgd) (by rfl) T.n_repr (by decide +kernel) (pa_cons (XV.pe_fldX T.o_ParseError hz hf (pv 2)) pa_nil)))))
      (.bare ⟨rfl, by decide, Or.inl T.p_InvalidStep.g⟩ (fun a oe cls d pn hz hf => pss_one (ps_ret pe_str))
      (.bare ⟨rfl, by decide, Or.inl T.p_WebError.g⟩ (fun a oe cls d pn hz hf => pss_one (ps_ret pe_str))
      .nil)))))))))), ?_⟩
    refine ⟨_, rfl, _, rfl, i, v, rfl, hi, ?_⟩
    match i, hi, k with
    | 0, _, k =>
      refine ⟨fun C f hC d hd => ?_, fun C hC => nomatch hC⟩
      cases hC
      refine ⟨true, T.exm.x_InvalidNumber_InvalidNumber, fun _ a ha => ?_, (fun q => nomatch q)⟩
      have S := same_new (o := .xd [("value", v)]) hd
      refine ⟨_, rfl, rfl, rfl, d, v, rfl, upd_same, v, z, rfl, hz.same S, _, _, rfl, rfl, ?_, k _ S⟩
      have := hz.sz
      exact Nat.le_trans (Nat.add_le_add_left this _) (by decide)
    | 1, _, k =>
      refine ⟨fun C f hC d hd => ?_, fun C hC => nomatch hC⟩
      cases hC
      refine ⟨false, T.exm.x_UnknownName_InvalidNumber, (fun q => nomatch q), fun _ => ?_⟩
      refine ⟨true, T.exm.x_UnknownName_UnknownName, fun _ a ha => ?_, (fun q => nomatch q)⟩
      have S := same_new (o := .xd [("word", v)]) hd
      refine ⟨_, rfl, rfl, rfl, d, v, rfl, upd_same, v, z, rfl, hz.same S, _, _, rfl, rfl, ?_, k _ S⟩
      have := hz.sz
      exact Nat.le_trans (Nat.add_le_add_left this _) (by decide)
    | 2, _, k =>
      refine ⟨fun C f hC d hd => ?_, fun C hC => nomatch hC⟩
      cases hC
      refine ⟨false, T.exm.x_Parted_InvalidNumber, (fun q => nomatch q), fun _ => ?_⟩
      refine ⟨false, T.exm.x_Parted_UnknownName, (fun q => nomatch q), fun _ => ?_⟩
      refine ⟨true, T.exm.x_Parted_Parted, fun _ a ha => ?_, (fun q => nomatch q)⟩
      have S := same_new (o := .xd [("parting", v)]) hd
      refine ⟨_, rfl, rfl, rfl, d, v, rfl, upd_same, v, z, rfl, hz.same S, _, _, rfl, rfl, ?_, k _ S⟩
      have := hz.sz
      exact Nat.le_trans (Nat.add_le_add_left this _) (by decide)
    | 3, _, k =>
      refine ⟨fun C f hC d hd => ?_, fun C hC => nomatch hC⟩
      cases hC
      refine ⟨false, T.exm.x_NothingToUndo_InvalidNumber, (fun q => nomatch q), fun _ => ?_⟩
      refine ⟨false, T.exm.x_NothingToUndo_UnknownName, (fun q => nomatch q), fun _ => ?_⟩
      refine ⟨false, T.exm.x_NothingToUndo_Parted, (fun q => nomatch q), fun _ => ?_⟩
      refine ⟨true, T.exm.x_NothingToUndo_NothingToUndo, fun _ a ha => ?_, (fun q => nomatch q)⟩
      have S := same_new (o := .xd [("many", v)]) hd
      refine ⟨_, rfl, rfl, rfl, d, v, rfl, upd_same, v, z, rfl, hz.same S, _, _, rfl, rfl, ?_, k _ S⟩
      have := hz.sz
      exact Nat.le_trans (Nat.add_le_add_left this _) (by decide)
    | 4, _, k =>
      refine ⟨fun C f hC d hd => ?_, fun C hC => nomatch hC⟩
      cases hC
      refine ⟨false, T.exm.x_TooMany_InvalidNumber, (fun q => nomatch q), fun _ => ?_⟩
      refine ⟨false, T.exm.x_TooMany_UnknownName, (fun q => nomatch q), fun _ => ?_⟩
      refine ⟨false, T.exm.x_TooMany_Parted, (fun q => nomatch q), fun _ => ?_⟩
      refine ⟨false, T.exm.x_TooMany_NothingToUndo, (fun q => nomatch q), fun _ => ?_⟩
      refine ⟨true, T.exm.x_TooMany_TooMany, fun _ a ha => ?_, (fun q => nomatch q)⟩
      have S := same_new (o := .xd [("limit", v)]) hd
      refine ⟨_, rfl, rfl, rfl, d, v, rfl, upd_same, v, z, rfl, hz.same S, _, _, rfl, rfl, ?_, k _ S⟩
      have := hz.sz
      exact Nat.le_trans (Nat.add_le_add_left this _) (by decide)
    | 5, _, k =>
      refine ⟨fun C f hC d hd => ?_, fun C hC => nomatch hC⟩
      cases hC
      refine ⟨false, T.exm.x_Refused_InvalidNumber, (fun q => nomatch q), fun _ => ?_⟩
      refine ⟨false, T.exm.x_Refused_UnknownName, (fun q => nomatch q), fun _ => ?_⟩
      refine ⟨false, T.exm.x_Refused_Parted, (fun q => nomatch q), fun _ => ?_⟩
      refine ⟨false, T.exm.x_Refused_NothingToUndo, (fun q => nomatch q), fun _ => ?_⟩
      refine ⟨false, T.exm.x_Refused_TooMany, (fun q => nomatch q), fun _ => ?_⟩
      refine ⟨true, T.exm.x_Refused_Refused, fun _ a ha => ?_, (fun q => nomatch q)⟩
      have S := same_new (o := .xd [("pledge", v)]) hd
      refine ⟨_, rfl, rfl, rfl, d, v, rfl, upd_same, v, z, rfl, hz.same S, _, _, rfl, rfl, ?_, k _ S⟩
      have := hz.sz
      exact Nat.le_trans (Nat.add_le_add_left this _) (by decide)
    | 6, _, k =>
      refine ⟨fun C f hC d hd => ?_, fun C hC => nomatch hC⟩
      cases hC
      refine ⟨false, T.exm.x_ParseError_InvalidNumber, (fun q => nomatch q), fun _ => ?_⟩
      refine ⟨false, T.exm.x_ParseError_UnknownName, (fun q => nomatch q), fun _ => ?_⟩
      refine ⟨false, T.exm.x_ParseError_Parted, (fun q => nomatch q), fun _ => ?_⟩
      refine ⟨false, T.exm.x_ParseError_NothingToUndo, (fun q => nomatch q), fun _ => ?_⟩
      refine ⟨false, T.exm.x_ParseError_TooMany, (fun q => nomatch q), fun _ => ?_⟩
      refine ⟨false, T.exm.x_ParseError_Refused, (fun q => nomatch q), fun _ => ?_⟩
      refine ⟨true, T.exm.x_ParseError_ParseError, fun _ a ha => ?_, (fun q => nomatch q)⟩
      have S := same_new (o := .xd [("number", v)]) hd
      refine ⟨_, rfl, rfl, rfl, d, v, rfl, upd_same, v, z, rfl, hz.same S, _, _, rfl, rfl, ?_, k _ S⟩
      have := hz.sz
      exact Nat.le_trans (Nat.add_le_add_left this _) (by decide)
    | 7, _, k =>
      refine ⟨fun C f hC => (nomatch hC), fun C hC => ?_⟩
      cases hC
      refine ⟨false, T.exm.x_InvalidStep_InvalidNumber, (fun q => nomatch q), fun _ => ?_⟩
      refine ⟨false, T.exm.x_InvalidStep_UnknownName, (fun q => nomatch q), fun _ => ?_⟩
      refine ⟨false, T.exm.x_InvalidStep_Parted, (fun q => nomatch q), fun _ => ?_⟩
      refine ⟨false, T.exm.x_InvalidStep_NothingToUndo, (fun q => nomatch q), fun _ => ?_⟩
      refine ⟨false, T.exm.x_InvalidStep_TooMany, (fun q => nomatch q), fun _ => ?_⟩
      refine ⟨false, T.exm.x_InvalidStep_Refused, (fun q => nomatch q), fun _ => ?_⟩
      refine ⟨false, T.exm.x_InvalidStep_ParseError, (fun q => nomatch q), fun _ => ?_⟩
      refine ⟨true, T.exm.x_InvalidStep_InvalidStep, fun _ a ha => ?_, (fun q => nomatch q)⟩
      exact k _ (Same.refl _)
    | 8, _, k =>
      refine ⟨fun C f hC => (nomatch hC), fun C hC => ?_⟩
      cases hC
      refine ⟨false, T.exm.x_InvalidModel_InvalidNumber, (fun q => nomatch q), fun _ => ?_⟩
      refine ⟨false, T.exm.x_InvalidModel_UnknownName, (fun q => nomatch q), fun _ => ?_⟩
      refine ⟨false, T.exm.x_InvalidModel_Parted, (fun q => nomatch q), fun _ => ?_⟩
      refine ⟨false, T.exm.x_InvalidModel_NothingToUndo, (fun q => nomatch q), fun _ => ?_⟩
      refine ⟨false, T.exm.x_InvalidModel_TooMany, (fun q => nomatch q), fun _ => ?_⟩
      refine ⟨false, T.exm.x_InvalidModel_Refused, (fun q => nomatch q), fun _ => ?_⟩
      refine ⟨false, T.exm.x_InvalidModel_ParseError, (fun q => nomatch q), fun _ => ?_⟩
      refine ⟨false, T.exm.x_InvalidModel_InvalidStep, (fun q => nomatch q), fun _ => ?_⟩
      refine ⟨true, T.exm.x_InvalidModel_WebError, fun _ a ha => ?_, (fun q => nomatch q)⟩
      exact k _ (Same.refl _)
end
/-! ### what the errors keep -/
def wordsL : List Str := ["number", "name", "parted", "undo", "many", "refused", "line"]
theorem dpa_strs {K : PySem.W.Frag} {H : Hp} : ∀ ss : List Str, DpAll K H (ss.map V.str) (ss.map PyData.str)
  | [] => .nil
  | b :: bs => .cons (.str b) (dpa_strs bs)
theorem told_eq (z : Str) : (List.range 9).map (wordAt z) = (wordsL.map fun w => (w ++ (" " : Str)) ++ z) ++ [("step" : Str), ("web" : Str)] := by
  have e0 : (("number" : Str) ++ (" " : Str)) = ("number " : Str) := by decide +kernel
  have e1 : (("name" : Str) ++ (" " : Str)) = ("name " : Str) := by decide +kernel
  have e2 : (("parted" : Str) ++ (" " : Str)) = ("parted " : Str) := by decide +kernel
  have e3 : (("undo" : Str) ++ (" " : Str)) = ("undo " : Str) := by decide +kernel
  have e4 : (("many" : Str) ++ (" " : Str)) = ("many " : Str) := by decide +kernel
  have e5 : (("refused" : Str) ++ (" " : Str)) = ("refused " : Str) := by decide +kernel
  have e6 : (("line" : Str) ++ (" " : Str)) = ("line " : Str) := by decide +kernel
  show [("number " : Str) ++ z, ("name " : Str) ++ z, ("parted " : Str) ++ z, ("undo " : Str) ++ z, ("many " : Str) ++ z, ("refused " : Str) ++ z, ("line " : Str) ++ z, ("step" : Str), ("web" : Str)] = [(("number" : Str) ++ (" " : Str)) ++ z, (("name" : Str) ++ (" " : Str)) ++ z, (("parted" : Str) ++ (" " : Str)) ++ z, (("undo" : Str) ++ (" " : Str)) ++ z, (("many" : Str) ++ (" " : Str)) ++ z, (("refused" : Str) ++ (" " : Str)) ++ z, (("line" : Str) ++ (" " : Str)) ++ z, ("step" : Str), ("web" : Str)]
  rw [e0, e1, e2, e3, e4, e5, e6]
theorem str_len_app (a b : Str) : (a ++ b).length = a.length + b.length := by
  show (a.cps ++ b.cps).size = _
  rw [Array.size_append]
  rfl
/-- two lists of the same texts are not unequal -/
theorem vals_strs : ∀ {ss : List Str} {its : List Value}, Vals (ss.map V.str) its → its.length = ss.length ∧ ∀ (j : Nat) (h1 : j < its.length) (h2 : j < ss.length), ∃ t, its[j] = .str ss[j] t
  | [], _, .nil => ⟨rfl, fun j h => absurd h (Nat.not_lt_zero _)⟩
  | s :: ss, _, .cons r rs => by
    obtain ⟨l, g⟩ := vals_strs rs
    refine ⟨by rw [List.length_cons, List.length_cons, l], fun j h1 h2 => ?_⟩
    cases j with
    | zero => exact r
    | succ n => exact g n _ _
theorem op_neS {X : Cx} (hu : X.A.units < cLine) : OpR X (compareOp .NotEq) (fun x y H Q => ∃ a b, ∃ ss : List Str, x = .ref a ∧ y = .ref b ∧ SqL X.K H a (ss.map V.str) ∧ SqL X.K H b (ss.map V.str) ∧ Q (.bl false) H) := by
  intro pins s σ H x y v u Q I rx ry h
  obtain ⟨a, b, ss, rfl, rfl, ha, hb, q⟩ := h
  cases rx
  cases ry
  obtain ⟨its, r1, p1, _⟩ := I.list ha
  obtain ⟨its2, r2, p2, _⟩ := I.list hb
  obtain ⟨l1, g1⟩ := vals_strs r1
  obtain ⟨l2, g2⟩ := vals_strs r2
  refine SeqAt.RcNeAt.lists (e := fun _ => true) p1.isList p2.isList (by simp [l1, l2]) hu (fun j h1 h2 => ?_) X.prog X.w _ _ ⟨.bl false, H, I, ?_, q⟩
  · rw [List.size_toArray] at h1 h2
    obtain ⟨t1, e1⟩ := g1 j h1 (by omega)
    obtain ⟨t2, e2⟩ := g2 j h2 (by omega)
    rw [List.getElem_toArray, List.getElem_toArray, e1, e2]
    have := SeqAt.EqAt.str_str (A := X.A.in1) (s := s) (ss[j]'(by omega)) t1 (ss[j]'(by omega)) t2
    rw [beq_self_eq_true] at this
    exact this
  · show _ = Value.bool false
    rw [List.all_eq_true.mpr (fun _ _ => rfl)]
    rfl
theorem kinds_make {K : PySem.W.Frag} {A : Ad} {C : Addr} {f : Str} {v : V} {H : Hp} {Q : VK} {E : XK} {b0 b1 b2 b3 b4 b5 b6 b7 : Bool} (he : ExcC K C) (hk : Kn K A.cWebError C b0 b1 b2 b3 b4 b5 b6 b7)
    (k : ∀ q H', Same H H' → H' q = some (.lst (kWords b0 b1 b2 b3 b4 b5 b6 b7)) → Q (.ref q) H') (a d : Addr) (ha : H a = none) (hd : H d = none) (hn : a ≠ d) : spKinds K A ([.ref a] ++ []) (upd (upd H d (.xd [(f, v)])) a (exq a C d)) Q E := by
  have hx := same_new (o := .xd [(f, v)]) hd
  have ha' : (upd H d (.xd [(f, v)])) a = none := (upd_ne hn).trans ha
  have hy := same_new (o := exq a C d) ha'
  exact ⟨.ref a, C, _, _, _, _, _, _, _, _, ⟨a, rfl, .inr ⟨d, _, _, upd_same, hy _ _ upd_same⟩⟩, rfl, he, hk, fun q hq => k q _ ((hx.trans hy).trans (same_new hq)) upd_same⟩
structure spKeep (K : PySem.W.Frag) (vs : List V) (H : Hp) (Q : VK) (E : XK) : Prop where
  h : ∃ (v : V) (z : Str), Shw K H v z ∧ vs = [v] ∧ ∀ H', Same H H' → Q (.bl true) H'
section
variable {A0 : Ad} {P : Program} {w : World} {K : PySem.W.Frag} {mg : Str → Option Value} {base : Heap}
theorem sc_keep : FnScope ["value", "told", "words", "kinds", "due", "way", "word"] ["value"] (defScope s_law_keepers_right) := ⟨rfl, rfl, rfl, by decide +kernel, rfl, by decide +kernel, by decide +kernel⟩
theorem ok_law_keepers_right {f : Addr} {fd : FuncData} (F : Fun K "_law_keepers_right" "_law_keepers_right" s_law_keepers_right f fd) (T : Txt K mg A0) (DW : DfnG P w K mg base "_law_word_of" 3 ["way", "value"] (spWord K)) (DK : Dfn P w K mg base "_law_kinds_of" 1 ["error"] (spKinds K A0)) :
    FnG P w K mg base 4 f fd ["value"] (spKeep K) := by
  refine GD.ok F sc_keep (fun vs H Q E h => ?_) (fun cdv A outer s H vs Q E hr hgd h => ?_)
  · obtain ⟨v, z, _, rfl, _⟩ := h
    rfl
  · obtain ⟨v, z, hz, rfl, k⟩ := h
    have hr1 : Room 1 _ := hr.mono (by decide)
    have hu : (A.deeper (envOfC "_law_keepers_right" (defScope s_law_keepers_right) s.heap.objs.size f cdv)).units + 100 < cLine := by have := hr.un; omega
    refine ⟨_, pss_cons ((ps_setLc (i := 1) (own := [("way", 5)]) (g := gName 5) (tt := tYes) rfl sc_keep.nd rfl rfl rfl (pi_range1 (by rfl) T.n_range (pa_cons pe_int pa_nil)) (blkOk_by (own := [("way", 5)]) (N := ["value", "told", "words", "kinds", "due", "way", "word"]) (sc := defScope s_law_keepers_right) (by decide +kernel)) (fun _ _ _ _ _ => pg_name (i := 5) sc_keep.nd rfl (Or.inl rfl)) (fun _ _ _ _ _ => pts_nil) (fun _ _ _ _ _ => pe_dG DW hr hgd (pa_cons (pv 5) (pa_cons (pv 0) pa_nil)))))
      (pss_cons (ps_set (i := 2) sc_keep.nd rfl (Or.inl rfl) (pe_lst (pa_cons pe_str (pa_cons pe_str (pa_cons pe_str (pa_cons pe_str (pa_cons pe_str (pa_cons pe_str (pa_cons pe_str pa_nil)))))))))
      (pss_cons (ps_if (pt_cmpR (op_neS (by exact Nat.lt_of_le_of_lt (Nat.le_add_right _ 100) hu)) (pv 1) (pe_op op_cat (pe_lc (own := [("word", 6)]) (g := gName 6) (tt := tYes) rfl sc_keep.nd (pi_list (pv 2)) (blkOk_by (own := [("word", 6)]) (N := ["value", "told", "words", "kinds", "due", "way", "word"]) (sc := defScope s_law_keepers_right) (by decide +kernel)) (fun _ _ _ _ _ => pg_name (i := 6) sc_keep.nd rfl (Or.inl rfl)) (fun _ _ _ _ _ => pts_nil) (fun _ _ _ _ _ => pe_op op_add_str (pe_op op_add_str (pv 6) pe_str) (pe_callB (show CallR _ (.builtin "repr") (rRp K) from call_repr (by exact hu) hgd) (by rfl) T.n_repr (by decide +kernel) (pa_cons (pv 0) pa_nil)))) (pe_lst (pa_cons pe_str (pa_cons pe_str pa_nil)))) (nomark _)) (pss_one (ps_ret pe_bl)) pss_nil)
      (pss_cons (ps_set (i := 3) sc_keep.nd rfl (Or.inl rfl) (pe_lst (pa_cons (pe_d DK hr1 (pa_cons (pe_makeX T.o_InvalidNumber hr1 (pa_cons (pv 0) pa_nil)) pa_nil)) (pa_cons (pe_d DK hr1 (pa_cons (pe_makeX T.o_UnknownName hr1 (pa_cons (pv 0) pa_nil)) pa_nil)) (pa_cons (pe_d DK hr1 (pa_cons (pe_makeX T.o_Parted hr1 (pa_cons (pv 0) pa_nil)) pa_nil)) pa_nil)))))
      (pss_cons (ps_set (i := 3) sc_keep.nd rfl (Or.inl rfl) (pe_op op_cat (pv 3) (pe_lst (pa_cons (pe_d DK hr1 (pa_cons (pe_makeX T.o_NothingToUndo hr1 (pa_cons (pv 0) pa_nil)) pa_nil)) (pa_cons (pe_d DK hr1 (pa_cons (pe_makeX T.o_TooMany hr1 (pa_cons (pv 0) pa_nil)) pa_nil)) (pa_cons (pe_d DK hr1 (pa_cons (pe_makeX T.o_Refused hr1 (pa_cons (pv 0) pa_nil)) pa_nil)) pa_nil))))))
      (pss_cons (ps_set (i := 4) sc_keep.nd rfl (Or.inl rfl) (pe_lst (pa_cons (pe_lst (pa_cons pe_str (pa_cons pe_str pa_nil))) (pa_cons (pe_lst (pa_cons pe_str (pa_cons pe_str pa_nil))) (pa_cons (pe_lst (pa_cons pe_str pa_nil)) (pa_cons (pe_lst (pa_cons pe_str pa_nil)) (pa_cons (pe_lst (pa_cons pe_str (pa_cons pe_str pa_nil))) (pa_cons (pe_lst (pa_cons pe_str pa_nil)) pa_nil))))))))
      (pss_one (ps_ret (pe_and (pe_cmpR (op_eqD hr.units) (pv 3) (pv 4) (nomark _)) (pe_one (pe_cmpR (op_eqD hr.units) (pe_d DK hr1 (pa_cons (pe_makeX T.o_ParseError hr1 (pa_cons (pv 0) pa_nil)) pa_nil)) (pe_lst (pa_cons pe_str (pa_cons pe_str pa_nil))) (nomark _))))))))))), ?_⟩
    have hs := line1000
    have hs2 : (3000 : Nat) < sizeLine := by decide
    refine ⟨_, rfl, by decide, by decide, fun D hD => ?_⟩
    refine lc_range (lo := 0) (n := 9) (fun i H' => Same H H' ∧ H' D = some (.lst (((List.range i).map (wordAt z)).map V.str))) ⟨same_new hD, upd_same⟩ ?_ ?_
    · rintro i H1 hi ⟨s1, hD1⟩
      refine ⟨rfl, ?_⟩
      refine ⟨_, rfl, _, rfl, ⟨i, v, z, hz.same s1, by show [V.int (0 + (i : Int)), v] = _; rw [Int.zero_add], hi, fun H2 s2 => ?_⟩⟩
      refine ⟨_, s2 _ _ hD1, ?_, same_own (s1.trans s2) hD, ?_⟩
      · rw [List.length_map, List.length_map, List.length_range]
        omega
      · rw [upd_same, List.range_succ, List.map_append, List.map_append]
        rfl
    rintro H1 ⟨s1, hD1⟩
    refine ⟨(by decide : 7 ≤ sizeLine), fun b hb => ?_⟩
    have sb := same_new (o := .lst (wordsL.map V.str)) hb
    have hbs : (upd H1 b (.lst (wordsL.map V.str))) b = some (.lst (wordsL.map V.str)) := upd_same
    refine ⟨_, rfl, ?_⟩
    refine ⟨_, rfl, b, rfl, ⟨_, SqL.of hbs⟩, fun G hG => ?_⟩
    refine lc_list (K := K) (a := b) (xs := wordsL.map V.str) (fun i H' => Same (upd H1 b (.lst (wordsL.map V.str))) H' ∧ H' G = some (.lst (((wordsL.take i).map fun w => (w ++ (" " : Str)) ++ z).map V.str))) ⟨same_new hG, upd_same⟩ (fun i H' _ p => SqL.of (p.1 _ _ hbs)) ?_ ?_
    · rintro i x H2 hi ⟨s2, hG2⟩
      obtain ⟨y, hy, rfl⟩ : ∃ y, wordsL[i]? = some y ∧ x = V.str y := by
        rw [List.getElem?_map] at hi
        cases e : wordsL[i]? with
        | none =>
          rw [e] at hi
          cases hi
        | some y =>
          rw [e] at hi
          exact ⟨y, rfl, (Option.some.inj hi).symm⟩
      have hyl : y.length ≤ 10 := (by decide +kernel : ∀ y ∈ wordsL, y.length ≤ 10) y (List.mem_of_getElem? hy)
      have hil : i < wordsL.length := (List.getElem?_eq_some_iff.mp hy).1
      have hl7 : wordsL.length = 7 := rfl
      have hyl2 : (y ++ (" " : Str)).length ≤ 11 := by
        have : (y ++ (" " : Str)).length = y.length + 1 := str_len_app y " "
        omega
      have hzl := hz.sz
      refine ⟨rfl, ?_⟩
      refine ⟨_, rfl, y, _, rfl, rfl, ?_, ?_⟩
      · have : (" " : Str).length = 1 := rfl
        omega
      refine ⟨_, rfl, v, z, rfl, (hz.same s1).same (fun b o e => s2 b o (sb b o e)), _, _, rfl, rfl, by omega, ?_⟩
      refine ⟨_, hG2, ?_, same_own s2 hG, ?_⟩
      · rw [List.length_map, List.length_map, List.length_take]
        omega
      · rw [upd_same, take_more hy, List.map_append, List.map_append]
        rfl
    rintro H2 ⟨s2, hG2⟩
    refine ⟨(by decide : 2 ≤ sizeLine), fun c hc => ?_⟩
    have sc := same_new (o := .lst [.str "step", .str "web"]) hc
    refine ⟨G, c, _, _, rfl, rfl, sc G _ hG2, upd_same, (by decide : 7 + 2 ≤ sizeLine), fun m hm => ?_⟩
    have sm := same_new (o := .lst (((wordsL.take (wordsL.map V.str).length).map fun w => (w ++ (" " : Str)) ++ z).map V.str ++ [.str "step", .str "web"])) hm
    have hD3 := sm D _ (sc D _ (s2 D _ (sb D _ hD1)))
    refine ⟨D, m, (List.range 9).map (wordAt z), rfl, rfl, SqL.of hD3, by rw [told_eq z]; exact SqL.of upd_same, ?_⟩
    refine ⟨false, rfl, ifF rfl ?_⟩
    have sF : Same H _ := (((s1.trans sb).trans s2).trans sc).trans sm
    have hzF := hz.same sF
    generalize (upd (upd H2 c (.lst [.str "step", .str "web"])) m (.lst (((wordsL.take (wordsL.map V.str).length).map fun w => (w ++ (" " : Str)) ++ z).map V.str ++ [.str "step", .str "web"]))) = H3 at sF hzF hD3
    clear hz hD1 hb sb hbs hG s2 hG2 hc sc hm sm
    refine ⟨_, rfl, v, rfl, kinds_make T.e_InvalidNumber T.k_InvalidNumber fun q0 X0 S0 g0 => ?_⟩
    refine ⟨_, rfl, v, rfl, kinds_make T.e_UnknownName T.k_UnknownName fun q1 X1 S1 g1 => ?_⟩
    refine ⟨_, rfl, v, rfl, kinds_make T.e_Parted T.k_Parted fun q2 X2 S2 g2 => ?_⟩
    refine ⟨(by decide : 3 ≤ sizeLine), fun l1 hl1 => ?_⟩
    have SL1 := same_new (o := .lst [.ref q0, .ref q1, .ref q2]) hl1
    refine ⟨_, rfl, ?_⟩
    refine ⟨_, rfl, v, rfl, kinds_make T.e_NothingToUndo T.k_NothingToUndo fun q3 X3 S3 g3 => ?_⟩
    refine ⟨_, rfl, v, rfl, kinds_make T.e_TooMany T.k_TooMany fun q4 X4 S4 g4 => ?_⟩
    refine ⟨_, rfl, v, rfl, kinds_make T.e_Refused T.k_Refused fun q5 X5 S5 g5 => ?_⟩
    refine ⟨(by decide : 3 ≤ sizeLine), fun l2 hl2 => ?_⟩
    have SL2 := same_new (o := .lst [.ref q3, .ref q4, .ref q5]) hl2
    refine ⟨l1, l2, _, _, rfl, rfl, SL2 _ _ (S5 _ _ (S4 _ _ (S3 _ _ upd_same))), upd_same, (by decide : 3 + 3 ≤ sizeLine), fun m hm => ?_⟩
    have SM := same_new (o := .lst ([.ref q0, .ref q1, .ref q2] ++ [.ref q3, .ref q4, .ref q5])) hm
    obtain ⟨X6, S6, gm, h0, h1, h2, h3, h4, h5, eX⟩ : ∃ X6, Same H X6 ∧ X6 m = some (.lst ([.ref q0, .ref q1, .ref q2] ++ [.ref q3, .ref q4, .ref q5])) ∧ X6 q0 = _ ∧ X6 q1 = _ ∧ X6 q2 = _ ∧ X6 q3 = _ ∧ X6 q4 = _ ∧ X6 q5 = _ ∧ (upd (upd X5 l2 (.lst [.ref q3, .ref q4, .ref q5])) m (.lst ([.ref q0, .ref q1, .ref q2] ++ [.ref q3, .ref q4, .ref q5]))) = X6 :=
      ⟨_, sF.trans (S0.trans (S1.trans (S2.trans (SL1.trans (S3.trans (S4.trans (S5.trans (SL2.trans SM)))))))), upd_same, SM _ _ (SL2 _ _ (S5 _ _ (S4 _ _ (S3 _ _ (SL1 _ _ (S2 _ _ (S1 _ _ g0))))))), SM _ _ (SL2 _ _ (S5 _ _ (S4 _ _ (S3 _ _ (SL1 _ _ (S2 _ _ g1)))))), SM _ _ (SL2 _ _ (S5 _ _ (S4 _ _ (S3 _ _ (SL1 _ _ g2))))), SM _ _ (SL2 _ _ (S5 _ _ (S4 _ _ g3))), SM _ _ (SL2 _ _ (S5 _ _ g4)), SM _ _ (SL2 _ _ g5), rfl⟩
    rw [eX]
    clear eX SM hm SL2 hl2 S5 S4 S3 S2 S1 S0 SL1 hl1 g0 g1 g2 g3 g4 g5
    refine ⟨(by decide : 2 ≤ sizeLine), fun e0 he0 => ?_⟩
    refine ⟨(by decide : 2 ≤ sizeLine), fun e1 he1 => ?_⟩
    refine ⟨(by decide : 1 ≤ sizeLine), fun e2 he2 => ?_⟩
    refine ⟨(by decide : 1 ≤ sizeLine), fun e3 he3 => ?_⟩
    refine ⟨(by decide : 2 ≤ sizeLine), fun e4 he4 => ?_⟩
    refine ⟨(by decide : 1 ≤ sizeLine), fun e5 he5 => ?_⟩
    refine ⟨(by decide : 6 ≤ sizeLine), fun u hu6 => ?_⟩
    have t0 := same_new (o := .lst [.str "lookup", .str "index"]) he0
    have t1 := same_new (o := .lst [.str "lookup", .str "key"]) he1
    have t2 := same_new (o := .lst [.str "lookup"]) he2
    have t3 := same_new (o := .lst [.str "runtime"]) he3
    have t4 := same_new (o := .lst [.str "arithmetic", .str "overflow"]) he4
    have t5 := same_new (o := .lst [.str "arithmetic"]) he5
    have tu := same_new (o := .lst [.ref e0, .ref e1, .ref e2, .ref e3, .ref e4, .ref e5]) hu6
    refine ⟨_, rfl, _, rfl, _, _, (.lst (SqL.of (tu _ _ (t5 _ _ (t4 _ _ (t3 _ _ (t2 _ _ (t1 _ _ (t0 _ _ gm)))))))) (.cons (.lst (SqL.of (tu _ _ (t5 _ _ (t4 _ _ (t3 _ _ (t2 _ _ (t1 _ _ (t0 _ _ h0)))))))) (.cons (.str _) (.cons (.str _) .nil))) (.cons (.lst (SqL.of (tu _ _ (t5 _ _ (t4 _ _ (t3 _ _ (t2 _ _ (t1 _ _ (t0 _ _ h1)))))))) (.cons (.str _) (.cons (.str _) .nil))) (.cons (.lst (SqL.of (tu _ _ (t5 _ _ (t4 _ _ (t3 _ _ (t2 _ _ (t1 _ _ (t0 _ _ h2)))))))) (.cons (.str _) .nil)) (.cons (.lst (SqL.of (tu _ _ (t5 _ _ (t4 _ _ (t3 _ _ (t2 _ _ (t1 _ _ (t0 _ _ h3)))))))) (.cons (.str _) .nil)) (.cons (.lst (SqL.of (tu _ _ (t5 _ _ (t4 _ _ (t3 _ _ (t2 _ _ (t1 _ _ (t0 _ _ h4)))))))) (.cons (.str _) (.cons (.str _) .nil))) (.cons (.lst (SqL.of (tu _ _ (t5 _ _ (t4 _ _ (t3 _ _ (t2 _ _ (t1 _ _ (t0 _ _ h5)))))))) (.cons (.str _) .nil)) .nil))))))), (.lst (SqL.of upd_same) (.cons (.lst (SqL.of (tu _ _ (t5 _ _ (t4 _ _ (t3 _ _ (t2 _ _ (t1 _ _ upd_same))))))) (.cons (.str _) (.cons (.str _) .nil))) (.cons (.lst (SqL.of (tu _ _ (t5 _ _ (t4 _ _ (t3 _ _ (t2 _ _ upd_same)))))) (.cons (.str _) (.cons (.str _) .nil))) (.cons (.lst (SqL.of (tu _ _ (t5 _ _ (t4 _ _ (t3 _ _ upd_same))))) (.cons (.str _) .nil)) (.cons (.lst (SqL.of (tu _ _ (t5 _ _ (t4 _ _ upd_same)))) (.cons (.str _) .nil)) (.cons (.lst (SqL.of (tu _ _ (t5 _ _ upd_same))) (.cons (.str _) (.cons (.str _) .nil))) (.cons (.lst (SqL.of (tu _ _ upd_same)) (.cons (.str _) .nil)) .nil))))))), by decide +kernel, by decide +kernel, ?_⟩
    refine ⟨true, congrArg V.bl (by decide +kernel), ifT rfl ?_⟩
    refine ⟨_, rfl, v, rfl, kinds_make T.e_ParseError T.k_ParseError fun q6 X7 S7 g7 => ?_⟩
    refine ⟨(by decide : 2 ≤ sizeLine), fun r hr2 => ?_⟩
    refine ⟨_, _, .lst (SqL.of ((same_new hr2) _ _ g7)) (.cons (.str _) (.cons (.str _) .nil)), .lst (SqL.of upd_same) (.cons (.str _) (.cons (.str _) .nil)), by decide +kernel, by decide +kernel, ?_⟩
    exact q_bl (Q := Q) (by decide +kernel) (k _ (S6.trans (t0.trans (t1.trans (t2.trans (t3.trans (t4.trans (t5.trans (tu.trans (S7.trans (same_new hr2)))))))))))
end
/-! ### what the law draws, and how it is shown -/
/-- the heap without the dice -/
def off (H : Hp) (d : Addr) : Hp := fun b => if b = d then none else H b
theorem off_ne {H : Hp} {d b : Addr} (h : b ≠ d) : off H d b = H b := if_neg h
theorem off_go {d : Addr} {H H' : Hp} (g : Go d H H') : ∀ b o, off H d b = some o → H' b = some o := fun b o e => by
  by_cases hb : b = d
  · unfold off at e
    rw [if_pos hb] at e
    cases e
  · rw [off_ne hb] at e
    exact g.keep b o hb e
theorem rt_len {x : Str} (h1 : x.length ≤ 10) (h2 : ∀ c ∈ x.cps.toList, c < 1000) : (reprText x).length ≤ 102 := by
  have := StrLaws.reprText_len x fun c hc => Nat.lt_of_lt_of_le (h2 c hc) (by decide)
  omega
theorem shw_str {K : PySem.W.Frag} {H : Hp} {x : Str} (h1 : x.length ≤ 10) (h2 : ∀ c ∈ x.cps.toList, c < 1000) : ∃ z, Shw K H (.str x) z :=
  ⟨_, ⟨_, _, .str x, rfl, (fun h => nomatch h), rfl, by simp only [PyData.depth]; omega⟩, by
    have := rt_len h1 h2
    simp only [PyData.shown]
    omega⟩
theorem shw_int {K : PySem.W.Frag} {H : Hp} {i : Int} (h : i.natAbs.log2 < 1920) : ∃ z, Shw K H (.int i) z :=
  ⟨_, ⟨_, _, .int i, decide_eq_true h, (fun h => nomatch h), rfl, by simp only [PyData.depth]; omega⟩, by
    simp only [PyData.shown]
    have := int_text_len_1921 h
    omega⟩
theorem shw_non {K : PySem.W.Frag} {H : Hp} : ∃ z, Shw K H .non z := ⟨_, ⟨_, _, .non, rfl, (fun h => nomatch h), rfl, by simp only [PyData.depth]; omega⟩, by decide +kernel⟩
theorem shw_bl {K : PySem.W.Frag} {H : Hp} {b : Bool} : ∃ z, Shw K H (.bl b) z := ⟨_, ⟨_, _, .bl b, rfl, (fun h => nomatch h), rfl, by simp only [PyData.depth]; omega⟩, by cases b <;> decide +kernel⟩
theorem shw_tup {K : PySem.W.Frag} {H : Hp} {a : Addr} {x : Str} (h : H a = some (.tup [.str x, .int 1])) (h1 : x.length ≤ 10) (h2 : ∀ c ∈ x.cps.toList, c < 1000) : ∃ z, Shw K H (.ref a) z := by
  refine ⟨_, ⟨_, _, .tup (SqT.of h) (.cons (.str x) (.cons (.int 1) .nil)), ?_, (fun q => ?_), rfl, ?_⟩, ?_⟩
  · rfl
  · simp [PyData.hasDict, PyData.hasDictAll] at q
  · simp [PyData.depth, PyData.depthAll]
  · simp only [PyData.shown, PyData.shownAll]
    have e1 := tupleText_len_le [reprText x, Str.ofString (toString (1 : Int))]
    have e2 := rt_len h1 h2
    have e3 : (Str.ofString (toString (1 : Int))).length = 1 := by decide +kernel
    simp only [List.map_cons, List.map_nil, List.sum_cons, List.sum_nil, List.length_cons, List.length_nil] at e1
    omega
theorem shw_lst {K : PySem.W.Frag} {H : Hp} {a : Addr} {x : Str} (h : H a = some (.lst [.str x])) (h1 : x.length ≤ 10) (h2 : ∀ c ∈ x.cps.toList, c < 1000) : ∃ z, Shw K H (.ref a) z := by
  refine ⟨_, ⟨_, _, .lst (SqL.of h) (.cons (.str x) .nil), ?_, (fun q => ?_), rfl, ?_⟩, ?_⟩
  · simp only [PyData.showable, PyData.showableAll, Bool.true_and, Bool.and_true]
  · simp [PyData.hasDict, PyData.hasDictAll] at q
  · simp [PyData.depth, PyData.depthAll]
  · simp only [PyData.shown, PyData.shownAll]
    have e1 := listText_len_le [reprText x]
    have e2 := rt_len h1 h2
    simp only [List.map_cons, List.map_nil, List.sum_cons, List.sum_nil, List.length_cons, List.length_nil] at e1
    omega
theorem shw_dct {K : PySem.W.Frag} {H : Hp} {a : Addr} {x : Str} (h : H a = some (.dK [(.inr x, .int 0)])) (h1 : x.length ≤ 10) (h2 : ∀ c ∈ x.cps.toList, c < 1000) : ∃ z, Shw K H (.ref a) z := by
  refine ⟨_, ⟨_, _, .dct h (.cons (.int 0) .nil), ?_, (fun q b hb => ?_), rfl, ?_⟩, ?_⟩
  · rfl
  · have : b = a := by simpa using hb
    exact ⟨_, this ▸ h⟩
  · simp [kD, PyData.depth, PyData.depthKv]
  · have e1 := dictText_len_le [reprText x ++ Str.ofString ": " ++ Str.ofString (toString (0 : Int))]
    have e2 := rt_len h1 h2
    have e3 : (Str.ofString (toString (0 : Int))).length = 1 := by decide +kernel
    have e4 : (Str.ofString ": ").length = 2 := by decide +kernel
    have e5 := str_len_app (reprText x ++ Str.ofString ": ") (Str.ofString (toString (0 : Int)))
    have e6 := str_len_app (reprText x) (Str.ofString ": ")
    simp only [List.map_cons, List.map_nil, List.sum_cons, List.sum_nil, List.length_cons, List.length_nil] at e1
    show (dictText [reprText x ++ Str.ofString ": " ++ Str.ofString (toString (0 : Int))]).length ≤ 2000
    omega
theorem shw_tt {K : PySem.W.Frag} {H : Hp} {a b : Addr} (h : SqT K H a [.ref b]) (hb : SqT K H b []) : ∃ z, Shw K H (.ref a) z := by
  refine ⟨_, ⟨_, _, .tup h (.cons (.tup hb .nil) .nil), ?_, (fun q => ?_), rfl, ?_⟩, ?_⟩
  · rfl
  · simp [PyData.hasDict, PyData.hasDictAll] at q
  · simp [PyData.depth, PyData.depthAll]
  · decide +kernel
theorem abc_lo : ∀ c ∈ ("abcz_ 1" : Str).cps.toList, c < 1000 := by decide +kernel
open TL (tl len_tl tl_append joinL tl_join join_eq)
theorem joinL_nil : ∀ ls : List (List Nat), joinL [] ls = ls.flatten
  | [] => rfl
  | [p] => by simp [joinL]
  | p :: q :: r => by
    show p ++ ([] ++ joinL [] (q :: r)) = _
    rw [List.nil_append, joinL_nil (q :: r)]
    rfl
theorem join_tl (ys : List Str) : (Txt.join "" ys).cps.toList = (ys.map tl).flatten := by
  rw [join_eq]
  exact (tl_join _ ys).trans (joinL_nil _)
/-- texts of one low sign each, joined -/
theorem join_low {ys : List Str} (h : ∀ y ∈ ys, ∃ c, c < 1000 ∧ y = ⟨#[c]⟩) : (Txt.join "" ys).length = ys.length ∧ ∀ c ∈ (Txt.join "" ys).cps.toList, c < 1000 := by
  have e : ∀ ys : List Str, (∀ y ∈ ys, ∃ c, c < 1000 ∧ y = ⟨#[c]⟩) → ((ys.map tl).flatten).length = ys.length ∧ ∀ c ∈ (ys.map tl).flatten, c < 1000 := by
    intro ys
    induction ys with
    | nil => intro _; exact ⟨rfl, fun c hc => nomatch hc⟩
    | cons y ys ih =>
      intro h
      obtain ⟨c, hc, rfl⟩ := h y List.mem_cons_self
      obtain ⟨i1, i2⟩ := ih fun z hz => h z (List.mem_cons_of_mem _ hz)
      refine ⟨?_, fun d hd => ?_⟩
      · rw [List.map_cons, List.flatten_cons, List.length_append, i1]
        show 1 + ys.length = ys.length + 1
        omega
      · rw [List.map_cons, List.flatten_cons, List.mem_append] at hd
        rcases hd with hd | hd
        · have : d = c := by simpa [tl] using hd
          omega
        · exact i2 d hd
  obtain ⟨e1, e2⟩ := e ys h
  refine ⟨?_, fun c hc => e2 c (by rwa [join_tl] at hc)⟩
  rw [len_tl]
  show (Txt.join "" ys).cps.toList.length = _
  rw [join_tl, e1]
theorem sum_one {ys : List Str} (h : ∀ y ∈ ys, ∃ c, c < 1000 ∧ y = ⟨#[c]⟩) : (ys.map (·.length)).sum ≤ ys.length := by
  induction ys with
  | nil => simp
  | cons y ys ih =>
    obtain ⟨c, _, rfl⟩ := h y List.mem_cons_self
    have := ih fun z hz => h z (List.mem_cons_of_mem _ hz)
    simp only [List.map_cons, List.sum_cons, List.length_cons]
    have e : (⟨#[c]⟩ : Str).length = 1 := rfl
    omega
theorem roll_goW {d : Addr} {H : Hp} {n : Int} {Q : VK} {E : XK} (hd : Dice H d) (hc : CDivW 0 n) (k : ∀ (j : Int) (H' : Hp), 0 ≤ j → j < n → Go d H H' → Q (.int j) H') : spRoll [.ref d, .int n] H Q E :=
  ⟨d, n, hd, rfl, hc, fun j a b c g0 g1 => k j _ g0 g1 ((Go.refl hd).roll a b c)⟩
theorem cd59 : CDivW 0 ((10 : Int) ^ Int.toNat 59) := wide_div (b := 200) (by decide +kernel) (by decide +kernel) (by decide) (by decide)
theorem log59 {j : Int} (h0 : 0 ≤ j) (h1 : j < (10 : Int) ^ Int.toNat 59) : j.natAbs.log2 < 1920 := by
  have h2 : j.natAbs < 2 ^ 200 := by
    have : (10 : Int) ^ Int.toNat 59 < 2 ^ 200 := by decide +kernel
    omega
  by_cases e : j.natAbs = 0
  · rw [e]; decide
  · exact Nat.lt_of_lt_of_le ((Nat.log2_lt e).mpr h2) (by decide)
theorem log99 {j : Int} (h0 : 0 ≤ j) (h1 : j < 99) : (0 - j).natAbs.log2 < 1920 := by
  by_cases e : (0 - j).natAbs = 0
  · rw [e]; decide
  · refine Nat.lt_of_lt_of_le ((Nat.log2_lt e).mpr (show (0 - j).natAbs < 2 ^ 7 by omega)) (by decide)
structure spLaw (K : PySem.W.Frag) (vs : List V) (H : Hp) (Q : VK) (E : XK) : Prop where
  h : ∃ (a : Addr) (ns : List Int), SqL K H a (ns.map V.int) ∧ vs = [.ref a] ∧ ns.length ≤ 63 ∧ ∀ H', Q (.bl true) H'
theorem Go.old {d : Addr} {H H1 H2 : Hp} (s : Same H H1) (hd : H d = none) (g : Go d H1 H2) : Same H H2 := fun b o e => g.keep b o (ne_of_none e hd) (s b o e)
section
variable {A0 : Ad} {P : Program} {w : World} {K : PySem.W.Frag} {mg : Str → Option Value} {base : Heap}
theorem sc_law : FnScope ["script", "spot", "dice", "turn", "word", "some"] ["script"] (defScope s_law) := ⟨rfl, rfl, rfl, by decide +kernel, rfl, by decide +kernel, by decide +kernel⟩
theorem ok_law {f : Addr} {fd : FuncData} (F : Fun K "law" "law" s_law f fd) (T : Txt K mg A0) (DD : Dfn P w K mg base "_law_dice" 1 ["script", "spot"] (spDice K)) (DR : Dfn P w K mg base "_law_roll" 1 ["dice", "total"] spRoll) (DC : Dfn P w K mg base "_law_pick" 2 ["dice", "items"] spPick)
    (DK : Dfn P w K mg base "_law_kinds_of" 1 ["error"] (spKinds K A0)) (DE : DfnG P w K mg base "_law_keepers_right" 4 ["value"] (spKeep K)) (DS : Dfn P w K mg base "_law_singles_right" 2 [] spSingles) :
    FnG P w K mg base 5 f fd ["script"] (spLaw K) := by
  refine GD.ok F sc_law (fun vs H Q E h => ?_) (fun cdv A outer s H vs Q E hr hgd h => ?_)
  · obtain ⟨a, ns, _, rfl, _⟩ := h
    rfl
  · obtain ⟨a, ns, hS, rfl, hlen, k⟩ := h
    have hr1 : Room 1 _ := hr.mono (by decide)
    have hr2 : Room 2 _ := hr.mono (by decide)
    refine ⟨_, pss_cons (ps_for PassesOwn.never rfl (pi_range1 (by rfl) T.n_range (pa_cons (pe_callB (call_max2 rfl) (by rfl) T.n_max (by decide +kernel) (pa_cons pe_int (pa_cons (pe_callB (call_min2 rfl) (by rfl) T.n_min (by decide +kernel) (pa_cons pe_int (pa_cons (pe_callB call_len (by rfl) T.n_len (by decide +kernel) (pa_cons (pv 0) pa_nil)) pa_nil))) pa_nil))) pa_nil)) (pg_name (i := 1) sc_law.nd rfl (Or.inl rfl))
        (pss_cons (ps_set (i := 2) sc_law.nd rfl (Or.inr rfl) (pe_d DD hr1 (pa_cons (pv 0) (pa_cons (pv 1) pa_nil))))
        (pss_cons (ps_set (i := 4) sc_law.nd rfl (Or.inl rfl) (pe_join pe_str (pe_lc (own := [("turn", 3)]) (g := gName 3) (tt := tYes) rfl sc_law.nd (pi_range1 (by rfl) T.n_range (pa_cons (pe_d DR hr1 (pa_cons (pv 2) (pa_cons pe_int pa_nil))) pa_nil))
            (blkOk_by (own := [("turn", 3)]) (N := ["script", "spot", "dice", "turn", "word", "some"]) (sc := defScope s_law) (by decide +kernel)) (fun _ _ _ _ _ => pg_name (i := 3) sc_law.nd rfl (Or.inl rfl)) (fun _ _ _ _ _ => pts_nil) (fun _ _ _ _ _ => pe_d DC hr2 (pa_cons (pv 2) (pa_cons pe_str pa_nil))))))
        (pss_cons (ps_set (i := 5) sc_law.nd rfl (Or.inl rfl) (pe_lst (pa_cons (pv 4) (pa_cons (pe_d DR hr1 (pa_cons (pv 2) (pa_cons (pe_op op_pow pe_int pe_int) pa_nil))) (pa_cons (pe_op op_sub pe_int (pe_d DR hr1 (pa_cons (pv 2) (pa_cons pe_int pa_nil)))) (pa_cons pe_non (pa_cons pe_bl
            (pa_cons (pe_tup (pa_cons (pv 4) (pa_cons pe_int pa_nil))) (pa_cons (pe_lst (pa_cons (pv 4) pa_nil)) (pa_cons (pe_disp (pps_cons (pv 4) pe_int pps_nil) (by rfl) (by rfl) (fun z => by cases z) (by decide)) (pa_cons (pe_tup (pa_cons (pe_tup pa_nil) pa_nil)) (pa_cons pe_str pa_nil))))))))))))
        (pss_one (ps_for PassesOwn.never rfl (pi_range1 (by rfl) T.n_range (pa_cons pe_int pa_nil)) (pg_name (i := 3) sc_law.nd rfl (Or.inl rfl))
          (pss_one (ps_if (pt_not (pt_val (pe_dG DE hr hgd (pa_cons (pe_d DC hr2 (pa_cons (pv 2) (pa_cons (pv 5) pa_nil))) pa_nil)))) (pss_one (ps_ret pe_bl)) pss_nil))))))))
      (pss_one (ps_ret (pe_and (pe_d0 DS hr2) (pe_one (pe_cmpR (op_eqD hr.units) (pe_d DK hr1 (pa_cons (pe_exc1 PySem.F.excBase_ValueError T.p_WebError.q T.p_WebError.g T.p_WebError.k (by rfl) pe_str) pa_nil)) (pe_lst (pa_cons pe_str (pa_cons pe_str pa_nil))) (nomark _)))))), ?_⟩
    have hl := line1000
    have size1 : 1 ≤ sizeLine := by decide
    walk_at "rr"
    refine ⟨_, _, rfl, .inl ⟨_, hS, rfl⟩, ?_⟩
    walk_at "rr"
    rw [List.length_map]
    refine ⟨by split <;> (try split) <;> omega, by split <;> (try split) <;> omega, ?_⟩
    generalize (if (if (ns.length : Int) < 6 then (ns.length : Int) else 6) > 1 then (if (ns.length : Int) < 6 then (ns.length : Int) else 6) else 1).toNat = m
    refine for_range (lo := 0) (n := m) (fun i σ H' => ∃ v1 v2 v3 v4 v5 : Option V, σ = [some (.ref a), v1, v2, v3, v4, v5] ∧ Same H H') ⟨_, _, _, _, _, rfl, Same.refl _⟩ ?_ ?_
    · rintro i σ H1 hi ⟨v1, v2, v3, v4, v5, rfl, s1⟩
      walk_at "rr"
      refine ⟨a, ns, i, s1.seq hS, by show [V.ref a, V.int (0 + (i : Int))] = _; rw [Int.zero_add], fun p x y z hp => ?_⟩
      have gd : Dice (upd H1 p (.lst [.int x, .int y, .int z])) p := ⟨x, y, z, upd_same⟩
      have g0 : Go p (upd H1 p (.lst [.int x, .int y, .int z])) (upd H1 p (.lst [.int x, .int y, .int z])) := Go.refl gd
      walk_at "rr"
      refine roll_go gd (by decide) (by decide) fun j2 H2 h20 h21 g2 => ?_
      walk_at "rr"
      refine ⟨by omega, by omega, ?_⟩
      refine fun D hD => lc_range (lo := 0) (n := j2.toNat) (fun i H' => Go p H2 H' ∧ ∃ ys : List Str, ys.length = i ∧ (∀ y ∈ ys, ∃ c, c < 1000 ∧ y = ⟨#[c]⟩) ∧ H' D = some (.lst (ys.map V.str))) ⟨(Go.refl g2.dice).new hD, [], rfl, by simp, upd_same⟩ ?_ ?_
      · rintro i3 H3 hi3 ⟨g3, ys, rfl, hys, hD3⟩
        have hDd : D ≠ p := (Go.refl g2.dice).at_ne hD
        refine ⟨rfl, ?_⟩
        walk_at "rr"
        refine pick_str g3.dice (by decide +kernel) (by decide +kernel) fun y4 H4 hy4 g4 => ?_
        have hD4 := g4.keep _ _ hDd hD3
        refine ⟨_, hD4, by rw [List.length_map]; omega, (g3.trans g4).own hD hDd, ys ++ [⟨#[y4]⟩], by simp, ?_, by rw [upd_same, List.map_append]; rfl⟩
        intro y hy
        rcases List.mem_append.mp hy with hy | hy
        · exact hys y hy
        · rw [List.mem_singleton] at hy
          subst hy
          exact ⟨y4, abc_lo y4 hy4, rfl⟩
      rintro H3 ⟨g3, ys, hyl, hys, hD3⟩
      have hj := join_low hys
      have hsum := sum_one hys
      refine ⟨_, D, ys, rfl, rfl, .inl (SqL.of hD3), ?_, ?_⟩
      · show _ + ys.length * 0 ≤ _
        omega
      obtain ⟨hx1, hx2⟩ := hj
      generalize Txt.join "" ys = x' at hx1 hx2
      have hx1' : x'.length ≤ 10 := by omega
      have g03 := g2.trans g3
      walk_at "rr"
      refine ⟨⟨by decide, by decide, by decide⟩, ?_⟩
      refine roll_goW g03.dice cd59 fun j4 H4 h40 h41 g4 => ?_
      walk_at "rr"
      refine roll_go g4.dice (by decide) (by decide) fun j5 H5 h50 h51 g5 => ?_
      have g05 := (g03.trans g4).trans g5
      walk_at "rr"
      refine ⟨(by decide : 2 ≤ sizeLine), fun t1 ht1 => ?_⟩
      have S1 := same_new (o := .tup [.str x', .int 1]) ht1
      refine ⟨_, rfl, ?_⟩
      refine ⟨(by decide : 1 ≤ sizeLine), fun l1 hl1 => ?_⟩
      have S2 := same_new (o := .lst [.str x']) hl1
      refine fun d1 hd1 => ?_
      refine ⟨_, rfl, upd_same, [(.inr x', .int 0)], rfl, (by decide : 1 ≤ 15), ?_⟩
      have S3 := same_new (o := .dK (mergeK [] [(.inr x', .int 0)])) hd1
      rw [upd_upd]
      refine ⟨Nat.zero_le _, fun e0 he0 => ?_⟩
      have S4 := same_new (o := .tup []) he0
      refine ⟨(by decide : 1 ≤ sizeLine), fun e1 he1 => ?_⟩
      have S5 := same_new (o := .tup [.ref e0]) he1
      refine ⟨(by decide : 10 ≤ sizeLine), fun q hq => ?_⟩
      have S6 := same_new (o := .lst [.str x', .int j4, .int (0 - j5), .non, .bl true, .ref t1, .ref l1, .ref d1, .ref e1, .str ""]) hq
      have F1 := S6 _ _ (S5 _ _ (S4 _ _ (S3 _ _ (S2 t1 _ upd_same))))
      have F2 := S6 _ _ (S5 _ _ (S4 _ _ (S3 l1 _ upd_same)))
      have F3 := S6 _ _ (S5 _ _ (S4 d1 _ upd_same))
      have F4 := S6 _ _ (S5 e0 _ upd_same)
      have F5 := S6 e1 _ upd_same
      have G1 := g05.same S1
      have G2 := G1.same S2
      have G3 := G2.same S3
      have G4 := G3.same S4
      have G5 := G4.same S5
      have G6 := G5.same S6
      have n1 := g05.at_ne ht1
      have n2 := G1.at_ne hl1
      have n3 := G2.at_ne hd1
      have n4 := G3.at_ne he0
      have n5 := G4.at_ne he1
      have n6 := G5.at_ne hq
      obtain ⟨HQ, eQ⟩ : ∃ X, (upd (upd (upd (upd (upd (upd H5 t1 (.tup [.str x', .int 1])) l1 (.lst [.str x'])) d1 (.dK (mergeK [] [(.inr x', .int 0)]))) e0 (.tup [])) e1 (.tup [.ref e0])) q (.lst [.str x', .int j4, .int (0 - j5), .non, .bl true, .ref t1, .ref l1, .ref d1, .ref e1, .str ""])) = X := ⟨_, rfl⟩
      have F6 : HQ q = some (.lst [.str x', .int j4, .int (0 - j5), .non, .bl true, .ref t1, .ref l1, .ref d1, .ref e1, .str ""]) := by rw [← eQ]; exact upd_same
      rw [eQ] at F1 F2 F3 F4 F5 G6
      have all : ∀ y' ∈ [V.str x', .int j4, .int (0 - j5), .non, .bl true, .ref t1, .ref l1, .ref d1, .ref e1, .str ""], ∃ z', Shw K (off HQ p) y' z' := by
        intro y' hy'
        simp only [List.mem_cons, List.not_mem_nil, or_false] at hy'
        rcases hy' with rfl | rfl | rfl | rfl | rfl | rfl | rfl | rfl | rfl | rfl
        · exact shw_str hx1' hx2
        · exact shw_int (log59 h40 h41)
        · exact shw_int (log99 h50 h51)
        · exact shw_non
        · exact shw_bl
        · exact shw_tup (by rw [off_ne n1]; exact F1) hx1' hx2
        · exact shw_lst (by rw [off_ne n2]; exact F2) hx1' hx2
        · exact shw_dct (by rw [off_ne n3]; exact F3) hx1' hx2
        · exact shw_tt (SqT.of (by rw [off_ne n5]; exact F5)) (SqT.of (by rw [off_ne n4]; exact F4))
        · exact shw_str (by decide) (fun c hc => nomatch hc)
      show _
      rw [eQ]
      clear F1 F2 F3 F4 F5 G1 G2 G3 G4 G5 S1 S2 S3 S4 S5 S6 ht1 hl1 hd1 he0 he1 hq eQ
      walk_at "rr"
      refine ⟨by decide, by decide, ?_⟩
      refine for_range (lo := 0) (n := 3) (fun j σ H' => ∃ v3 : Option V, σ = [some (.ref a), some (.int (0 + (i : Int))), some (.ref p), v3, some (.str x'), some (.ref q)] ∧ Go p HQ H') ⟨_, rfl, Go.refl G6.dice⟩ ?_ ?_
      · rintro j σ H6 hj ⟨v6, rfl, g6⟩
        walk_at "rr"
        refine pick_at g6.dice (g6.keep _ _ n6 F6) n6 (by simp) (by decide : 10 ≤ 1000) fun y7 H7 hy7 g7 => ?_
        obtain ⟨z7, hz7⟩ := all y7 hy7
        refine ⟨y7, z7, hz7.same (off_go (g6.trans g7)), rfl, fun H8 s8 => ?_⟩
        walk_at "rr"
        exact (g6.trans g7).same s8
      · rintro σ H6 ⟨v6, rfl, g6⟩
        exact ⟨_, _, _, _, _, rfl, Go.old (s1.trans (same_new hp)) (s1.free hp) (G6.trans g6)⟩
    · rintro σ H1 ⟨v1, v2, v3, v4, v5, rfl, s1⟩
      refine ⟨rfl, fun H2 s2 => ⟨true, rfl, ifT rfl ?_⟩⟩
      refine fun a9 h9 => ⟨.ref a9, A0.cWebError, _, _, _, _, _, _, _, _, ⟨a9, rfl, .inl upd_same⟩, rfl, T.e_WebError, T.k_WebError, fun q9 hq9 => ?_⟩
      refine ⟨(by decide : 2 ≤ sizeLine), fun r hr3 => ?_⟩
      refine ⟨_, _, .lst (SqL.of ((same_new hr3) _ _ upd_same)) (.cons (.str _) (.cons (.str _) .nil)), .lst (SqL.of upd_same) (.cons (.str _) (.cons (.str _) .nil)), by decide +kernel, by decide +kernel, ?_⟩
      exact q_bl (Q := Q) (by decide +kernel) (k _)
end
/-! ### the end -/
theorem all_mk {l : PySem.W.OpenLaw} {w : World} {K : PySem.W.Frag} {h : Heap} {mg : Str → Option Value} {fa cWebError cInvalidPlace cInvalidTie cInvalidWeb cInvalidRoute cInvalidStep cInvalidGrowth cInvalidPart cInvalidDrawing cInvalidModel cInvalidOperation cParseError cUnknownName cParted cInvalidNumber cNothingToUndo cTooMany cRefused f0 f1 f2 f3 f4 f5 f6 f7 f8 f9 : Addr} (X : K.In h) (G : h.Ns mainGlobals mg) (hfa : mg "law" = some (.ref fa))
    {nm0 q0 : Str} {N0 i0 : Addr} {bs0 sub0 : List Value} {sn0 : List Str} {ab0 : Bool} {col0 : Option Bool} {dd0 od_0 an_0 : Option Addr} {m0_0 m1_0 m2_0 m3_0 m5_0 : Option Value} {oc_0 dc_0 pm_0 cd_0 ct_0 : Value} {sl_0 : Array (Option Value)} {p1_0 p2_0 q1_0 q2_0 q3_0 q4_0 : Pos}
    {nm1 q1 : Str} {N1 i1 : Addr} {bs1 sub1 : List Value} {sn1 : List Str} {ab1 : Bool} {col1 : Option Bool} {dd1 od_1 an_1 : Option Addr} {m0_1 m1_1 m2_1 m3_1 m5_1 : Option Value} {oc_1 dc_1 pm_1 cd_1 ct_1 : Value} {sl_1 : Array (Option Value)} {p1_1 p2_1 q1_1 q2_1 q3_1 q4_1 : Pos}
    {nm2 q2 : Str} {N2 i2 : Addr} {bs2 sub2 : List Value} {sn2 : List Str} {ab2 : Bool} {col2 : Option Bool} {dd2 od_2 an_2 : Option Addr} {m0_2 m1_2 m2_2 m3_2 m5_2 : Option Value} {oc_2 dc_2 pm_2 cd_2 ct_2 : Value} {sl_2 : Array (Option Value)} {p1_2 p2_2 q1_2 q2_2 q3_2 q4_2 : Pos}
    {nm3 q3 : Str} {N3 i3 : Addr} {bs3 sub3 : List Value} {sn3 : List Str} {ab3 : Bool} {col3 : Option Bool} {dd3 od_3 an_3 : Option Addr} {m0_3 m1_3 m2_3 m3_3 m5_3 : Option Value} {oc_3 dc_3 pm_3 cd_3 ct_3 : Value} {sl_3 : Array (Option Value)} {p1_3 p2_3 q1_3 q2_3 q3_3 q4_3 : Pos}
    {nm4 q4 : Str} {N4 i4 : Addr} {bs4 sub4 : List Value} {sn4 : List Str} {ab4 : Bool} {col4 : Option Bool} {dd4 od_4 an_4 : Option Addr} {m0_4 m1_4 m2_4 m3_4 m5_4 : Option Value} {oc_4 dc_4 pm_4 cd_4 ct_4 : Value} {sl_4 : Array (Option Value)} {p1_4 p2_4 q1_4 q2_4 q3_4 q4_4 : Pos}
    {nm5 q5 : Str} {N5 i5 : Addr} {bs5 sub5 : List Value} {sn5 : List Str} {ab5 : Bool} {col5 : Option Bool} {dd5 od_5 an_5 : Option Addr} {m0_5 m1_5 m2_5 m3_5 m5_5 : Option Value} {oc_5 dc_5 pm_5 cd_5 ct_5 : Value} {sl_5 : Array (Option Value)} {p1_5 p2_5 q1_5 q2_5 q3_5 q4_5 : Pos}
    {nm6 q6 : Str} {N6 i6 : Addr} {bs6 sub6 : List Value} {sn6 : List Str} {ab6 : Bool} {col6 : Option Bool} {dd6 od_6 an_6 : Option Addr} {m0_6 m1_6 m2_6 m3_6 m5_6 : Option Value} {oc_6 dc_6 pm_6 cd_6 ct_6 : Value} {sl_6 : Array (Option Value)} {p1_6 p2_6 q1_6 q2_6 q3_6 q4_6 : Pos}
    {od0 an0 od1 an1 od2 an2 od3 an3 od4 an4 od5 an5 od6 an6 od7 an7 od8 an8 od9 an9 : Option Addr} {sl0 sl1 sl2 sl3 sl4 sl5 sl6 sl7 sl8 sl9 : Array (Option Value)} {oc0 kV0 dc0 pm0 cd0 ct0 oc1 kV1 dc1 pm1 cd1 ct1 oc2 kV2 dc2 pm2 cd2 ct2 oc3 kV3 dc3 pm3 cd3 ct3 oc4 kV4 dc4 pm4 cd4 ct4 oc5 kV5 dc5 pm5 cd5 ct5 oc6 kV6 dc6 pm6 cd6 ct6 oc7 kV7 dc7 pm7 cd7 ct7 oc8 kV8 dc8 pm8 cd8 ct8 oc9 kV9 dc9 pm9 cd9 ct9 : Value}
    (g_WebError : PySem.W.nsIn K mainGlobals "WebError" = some (some (.ref cWebError)))
    (g_InvalidPlace : PySem.W.nsIn K mainGlobals "InvalidPlace" = some (some (.ref cInvalidPlace)))
    (g_InvalidTie : PySem.W.nsIn K mainGlobals "InvalidTie" = some (some (.ref cInvalidTie)))
    (g_InvalidWeb : PySem.W.nsIn K mainGlobals "InvalidWeb" = some (some (.ref cInvalidWeb)))
    (g_InvalidRoute : PySem.W.nsIn K mainGlobals "InvalidRoute" = some (some (.ref cInvalidRoute)))
    (g_InvalidStep : PySem.W.nsIn K mainGlobals "InvalidStep" = some (some (.ref cInvalidStep)))
    (g_InvalidGrowth : PySem.W.nsIn K mainGlobals "InvalidGrowth" = some (some (.ref cInvalidGrowth)))
    (g_InvalidPart : PySem.W.nsIn K mainGlobals "InvalidPart" = some (some (.ref cInvalidPart)))
    (g_InvalidDrawing : PySem.W.nsIn K mainGlobals "InvalidDrawing" = some (some (.ref cInvalidDrawing)))
    (g_InvalidModel : PySem.W.nsIn K mainGlobals "InvalidModel" = some (some (.ref cInvalidModel)))
    (g_InvalidOperation : PySem.W.nsIn K mainGlobals "InvalidOperation" = some (some (.ref cInvalidOperation)))
    (g_ParseError : PySem.W.nsIn K mainGlobals "ParseError" = some (some (.ref cParseError)))
    (g_UnknownName : PySem.W.nsIn K mainGlobals "UnknownName" = some (some (.ref cUnknownName)))
    (g_Parted : PySem.W.nsIn K mainGlobals "Parted" = some (some (.ref cParted)))
    (g_InvalidNumber : PySem.W.nsIn K mainGlobals "InvalidNumber" = some (some (.ref cInvalidNumber)))
    (g_NothingToUndo : PySem.W.nsIn K mainGlobals "NothingToUndo" = some (some (.ref cNothingToUndo)))
    (g_TooMany : PySem.W.nsIn K mainGlobals "TooMany" = some (some (.ref cTooMany)))
    (g_Refused : PySem.W.nsIn K mainGlobals "Refused" = some (some (.ref cRefused)))
    (pk_WebError : PySem.W.keepIn K (.ref cWebError) = true)
    (pq_WebError : PySem.W.excIn K cWebError [.type "ValueError", .type "Exception", .type "BaseException", .type "object"] "ValueError.__new__" = true)
    (ps_WebError : PySem.W.subIn K (.ref cWebError) (.type "BaseException") = some true)
    (pt_WebError : PySem.W.typeIn K (.ref cWebError) = some (.type "type"))
    (pk_InvalidPlace : PySem.W.keepIn K (.ref cInvalidPlace) = true)
    (pq_InvalidPlace : PySem.W.excIn K cInvalidPlace [.type "ValueError", .type "Exception", .type "BaseException", .type "object"] "ValueError.__new__" = true)
    (ps_InvalidPlace : PySem.W.subIn K (.ref cInvalidPlace) (.type "BaseException") = some true)
    (pt_InvalidPlace : PySem.W.typeIn K (.ref cInvalidPlace) = some (.type "type"))
    (pk_InvalidTie : PySem.W.keepIn K (.ref cInvalidTie) = true)
    (pq_InvalidTie : PySem.W.excIn K cInvalidTie [.type "ValueError", .type "Exception", .type "BaseException", .type "object"] "ValueError.__new__" = true)
    (ps_InvalidTie : PySem.W.subIn K (.ref cInvalidTie) (.type "BaseException") = some true)
    (pt_InvalidTie : PySem.W.typeIn K (.ref cInvalidTie) = some (.type "type"))
    (pk_InvalidWeb : PySem.W.keepIn K (.ref cInvalidWeb) = true)
    (pq_InvalidWeb : PySem.W.excIn K cInvalidWeb [.type "ValueError", .type "Exception", .type "BaseException", .type "object"] "ValueError.__new__" = true)
    (ps_InvalidWeb : PySem.W.subIn K (.ref cInvalidWeb) (.type "BaseException") = some true)
    (pt_InvalidWeb : PySem.W.typeIn K (.ref cInvalidWeb) = some (.type "type"))
    (pk_InvalidRoute : PySem.W.keepIn K (.ref cInvalidRoute) = true)
    (pq_InvalidRoute : PySem.W.excIn K cInvalidRoute [.type "ValueError", .type "Exception", .type "BaseException", .type "object"] "ValueError.__new__" = true)
    (ps_InvalidRoute : PySem.W.subIn K (.ref cInvalidRoute) (.type "BaseException") = some true)
    (pt_InvalidRoute : PySem.W.typeIn K (.ref cInvalidRoute) = some (.type "type"))
    (pk_InvalidStep : PySem.W.keepIn K (.ref cInvalidStep) = true)
    (pq_InvalidStep : PySem.W.excIn K cInvalidStep [.type "ValueError", .type "Exception", .type "BaseException", .type "object"] "ValueError.__new__" = true)
    (ps_InvalidStep : PySem.W.subIn K (.ref cInvalidStep) (.type "BaseException") = some true)
    (pt_InvalidStep : PySem.W.typeIn K (.ref cInvalidStep) = some (.type "type"))
    (pk_InvalidGrowth : PySem.W.keepIn K (.ref cInvalidGrowth) = true)
    (pq_InvalidGrowth : PySem.W.excIn K cInvalidGrowth [.type "ValueError", .type "Exception", .type "BaseException", .type "object"] "ValueError.__new__" = true)
    (ps_InvalidGrowth : PySem.W.subIn K (.ref cInvalidGrowth) (.type "BaseException") = some true)
    (pt_InvalidGrowth : PySem.W.typeIn K (.ref cInvalidGrowth) = some (.type "type"))
    (pk_InvalidPart : PySem.W.keepIn K (.ref cInvalidPart) = true)
    (pq_InvalidPart : PySem.W.excIn K cInvalidPart [.type "ValueError", .type "Exception", .type "BaseException", .type "object"] "ValueError.__new__" = true)
    (ps_InvalidPart : PySem.W.subIn K (.ref cInvalidPart) (.type "BaseException") = some true)
    (pt_InvalidPart : PySem.W.typeIn K (.ref cInvalidPart) = some (.type "type"))
    (pk_InvalidDrawing : PySem.W.keepIn K (.ref cInvalidDrawing) = true)
    (pq_InvalidDrawing : PySem.W.excIn K cInvalidDrawing [.type "ValueError", .type "Exception", .type "BaseException", .type "object"] "ValueError.__new__" = true)
    (ps_InvalidDrawing : PySem.W.subIn K (.ref cInvalidDrawing) (.type "BaseException") = some true)
    (pt_InvalidDrawing : PySem.W.typeIn K (.ref cInvalidDrawing) = some (.type "type"))
    (pk_InvalidModel : PySem.W.keepIn K (.ref cInvalidModel) = true)
    (pq_InvalidModel : PySem.W.excIn K cInvalidModel [.type "ValueError", .type "Exception", .type "BaseException", .type "object"] "ValueError.__new__" = true)
    (ps_InvalidModel : PySem.W.subIn K (.ref cInvalidModel) (.type "BaseException") = some true)
    (pt_InvalidModel : PySem.W.typeIn K (.ref cInvalidModel) = some (.type "type"))
    (pk_InvalidOperation : PySem.W.keepIn K (.ref cInvalidOperation) = true)
    (pq_InvalidOperation : PySem.W.excIn K cInvalidOperation [.type "ValueError", .type "Exception", .type "BaseException", .type "object"] "ValueError.__new__" = true)
    (ps_InvalidOperation : PySem.W.subIn K (.ref cInvalidOperation) (.type "BaseException") = some true)
    (pt_InvalidOperation : PySem.W.typeIn K (.ref cInvalidOperation) = some (.type "type"))
    (x_ParseError : K.lookup cParseError = some (excClassObj nm0 q0 cParseError N0 bs0 [.ref cWebError, .type "ValueError", .type "Exception", .type "BaseException", .type "object"] true sn0 sub0 ab0 col0 dd0 m0_0 m1_0 m2_0 m3_0 m5_0 "ValueError.__new__"))
    (sa_ParseError : PySem.W.findIn K (.ref cParseError) "__setattr__" = some (some (.builtin "object.__setattr__")))
    (ga_ParseError : PySem.W.findIn K (.ref cParseError) "__getattribute__" = some (some (.builtin "BaseException.__getattribute__")))
    (gg_ParseError : PySem.W.findIn K (.ref cParseError) "__getattr__" = some none)
    (nN_ParseError : PySem.W.findIn K (.ref cParseError) "number" = some none)
    (iC_ParseError : PySem.W.findIn K (.ref cParseError) "__init__" = some (some (.ref i0)))
    (tC_ParseError : PySem.W.typeIn K (.ref i0) = some (.type "function"))
    (kC_ParseError : PySem.W.keepIn K (.ref cParseError) = true)
    (ex_ParseError : PySem.W.subIn K (.ref cParseError) (.type "BaseException") = some true)
    (ty_ParseError : PySem.W.typeIn K (.ref cParseError) = some (.type "type"))
    (hd_ParseError : PySem.W.hasDictIn K cParseError = true)
    (fn_ParseError : K.lookup i0 = some ⟨oc_0, od_0, .func (PySem.W.fnOf "__init__" "ParseError.__init__" (PySem.XO_ParseError.iA p1_0 p2_0) (PySem.XO_ParseError.iB q1_0 q2_0 q3_0 q4_0) PySem.XO_ParseError.iS .none .none dc_0 pm_0 an_0 cd_0 ct_0), sl_0⟩)
    (fc_ParseError : PySem.W.codeIn K cd_0 "ParseError.__init__" = true)
    (x_UnknownName : K.lookup cUnknownName = some (excClassObj nm1 q1 cUnknownName N1 bs1 [.type "KeyError", .type "LookupError", .type "Exception", .type "BaseException", .type "object"] true sn1 sub1 ab1 col1 dd1 m0_1 m1_1 m2_1 m3_1 m5_1 "LookupError.__new__"))
    (sa_UnknownName : PySem.W.findIn K (.ref cUnknownName) "__setattr__" = some (some (.builtin "object.__setattr__")))
    (ga_UnknownName : PySem.W.findIn K (.ref cUnknownName) "__getattribute__" = some (some (.builtin "BaseException.__getattribute__")))
    (gg_UnknownName : PySem.W.findIn K (.ref cUnknownName) "__getattr__" = some none)
    (nN_UnknownName : PySem.W.findIn K (.ref cUnknownName) "word" = some none)
    (iC_UnknownName : PySem.W.findIn K (.ref cUnknownName) "__init__" = some (some (.ref i1)))
    (tC_UnknownName : PySem.W.typeIn K (.ref i1) = some (.type "function"))
    (kC_UnknownName : PySem.W.keepIn K (.ref cUnknownName) = true)
    (ex_UnknownName : PySem.W.subIn K (.ref cUnknownName) (.type "BaseException") = some true)
    (ty_UnknownName : PySem.W.typeIn K (.ref cUnknownName) = some (.type "type"))
    (hd_UnknownName : PySem.W.hasDictIn K cUnknownName = true)
    (fn_UnknownName : K.lookup i1 = some ⟨oc_1, od_1, .func (PySem.W.fnOf "__init__" "UnknownName.__init__" (PySem.XO_UnknownName.iA p1_1 p2_1) (PySem.XO_UnknownName.iB q1_1 q2_1 q3_1 q4_1) PySem.XO_UnknownName.iS .none .none dc_1 pm_1 an_1 cd_1 ct_1), sl_1⟩)
    (fc_UnknownName : PySem.W.codeIn K cd_1 "UnknownName.__init__" = true)
    (x_Parted : K.lookup cParted = some (excClassObj nm2 q2 cParted N2 bs2 [.type "LookupError", .type "Exception", .type "BaseException", .type "object"] true sn2 sub2 ab2 col2 dd2 m0_2 m1_2 m2_2 m3_2 m5_2 "LookupError.__new__"))
    (sa_Parted : PySem.W.findIn K (.ref cParted) "__setattr__" = some (some (.builtin "object.__setattr__")))
    (ga_Parted : PySem.W.findIn K (.ref cParted) "__getattribute__" = some (some (.builtin "BaseException.__getattribute__")))
    (gg_Parted : PySem.W.findIn K (.ref cParted) "__getattr__" = some none)
    (nN_Parted : PySem.W.findIn K (.ref cParted) "parting" = some none)
    (iC_Parted : PySem.W.findIn K (.ref cParted) "__init__" = some (some (.ref i2)))
    (tC_Parted : PySem.W.typeIn K (.ref i2) = some (.type "function"))
    (kC_Parted : PySem.W.keepIn K (.ref cParted) = true)
    (ex_Parted : PySem.W.subIn K (.ref cParted) (.type "BaseException") = some true)
    (ty_Parted : PySem.W.typeIn K (.ref cParted) = some (.type "type"))
    (hd_Parted : PySem.W.hasDictIn K cParted = true)
    (fn_Parted : K.lookup i2 = some ⟨oc_2, od_2, .func (PySem.W.fnOf "__init__" "Parted.__init__" (PySem.XO_Parted.iA p1_2 p2_2) (PySem.XO_Parted.iB q1_2 q2_2 q3_2 q4_2) PySem.XO_Parted.iS .none .none dc_2 pm_2 an_2 cd_2 ct_2), sl_2⟩)
    (fc_Parted : PySem.W.codeIn K cd_2 "Parted.__init__" = true)
    (x_InvalidNumber : K.lookup cInvalidNumber = some (excClassObj nm3 q3 cInvalidNumber N3 bs3 [.type "IndexError", .type "LookupError", .type "Exception", .type "BaseException", .type "object"] true sn3 sub3 ab3 col3 dd3 m0_3 m1_3 m2_3 m3_3 m5_3 "IndexError.__new__"))
    (sa_InvalidNumber : PySem.W.findIn K (.ref cInvalidNumber) "__setattr__" = some (some (.builtin "object.__setattr__")))
    (ga_InvalidNumber : PySem.W.findIn K (.ref cInvalidNumber) "__getattribute__" = some (some (.builtin "BaseException.__getattribute__")))
    (gg_InvalidNumber : PySem.W.findIn K (.ref cInvalidNumber) "__getattr__" = some none)
    (nN_InvalidNumber : PySem.W.findIn K (.ref cInvalidNumber) "value" = some none)
    (iC_InvalidNumber : PySem.W.findIn K (.ref cInvalidNumber) "__init__" = some (some (.ref i3)))
    (tC_InvalidNumber : PySem.W.typeIn K (.ref i3) = some (.type "function"))
    (kC_InvalidNumber : PySem.W.keepIn K (.ref cInvalidNumber) = true)
    (ex_InvalidNumber : PySem.W.subIn K (.ref cInvalidNumber) (.type "BaseException") = some true)
    (ty_InvalidNumber : PySem.W.typeIn K (.ref cInvalidNumber) = some (.type "type"))
    (hd_InvalidNumber : PySem.W.hasDictIn K cInvalidNumber = true)
    (fn_InvalidNumber : K.lookup i3 = some ⟨oc_3, od_3, .func (PySem.W.fnOf "__init__" "InvalidNumber.__init__" (PySem.XO_InvalidNumber.iA p1_3 p2_3) (PySem.XO_InvalidNumber.iB q1_3 q2_3 q3_3 q4_3) PySem.XO_InvalidNumber.iS .none .none dc_3 pm_3 an_3 cd_3 ct_3), sl_3⟩)
    (fc_InvalidNumber : PySem.W.codeIn K cd_3 "InvalidNumber.__init__" = true)
    (x_NothingToUndo : K.lookup cNothingToUndo = some (excClassObj nm4 q4 cNothingToUndo N4 bs4 [.type "RuntimeError", .type "Exception", .type "BaseException", .type "object"] true sn4 sub4 ab4 col4 dd4 m0_4 m1_4 m2_4 m3_4 m5_4 "RuntimeError.__new__"))
    (sa_NothingToUndo : PySem.W.findIn K (.ref cNothingToUndo) "__setattr__" = some (some (.builtin "object.__setattr__")))
    (ga_NothingToUndo : PySem.W.findIn K (.ref cNothingToUndo) "__getattribute__" = some (some (.builtin "BaseException.__getattribute__")))
    (gg_NothingToUndo : PySem.W.findIn K (.ref cNothingToUndo) "__getattr__" = some none)
    (nN_NothingToUndo : PySem.W.findIn K (.ref cNothingToUndo) "many" = some none)
    (iC_NothingToUndo : PySem.W.findIn K (.ref cNothingToUndo) "__init__" = some (some (.ref i4)))
    (tC_NothingToUndo : PySem.W.typeIn K (.ref i4) = some (.type "function"))
    (kC_NothingToUndo : PySem.W.keepIn K (.ref cNothingToUndo) = true)
    (ex_NothingToUndo : PySem.W.subIn K (.ref cNothingToUndo) (.type "BaseException") = some true)
    (ty_NothingToUndo : PySem.W.typeIn K (.ref cNothingToUndo) = some (.type "type"))
    (hd_NothingToUndo : PySem.W.hasDictIn K cNothingToUndo = true)
    (fn_NothingToUndo : K.lookup i4 = some ⟨oc_4, od_4, .func (PySem.W.fnOf "__init__" "NothingToUndo.__init__" (PySem.XO_NothingToUndo.iA p1_4 p2_4) (PySem.XO_NothingToUndo.iB q1_4 q2_4 q3_4 q4_4) PySem.XO_NothingToUndo.iS .none .none dc_4 pm_4 an_4 cd_4 ct_4), sl_4⟩)
    (fc_NothingToUndo : PySem.W.codeIn K cd_4 "NothingToUndo.__init__" = true)
    (x_TooMany : K.lookup cTooMany = some (excClassObj nm5 q5 cTooMany N5 bs5 [.type "OverflowError", .type "ArithmeticError", .type "Exception", .type "BaseException", .type "object"] true sn5 sub5 ab5 col5 dd5 m0_5 m1_5 m2_5 m3_5 m5_5 "OverflowError.__new__"))
    (sa_TooMany : PySem.W.findIn K (.ref cTooMany) "__setattr__" = some (some (.builtin "object.__setattr__")))
    (ga_TooMany : PySem.W.findIn K (.ref cTooMany) "__getattribute__" = some (some (.builtin "BaseException.__getattribute__")))
    (gg_TooMany : PySem.W.findIn K (.ref cTooMany) "__getattr__" = some none)
    (nN_TooMany : PySem.W.findIn K (.ref cTooMany) "limit" = some none)
    (iC_TooMany : PySem.W.findIn K (.ref cTooMany) "__init__" = some (some (.ref i5)))
    (tC_TooMany : PySem.W.typeIn K (.ref i5) = some (.type "function"))
    (kC_TooMany : PySem.W.keepIn K (.ref cTooMany) = true)
    (ex_TooMany : PySem.W.subIn K (.ref cTooMany) (.type "BaseException") = some true)
    (ty_TooMany : PySem.W.typeIn K (.ref cTooMany) = some (.type "type"))
    (hd_TooMany : PySem.W.hasDictIn K cTooMany = true)
    (fn_TooMany : K.lookup i5 = some ⟨oc_5, od_5, .func (PySem.W.fnOf "__init__" "TooMany.__init__" (PySem.XO_TooMany.iA p1_5 p2_5) (PySem.XO_TooMany.iB q1_5 q2_5 q3_5 q4_5) PySem.XO_TooMany.iS .none .none dc_5 pm_5 an_5 cd_5 ct_5), sl_5⟩)
    (fc_TooMany : PySem.W.codeIn K cd_5 "TooMany.__init__" = true)
    (x_Refused : K.lookup cRefused = some (excClassObj nm6 q6 cRefused N6 bs6 [.type "ArithmeticError", .type "Exception", .type "BaseException", .type "object"] true sn6 sub6 ab6 col6 dd6 m0_6 m1_6 m2_6 m3_6 m5_6 "ArithmeticError.__new__"))
    (sa_Refused : PySem.W.findIn K (.ref cRefused) "__setattr__" = some (some (.builtin "object.__setattr__")))
    (ga_Refused : PySem.W.findIn K (.ref cRefused) "__getattribute__" = some (some (.builtin "BaseException.__getattribute__")))
    (gg_Refused : PySem.W.findIn K (.ref cRefused) "__getattr__" = some none)
    (nN_Refused : PySem.W.findIn K (.ref cRefused) "pledge" = some none)
    (iC_Refused : PySem.W.findIn K (.ref cRefused) "__init__" = some (some (.ref i6)))
    (tC_Refused : PySem.W.typeIn K (.ref i6) = some (.type "function"))
    (kC_Refused : PySem.W.keepIn K (.ref cRefused) = true)
    (ex_Refused : PySem.W.subIn K (.ref cRefused) (.type "BaseException") = some true)
    (ty_Refused : PySem.W.typeIn K (.ref cRefused) = some (.type "type"))
    (hd_Refused : PySem.W.hasDictIn K cRefused = true)
    (fn_Refused : K.lookup i6 = some ⟨oc_6, od_6, .func (PySem.W.fnOf "__init__" "Refused.__init__" (PySem.XO_Refused.iA p1_6 p2_6) (PySem.XO_Refused.iB q1_6 q2_6 q3_6 q4_6) PySem.XO_Refused.iS .none .none dc_6 pm_6 an_6 cd_6 ct_6), sl_6⟩)
    (fc_Refused : PySem.W.codeIn K cd_6 "Refused.__init__" = true)
    (e_WebError : ExcC K cWebError)
    (e_InvalidPlace : ExcC K cInvalidPlace)
    (e_InvalidTie : ExcC K cInvalidTie)
    (e_InvalidWeb : ExcC K cInvalidWeb)
    (e_InvalidRoute : ExcC K cInvalidRoute)
    (e_InvalidStep : ExcC K cInvalidStep)
    (e_InvalidGrowth : ExcC K cInvalidGrowth)
    (e_InvalidPart : ExcC K cInvalidPart)
    (e_InvalidDrawing : ExcC K cInvalidDrawing)
    (e_InvalidModel : ExcC K cInvalidModel)
    (e_InvalidOperation : ExcC K cInvalidOperation)
    (e_ParseError : ExcC K cParseError)
    (e_UnknownName : ExcC K cUnknownName)
    (e_Parted : ExcC K cParted)
    (e_InvalidNumber : ExcC K cInvalidNumber)
    (e_NothingToUndo : ExcC K cNothingToUndo)
    (e_TooMany : ExcC K cTooMany)
    (e_Refused : ExcC K cRefused)
    (k_WebError : Kn K cWebError cWebError true true false false false false false false)
    (k_InvalidPlace : Kn K cWebError cInvalidPlace true true false false false false false false)
    (k_InvalidTie : Kn K cWebError cInvalidTie true true false false false false false false)
    (k_InvalidWeb : Kn K cWebError cInvalidWeb true true false false false false false false)
    (k_InvalidRoute : Kn K cWebError cInvalidRoute true true false false false false false false)
    (k_InvalidStep : Kn K cWebError cInvalidStep true true false false false false false false)
    (k_InvalidGrowth : Kn K cWebError cInvalidGrowth true true false false false false false false)
    (k_InvalidPart : Kn K cWebError cInvalidPart true true false false false false false false)
    (k_InvalidDrawing : Kn K cWebError cInvalidDrawing true true false false false false false false)
    (k_InvalidModel : Kn K cWebError cInvalidModel true true false false false false false false)
    (k_InvalidOperation : Kn K cWebError cInvalidOperation true true false false false false false false)
    (k_ParseError : Kn K cWebError cParseError true true false false false false false false)
    (k_UnknownName : Kn K cWebError cUnknownName false false true true false false false false)
    (k_Parted : Kn K cWebError cParted false false true false false false false false)
    (k_InvalidNumber : Kn K cWebError cInvalidNumber false false true false true false false false)
    (k_NothingToUndo : Kn K cWebError cNothingToUndo false false false false false true false false)
    (k_TooMany : Kn K cWebError cTooMany false false false false false false true true)
    (k_Refused : Kn K cWebError cRefused false false false false false false true false)
    (mat : Mat K (Ad.mk cWebError cInvalidPlace cInvalidTie cInvalidWeb cInvalidRoute cInvalidStep cInvalidGrowth cInvalidPart cInvalidDrawing cInvalidModel cInvalidOperation cParseError cUnknownName cParted cInvalidNumber cNothingToUndo cTooMany cRefused))
    (exm : Exm K (Ad.mk cWebError cInvalidPlace cInvalidTie cInvalidWeb cInvalidRoute cInvalidStep cInvalidGrowth cInvalidPart cInvalidDrawing cInvalidModel cInvalidOperation cParseError cUnknownName cParted cInvalidNumber cNothingToUndo cTooMany cRefused))
    (a0 : PySem.W.nsIn K mainGlobals "_law_dice" = some (some (.ref f0)))
    (l0 : K.lookup f0 = some ⟨oc0, od0, .func (PySem.W.fnOf "_law_dice" "_law_dice" (defArgs s_law_dice) (defBody s_law_dice) (defScope s_law_dice) .none kV0 dc0 pm0 an0 cd0 ct0), sl0⟩)
    (c0 : PySem.W.codeIn K cd0 "_law_dice" = true)
    (k0 : PySem.W.keepIn K (.ref f0) = true)
    (a1 : PySem.W.nsIn K mainGlobals "_law_roll" = some (some (.ref f1)))
    (l1 : K.lookup f1 = some ⟨oc1, od1, .func (PySem.W.fnOf "_law_roll" "_law_roll" (defArgs s_law_roll) (defBody s_law_roll) (defScope s_law_roll) .none kV1 dc1 pm1 an1 cd1 ct1), sl1⟩)
    (c1 : PySem.W.codeIn K cd1 "_law_roll" = true)
    (k1 : PySem.W.keepIn K (.ref f1) = true)
    (a2 : PySem.W.nsIn K mainGlobals "_law_pick" = some (some (.ref f2)))
    (l2 : K.lookup f2 = some ⟨oc2, od2, .func (PySem.W.fnOf "_law_pick" "_law_pick" (defArgs s_law_pick) (defBody s_law_pick) (defScope s_law_pick) .none kV2 dc2 pm2 an2 cd2 ct2), sl2⟩)
    (c2 : PySem.W.codeIn K cd2 "_law_pick" = true)
    (k2 : PySem.W.keepIn K (.ref f2) = true)
    (a3 : PySem.W.nsIn K mainGlobals "_law_plain_errors" = some (some (.ref f3)))
    (l3 : K.lookup f3 = some ⟨oc3, od3, .func (PySem.W.fnOf "_law_plain_errors" "_law_plain_errors" (defArgs s_law_plain_errors) (defBody s_law_plain_errors) (defScope s_law_plain_errors) .none kV3 dc3 pm3 an3 cd3 ct3), sl3⟩)
    (c3 : PySem.W.codeIn K cd3 "_law_plain_errors" = true)
    (k3 : PySem.W.keepIn K (.ref f3) = true)
    (a4 : PySem.W.nsIn K mainGlobals "_law_kinds_of" = some (some (.ref f4)))
    (l4 : K.lookup f4 = some ⟨oc4, od4, .func (PySem.W.fnOf "_law_kinds_of" "_law_kinds_of" (defArgs s_law_kinds_of) (defBody s_law_kinds_of) (defScope s_law_kinds_of) .none kV4 dc4 pm4 an4 cd4 ct4), sl4⟩)
    (c4 : PySem.W.codeIn K cd4 "_law_kinds_of" = true)
    (k4 : PySem.W.keepIn K (.ref f4) = true)
    (a5 : PySem.W.nsIn K mainGlobals "_law_raised" = some (some (.ref f5)))
    (l5 : K.lookup f5 = some ⟨oc5, od5, .func (PySem.W.fnOf "_law_raised" "_law_raised" (defArgs s_law_raised) (defBody s_law_raised) (defScope s_law_raised) .none kV5 dc5 pm5 an5 cd5 ct5), sl5⟩)
    (c5 : PySem.W.codeIn K cd5 "_law_raised" = true)
    (k5 : PySem.W.keepIn K (.ref f5) = true)
    (a6 : PySem.W.nsIn K mainGlobals "_law_word_of" = some (some (.ref f6)))
    (l6 : K.lookup f6 = some ⟨oc6, od6, .func (PySem.W.fnOf "_law_word_of" "_law_word_of" (defArgs s_law_word_of) (defBody s_law_word_of) (defScope s_law_word_of) .none kV6 dc6 pm6 an6 cd6 ct6), sl6⟩)
    (c6 : PySem.W.codeIn K cd6 "_law_word_of" = true)
    (k6 : PySem.W.keepIn K (.ref f6) = true)
    (a7 : PySem.W.nsIn K mainGlobals "_law_keepers_right" = some (some (.ref f7)))
    (l7 : K.lookup f7 = some ⟨oc7, od7, .func (PySem.W.fnOf "_law_keepers_right" "_law_keepers_right" (defArgs s_law_keepers_right) (defBody s_law_keepers_right) (defScope s_law_keepers_right) .none kV7 dc7 pm7 an7 cd7 ct7), sl7⟩)
    (c7 : PySem.W.codeIn K cd7 "_law_keepers_right" = true)
    (k7 : PySem.W.keepIn K (.ref f7) = true)
    (a8 : PySem.W.nsIn K mainGlobals "_law_singles_right" = some (some (.ref f8)))
    (l8 : K.lookup f8 = some ⟨oc8, od8, .func (PySem.W.fnOf "_law_singles_right" "_law_singles_right" (defArgs s_law_singles_right) (defBody s_law_singles_right) (defScope s_law_singles_right) .none kV8 dc8 pm8 an8 cd8 ct8), sl8⟩)
    (c8 : PySem.W.codeIn K cd8 "_law_singles_right" = true)
    (k8 : PySem.W.keepIn K (.ref f8) = true)
    (a9 : PySem.W.nsIn K mainGlobals "law" = some (some (.ref f9)))
    (l9 : K.lookup f9 = some ⟨oc9, od9, .func (PySem.W.fnOf "law" "law" (defArgs s_law) (defBody s_law) (defScope s_law) .none kV9 dc9 pm9 an9 cd9 ct9), sl9⟩)
    (c9 : PySem.W.codeIn K cd9 "law" = true)
    (k9 : PySem.W.keepIn K (.ref f9) = true)
    (z_len : PySem.W.nsIn K mainGlobals "len" = some none)
    (z_int : PySem.W.nsIn K mainGlobals "int" = some none)
    (z_max : PySem.W.nsIn K mainGlobals "max" = some none)
    (z_min : PySem.W.nsIn K mainGlobals "min" = some none)
    (z_abs : PySem.W.nsIn K mainGlobals "abs" = some none)
    (z_isinstance : PySem.W.nsIn K mainGlobals "isinstance" = some none)
    (z_range : PySem.W.nsIn K mainGlobals "range" = some none)
    (z_repr : PySem.W.nsIn K mainGlobals "repr" = some none)
    (z_ValueError : PySem.W.nsIn K mainGlobals "ValueError" = some none)
    (z_LookupError : PySem.W.nsIn K mainGlobals "LookupError" = some none)
    (z_KeyError : PySem.W.nsIn K mainGlobals "KeyError" = some none)
    (z_IndexError : PySem.W.nsIn K mainGlobals "IndexError" = some none)
    (z_RuntimeError : PySem.W.nsIn K mainGlobals "RuntimeError" = some none)
    (z_ArithmeticError : PySem.W.nsIn K mainGlobals "ArithmeticError" = some none)
    (z_OverflowError : PySem.W.nsIn K mainGlobals "OverflowError" = some none)
    : ∃ fd : FuncData, (∀ (s : Shared) (v : Value), BindsTo s fd ⟨[v], []⟩ [("script", v)]) ∧ ∀ base : Heap, K.In base → base.Ns mainGlobals mg → GD.FnG l.prog w K mg base 5 fa fd ["script"] (spLaw K) := by
  have e := hfa.symm.trans (PySem.W.mg_of X G a9)
  cases e
  have O_ParseError : PySem.XO_ParseError.Own K mg cParseError i0 := { gC := PySem.W.mg_of X G g_ParseError, cls := ⟨_, _, _, _, _, _, _, _, _, _, _, _, _, _, _, x_ParseError, by first | rfl | decide +kernel⟩, sa := sa_ParseError, ga := ga_ParseError, gg := gg_ParseError, noN := nN_ParseError, iC := iC_ParseError, tC := tC_ParseError, kC := kC_ParseError, exC := ex_ParseError, tyC := ty_ParseError, hdC := hd_ParseError, fn := ⟨_, _, _, _, _, _, _, _, _, _, _, _, _, _, fn_ParseError, fc_ParseError⟩ }
  have O_UnknownName : PySem.XO_UnknownName.Own K mg cUnknownName i1 := { gC := PySem.W.mg_of X G g_UnknownName, cls := ⟨_, _, _, _, _, _, _, _, _, _, _, _, _, _, _, x_UnknownName, by first | rfl | decide +kernel⟩, sa := sa_UnknownName, ga := ga_UnknownName, gg := gg_UnknownName, noN := nN_UnknownName, iC := iC_UnknownName, tC := tC_UnknownName, kC := kC_UnknownName, exC := ex_UnknownName, tyC := ty_UnknownName, hdC := hd_UnknownName, fn := ⟨_, _, _, _, _, _, _, _, _, _, _, _, _, _, fn_UnknownName, fc_UnknownName⟩ }
  have O_Parted : PySem.XO_Parted.Own K mg cParted i2 := { gC := PySem.W.mg_of X G g_Parted, cls := ⟨_, _, _, _, _, _, _, _, _, _, _, _, _, _, _, x_Parted, by first | rfl | decide +kernel⟩, sa := sa_Parted, ga := ga_Parted, gg := gg_Parted, noN := nN_Parted, iC := iC_Parted, tC := tC_Parted, kC := kC_Parted, exC := ex_Parted, tyC := ty_Parted, hdC := hd_Parted, fn := ⟨_, _, _, _, _, _, _, _, _, _, _, _, _, _, fn_Parted, fc_Parted⟩ }
  have O_InvalidNumber : PySem.XO_InvalidNumber.Own K mg cInvalidNumber i3 := { gC := PySem.W.mg_of X G g_InvalidNumber, cls := ⟨_, _, _, _, _, _, _, _, _, _, _, _, _, _, _, x_InvalidNumber, by first | rfl | decide +kernel⟩, sa := sa_InvalidNumber, ga := ga_InvalidNumber, gg := gg_InvalidNumber, noN := nN_InvalidNumber, iC := iC_InvalidNumber, tC := tC_InvalidNumber, kC := kC_InvalidNumber, exC := ex_InvalidNumber, tyC := ty_InvalidNumber, hdC := hd_InvalidNumber, fn := ⟨_, _, _, _, _, _, _, _, _, _, _, _, _, _, fn_InvalidNumber, fc_InvalidNumber⟩ }
  have O_NothingToUndo : PySem.XO_NothingToUndo.Own K mg cNothingToUndo i4 := { gC := PySem.W.mg_of X G g_NothingToUndo, cls := ⟨_, _, _, _, _, _, _, _, _, _, _, _, _, _, _, x_NothingToUndo, by first | rfl | decide +kernel⟩, sa := sa_NothingToUndo, ga := ga_NothingToUndo, gg := gg_NothingToUndo, noN := nN_NothingToUndo, iC := iC_NothingToUndo, tC := tC_NothingToUndo, kC := kC_NothingToUndo, exC := ex_NothingToUndo, tyC := ty_NothingToUndo, hdC := hd_NothingToUndo, fn := ⟨_, _, _, _, _, _, _, _, _, _, _, _, _, _, fn_NothingToUndo, fc_NothingToUndo⟩ }
  have O_TooMany : PySem.XO_TooMany.Own K mg cTooMany i5 := { gC := PySem.W.mg_of X G g_TooMany, cls := ⟨_, _, _, _, _, _, _, _, _, _, _, _, _, _, _, x_TooMany, by first | rfl | decide +kernel⟩, sa := sa_TooMany, ga := ga_TooMany, gg := gg_TooMany, noN := nN_TooMany, iC := iC_TooMany, tC := tC_TooMany, kC := kC_TooMany, exC := ex_TooMany, tyC := ty_TooMany, hdC := hd_TooMany, fn := ⟨_, _, _, _, _, _, _, _, _, _, _, _, _, _, fn_TooMany, fc_TooMany⟩ }
  have O_Refused : PySem.XO_Refused.Own K mg cRefused i6 := { gC := PySem.W.mg_of X G g_Refused, cls := ⟨_, _, _, _, _, _, _, _, _, _, _, _, _, _, _, x_Refused, by first | rfl | decide +kernel⟩, sa := sa_Refused, ga := ga_Refused, gg := gg_Refused, noN := nN_Refused, iC := iC_Refused, tC := tC_Refused, kC := kC_Refused, exC := ex_Refused, tyC := ty_Refused, hdC := hd_Refused, fn := ⟨_, _, _, _, _, _, _, _, _, _, _, _, _, _, fn_Refused, fc_Refused⟩ }
  have T : Txt K mg (Ad.mk cWebError cInvalidPlace cInvalidTie cInvalidWeb cInvalidRoute cInvalidStep cInvalidGrowth cInvalidPart cInvalidDrawing cInvalidModel cInvalidOperation cParseError cUnknownName cParted cInvalidNumber cNothingToUndo cTooMany cRefused) := { n_len := PySem.W.mg_none_of X G z_len, n_int := PySem.W.mg_none_of X G z_int, n_max := PySem.W.mg_none_of X G z_max, n_min := PySem.W.mg_none_of X G z_min, n_abs := PySem.W.mg_none_of X G z_abs, n_isinstance := PySem.W.mg_none_of X G z_isinstance, n_range := PySem.W.mg_none_of X G z_range, n_repr := PySem.W.mg_none_of X G z_repr, n_ValueError := PySem.W.mg_none_of X G z_ValueError, n_LookupError := PySem.W.mg_none_of X G z_LookupError, n_KeyError := PySem.W.mg_none_of X G z_KeyError, n_IndexError := PySem.W.mg_none_of X G z_IndexError, n_RuntimeError := PySem.W.mg_none_of X G z_RuntimeError, n_ArithmeticError := PySem.W.mg_none_of X G z_ArithmeticError, n_OverflowError := PySem.W.mg_none_of X G z_OverflowError, p_WebError := ⟨PySem.W.mg_of X G g_WebError, pk_WebError, pq_WebError, ps_WebError, pt_WebError⟩, p_InvalidPlace := ⟨PySem.W.mg_of X G g_InvalidPlace, pk_InvalidPlace, pq_InvalidPlace, ps_InvalidPlace, pt_InvalidPlace⟩, p_InvalidTie := ⟨PySem.W.mg_of X G g_InvalidTie, pk_InvalidTie, pq_InvalidTie, ps_InvalidTie, pt_InvalidTie⟩, p_InvalidWeb := ⟨PySem.W.mg_of X G g_InvalidWeb, pk_InvalidWeb, pq_InvalidWeb, ps_InvalidWeb, pt_InvalidWeb⟩, p_InvalidRoute := ⟨PySem.W.mg_of X G g_InvalidRoute, pk_InvalidRoute, pq_InvalidRoute, ps_InvalidRoute, pt_InvalidRoute⟩, p_InvalidStep := ⟨PySem.W.mg_of X G g_InvalidStep, pk_InvalidStep, pq_InvalidStep, ps_InvalidStep, pt_InvalidStep⟩, p_InvalidGrowth := ⟨PySem.W.mg_of X G g_InvalidGrowth, pk_InvalidGrowth, pq_InvalidGrowth, ps_InvalidGrowth, pt_InvalidGrowth⟩, p_InvalidPart := ⟨PySem.W.mg_of X G g_InvalidPart, pk_InvalidPart, pq_InvalidPart, ps_InvalidPart, pt_InvalidPart⟩, p_InvalidDrawing := ⟨PySem.W.mg_of X G g_InvalidDrawing, pk_InvalidDrawing, pq_InvalidDrawing, ps_InvalidDrawing, pt_InvalidDrawing⟩, p_InvalidModel := ⟨PySem.W.mg_of X G g_InvalidModel, pk_InvalidModel, pq_InvalidModel, ps_InvalidModel, pt_InvalidModel⟩, p_InvalidOperation := ⟨PySem.W.mg_of X G g_InvalidOperation, pk_InvalidOperation, pq_InvalidOperation, ps_InvalidOperation, pt_InvalidOperation⟩, o_ParseError := XV.ok_ParseError O_ParseError, o_UnknownName := XV.ok_UnknownName O_UnknownName, o_Parted := XV.ok_Parted O_Parted, o_InvalidNumber := XV.ok_InvalidNumber O_InvalidNumber, o_NothingToUndo := XV.ok_NothingToUndo O_NothingToUndo, o_TooMany := XV.ok_TooMany O_TooMany, o_Refused := XV.ok_Refused O_Refused, e_WebError := e_WebError, e_InvalidPlace := e_InvalidPlace, e_InvalidTie := e_InvalidTie, e_InvalidWeb := e_InvalidWeb, e_InvalidRoute := e_InvalidRoute, e_InvalidStep := e_InvalidStep, e_InvalidGrowth := e_InvalidGrowth, e_InvalidPart := e_InvalidPart, e_InvalidDrawing := e_InvalidDrawing, e_InvalidModel := e_InvalidModel, e_InvalidOperation := e_InvalidOperation, e_ParseError := e_ParseError, e_UnknownName := e_UnknownName, e_Parted := e_Parted, e_InvalidNumber := e_InvalidNumber, e_NothingToUndo := e_NothingToUndo, e_TooMany := e_TooMany, e_Refused := e_Refused, k_WebError := k_WebError, k_InvalidPlace := k_InvalidPlace, k_InvalidTie := k_InvalidTie, k_InvalidWeb := k_InvalidWeb, k_InvalidRoute := k_InvalidRoute, k_InvalidStep := k_InvalidStep, k_InvalidGrowth := k_InvalidGrowth, k_InvalidPart := k_InvalidPart, k_InvalidDrawing := k_InvalidDrawing, k_InvalidModel := k_InvalidModel, k_InvalidOperation := k_InvalidOperation, k_ParseError := k_ParseError, k_UnknownName := k_UnknownName, k_Parted := k_Parted, k_InvalidNumber := k_InvalidNumber, k_NothingToUndo := k_NothingToUndo, k_TooMany := k_TooMany, k_Refused := k_Refused, mat := mat, exm := exm }
  have F0 := fun_mk (st := s_law_dice) l0 c0 k0
  have b0 := F0.binds (ps := ["script", "spot"]) fun _ _ _ _ _ _ us hl => match us, hl with | [_, _], _ => rfl
  have F1 := fun_mk (st := s_law_roll) l1 c1 k1
  have b1 := F1.binds (ps := ["dice", "total"]) fun _ _ _ _ _ _ us hl => match us, hl with | [_, _], _ => rfl
  have F2 := fun_mk (st := s_law_pick) l2 c2 k2
  have b2 := F2.binds (ps := ["dice", "items"]) fun _ _ _ _ _ _ us hl => match us, hl with | [_, _], _ => rfl
  have F3 := fun_mk (st := s_law_plain_errors) l3 c3 k3
  have b3 := F3.binds (ps := []) fun _ _ _ _ _ _ us hl => match us, hl with | [], _ => rfl
  have F4 := fun_mk (st := s_law_kinds_of) l4 c4 k4
  have b4 := F4.binds (ps := ["error"]) fun _ _ _ _ _ _ us hl => match us, hl with | [_], _ => rfl
  have F5 := fun_mk (st := s_law_raised) l5 c5 k5
  have b5 := F5.binds (ps := ["way", "value"]) fun _ _ _ _ _ _ us hl => match us, hl with | [_, _], _ => rfl
  have F6 := fun_mk (st := s_law_word_of) l6 c6 k6
  have b6 := F6.binds (ps := ["way", "value"]) fun _ _ _ _ _ _ us hl => match us, hl with | [_, _], _ => rfl
  have F7 := fun_mk (st := s_law_keepers_right) l7 c7 k7
  have b7 := F7.binds (ps := ["value"]) fun _ _ _ _ _ _ us hl => match us, hl with | [_], _ => rfl
  have F8 := fun_mk (st := s_law_singles_right) l8 c8 k8
  have b8 := F8.binds (ps := []) fun _ _ _ _ _ _ us hl => match us, hl with | [], _ => rfl
  have F9 := fun_mk (st := s_law) l9 c9 k9
  refine ⟨PySem.W.fnOf "law" "law" (defArgs s_law) (defBody s_law) (defScope s_law) .none kV9 dc9 pm9 an9 cd9 ct9, fun s v => .of_eq rfl, fun base _ _ => ?_⟩
  have D0 := Dfn.mk (PySem.W.mg_of X G a0) k0 b0 (ok_law_dice (P := l.prog) (w := w) (base := base) F0 T )
  have D1 := Dfn.mk (PySem.W.mg_of X G a1) k1 b1 (ok_law_roll (P := l.prog) (w := w) (base := base) F1 T )
  have D2 := Dfn.mk (PySem.W.mg_of X G a2) k2 b2 (ok_law_pick (P := l.prog) (w := w) (base := base) F2 T D1)
  have D3 := Dfn.mk (PySem.W.mg_of X G a3) k3 b3 (ok_law_plain_errors (P := l.prog) (w := w) (base := base) F3 T )
  have D4 := Dfn.mk (PySem.W.mg_of X G a4) k4 b4 (ok_law_kinds_of (P := l.prog) (w := w) (base := base) F4 T )
  have D5 := DfnX.mk ⟨_, _, PySem.W.mg_of X G a5, k5, b5, ok_law_raised (P := l.prog) (w := w) (base := base) F5 T ⟩
  have D6 := DfnG.mk ⟨_, _, PySem.W.mg_of X G a6, k6, b6, ok_law_word_of (P := l.prog) (w := w) (base := base) F6 T D5⟩
  have D7 := DfnG.mk ⟨_, _, PySem.W.mg_of X G a7, k7, b7, ok_law_keepers_right (P := l.prog) (w := w) (base := base) F7 T D6 D4⟩
  have D8 := Dfn.mk (PySem.W.mg_of X G a8) k8 b8 (ok_law_singles_right (P := l.prog) (w := w) (base := base) F8 T D3 D4)
  exact ok_law F9 T D0 D1 D2 D4 D7 D8
end K0
open PySem PySem.W PyProof.Rows
set_option maxRecDepth 100000 in
set_option maxHeartbeats 0 in
theorem PySem.Challenge.cw_wheelgrown_k00_errors_kept_and_caught_holds : PySem.Challenge.rw_wheelgrown_k00_errors_kept_and_caught.Holds := by
  w_on; o_law; k_head; (case hw => w_witness2)
  k_fill
  refine GD.walk_ofG (l := PySem.Challenge.rw_wheelgrown_k00_errors_kept_and_caught) (n := 63) (k := 5) (x := "script") (sp := fun w => K0.spLaw _) rfl (by decide) rfl ⟨rfl, by decide, by decide⟩ (fun w h Y => PySem.W.kIn_of Y) ?F (fun _ _ a ns hl _ hS => ⟨a, ns, hS, rfl, hl, fun _ => rfl⟩)
  case F =>
    intro w mg fa h KX G hmg
    refine' K0.all_mk KX G hmg ?h_g_WebError ?h_g_InvalidPlace ?h_g_InvalidTie ?h_g_InvalidWeb ?h_g_InvalidRoute ?h_g_InvalidStep ?h_g_InvalidGrowth ?h_g_InvalidPart ?h_g_InvalidDrawing ?h_g_InvalidModel ?h_g_InvalidOperation ?h_g_ParseError ?h_g_UnknownName ?h_g_Parted ?h_g_InvalidNumber ?h_g_NothingToUndo ?h_g_TooMany ?h_g_Refused ?h_pk_WebError ?h_pq_WebError ?h_ps_WebError ?h_pt_WebError ?h_pk_InvalidPlace ?h_pq_InvalidPlace ?h_ps_InvalidPlace ?h_pt_InvalidPlace ?h_pk_InvalidTie ?h_pq_InvalidTie ?h_ps_InvalidTie ?h_pt_InvalidTie ?h_pk_InvalidWeb ?h_pq_InvalidWeb ?h_ps_InvalidWeb ?h_pt_InvalidWeb ?h_pk_InvalidRoute ?h_pq_InvalidRoute ?h_ps_InvalidRoute ?h_pt_InvalidRoute ?h_pk_InvalidStep ?h_pq_InvalidStep ?h_ps_InvalidStep ?h_pt_InvalidStep ?h_pk_InvalidGrowth ?h_pq_InvalidGrowth ?h_ps_InvalidGrowth ?h_pt_InvalidGrowth ?h_pk_InvalidPart ?h_pq_InvalidPart ?h_ps_InvalidPart ?h_pt_InvalidPart ?h_pk_InvalidDrawing ?h_pq_InvalidDrawing ?h_ps_InvalidDrawing ?h_pt_InvalidDrawing ?h_pk_InvalidModel ?h_pq_InvalidModel ?h_ps_InvalidModel ?h_pt_InvalidModel ?h_pk_InvalidOperation ?h_pq_InvalidOperation ?h_ps_InvalidOperation ?h_pt_InvalidOperation ?h_x_ParseError ?h_sa_ParseError ?h_ga_ParseError ?h_gg_ParseError ?h_nN_ParseError ?h_iC_ParseError ?h_tC_ParseError ?h_kC_ParseError ?h_ex_ParseError ?h_ty_ParseError ?h_hd_ParseError ?h_fn_ParseError ?h_fc_ParseError ?h_x_UnknownName ?h_sa_UnknownName ?h_ga_UnknownName ?h_gg_UnknownName ?h_nN_UnknownName ?h_iC_UnknownName ?h_tC_UnknownName ?h_kC_UnknownName ?h_ex_UnknownName ?h_ty_UnknownName ?h_hd_UnknownName ?h_fn_UnknownName ?h_fc_UnknownName ?h_x_Parted ?h_sa_Parted ?h_ga_Parted ?h_gg_Parted ?h_nN_Parted ?h_iC_Parted ?h_tC_Parted ?h_kC_Parted ?h_ex_Parted ?h_ty_Parted ?h_hd_Parted ?h_fn_Parted ?h_fc_Parted ?h_x_InvalidNumber ?h_sa_InvalidNumber ?h_ga_InvalidNumber ?h_gg_InvalidNumber ?h_nN_InvalidNumber ?h_iC_InvalidNumber ?h_tC_InvalidNumber ?h_kC_InvalidNumber ?h_ex_InvalidNumber ?h_ty_InvalidNumber ?h_hd_InvalidNumber ?h_fn_InvalidNumber ?h_fc_InvalidNumber ?h_x_NothingToUndo ?h_sa_NothingToUndo ?h_ga_NothingToUndo ?h_gg_NothingToUndo ?h_nN_NothingToUndo ?h_iC_NothingToUndo ?h_tC_NothingToUndo ?h_kC_NothingToUndo ?h_ex_NothingToUndo ?h_ty_NothingToUndo ?h_hd_NothingToUndo ?h_fn_NothingToUndo ?h_fc_NothingToUndo ?h_x_TooMany ?h_sa_TooMany ?h_ga_TooMany ?h_gg_TooMany ?h_nN_TooMany ?h_iC_TooMany ?h_tC_TooMany ?h_kC_TooMany ?h_ex_TooMany ?h_ty_TooMany ?h_hd_TooMany ?h_fn_TooMany ?h_fc_TooMany ?h_x_Refused ?h_sa_Refused ?h_ga_Refused ?h_gg_Refused ?h_nN_Refused ?h_iC_Refused ?h_tC_Refused ?h_kC_Refused ?h_ex_Refused ?h_ty_Refused ?h_hd_Refused ?h_fn_Refused ?h_fc_Refused ?h_e_WebError ?h_e_InvalidPlace ?h_e_InvalidTie ?h_e_InvalidWeb ?h_e_InvalidRoute ?h_e_InvalidStep ?h_e_InvalidGrowth ?h_e_InvalidPart ?h_e_InvalidDrawing ?h_e_InvalidModel ?h_e_InvalidOperation ?h_e_ParseError ?h_e_UnknownName ?h_e_Parted ?h_e_InvalidNumber ?h_e_NothingToUndo ?h_e_TooMany ?h_e_Refused ?h_k_WebError ?h_k_InvalidPlace ?h_k_InvalidTie ?h_k_InvalidWeb ?h_k_InvalidRoute ?h_k_InvalidStep ?h_k_InvalidGrowth ?h_k_InvalidPart ?h_k_InvalidDrawing ?h_k_InvalidModel ?h_k_InvalidOperation ?h_k_ParseError ?h_k_UnknownName ?h_k_Parted ?h_k_InvalidNumber ?h_k_NothingToUndo ?h_k_TooMany ?h_k_Refused ?h_mat ?h_exm ?h_a0 ?h_l0 ?h_c0 ?h_k0 ?h_a1 ?h_l1 ?h_c1 ?h_k1 ?h_a2 ?h_l2 ?h_c2 ?h_k2 ?h_a3 ?h_l3 ?h_c3 ?h_k3 ?h_a4 ?h_l4 ?h_c4 ?h_k4 ?h_a5 ?h_l5 ?h_c5 ?h_k5 ?h_a6 ?h_l6 ?h_c6 ?h_k6 ?h_a7 ?h_l7 ?h_c7 ?h_k7 ?h_a8 ?h_l8 ?h_c8 ?h_k8 ?h_a9 ?h_l9 ?h_c9 ?h_k9 ?h_z_len ?h_z_int ?h_z_max ?h_z_min ?h_z_abs ?h_z_isinstance ?h_z_range ?h_z_repr ?h_z_ValueError ?h_z_LookupError ?h_z_KeyError ?h_z_IndexError ?h_z_RuntimeError ?h_z_ArithmeticError ?h_z_OverflowError
    (case h_g_WebError => k_is)
    (case h_g_InvalidPlace => k_is)
    (case h_g_InvalidTie => k_is)
    (case h_g_InvalidWeb => k_is)
    (case h_g_InvalidRoute => k_is)
    (case h_g_InvalidStep => k_is)
    (case h_g_InvalidGrowth => k_is)
    (case h_g_InvalidPart => k_is)
    (case h_g_InvalidDrawing => k_is)
    (case h_g_InvalidModel => k_is)
    (case h_g_InvalidOperation => k_is)
    (case h_g_ParseError => k_is)
    (case h_g_UnknownName => k_is)
    (case h_g_Parted => k_is)
    (case h_g_InvalidNumber => k_is)
    (case h_g_NothingToUndo => k_is)
    (case h_g_TooMany => k_is)
    (case h_g_Refused => k_is)
    (case h_pk_WebError => k_is)
    (case h_pq_WebError => k_exc)
    (case h_ps_WebError => k_is)
    (case h_pt_WebError => k_is)
    (case h_pk_InvalidPlace => k_is)
    (case h_pq_InvalidPlace => k_exc)
    (case h_ps_InvalidPlace => k_is)
    (case h_pt_InvalidPlace => k_is)
    (case h_pk_InvalidTie => k_is)
    (case h_pq_InvalidTie => k_exc)
    (case h_ps_InvalidTie => k_is)
    (case h_pt_InvalidTie => k_is)
    (case h_pk_InvalidWeb => k_is)
    (case h_pq_InvalidWeb => k_exc)
    (case h_ps_InvalidWeb => k_is)
    (case h_pt_InvalidWeb => k_is)
    (case h_pk_InvalidRoute => k_is)
    (case h_pq_InvalidRoute => k_exc)
    (case h_ps_InvalidRoute => k_is)
    (case h_pt_InvalidRoute => k_is)
    (case h_pk_InvalidStep => k_is)
    (case h_pq_InvalidStep => k_exc)
    (case h_ps_InvalidStep => k_is)
    (case h_pt_InvalidStep => k_is)
    (case h_pk_InvalidGrowth => k_is)
    (case h_pq_InvalidGrowth => k_exc)
    (case h_ps_InvalidGrowth => k_is)
    (case h_pt_InvalidGrowth => k_is)
    (case h_pk_InvalidPart => k_is)
    (case h_pq_InvalidPart => k_exc)
    (case h_ps_InvalidPart => k_is)
    (case h_pt_InvalidPart => k_is)
    (case h_pk_InvalidDrawing => k_is)
    (case h_pq_InvalidDrawing => k_exc)
    (case h_ps_InvalidDrawing => k_is)
    (case h_pt_InvalidDrawing => k_is)
    (case h_pk_InvalidModel => k_is)
    (case h_pq_InvalidModel => k_exc)
    (case h_ps_InvalidModel => k_is)
    (case h_pt_InvalidModel => k_is)
    (case h_pk_InvalidOperation => k_is)
    (case h_pq_InvalidOperation => k_exc)
    (case h_ps_InvalidOperation => k_is)
    (case h_pt_InvalidOperation => k_is)
    (case h_x_ParseError => k_is)
    (case h_sa_ParseError => k_is)
    (case h_ga_ParseError => k_is)
    (case h_gg_ParseError => k_is)
    (case h_nN_ParseError => k_is)
    (case h_iC_ParseError => k_is)
    (case h_tC_ParseError => k_is)
    (case h_kC_ParseError => k_is)
    (case h_ex_ParseError => k_is)
    (case h_ty_ParseError => k_is)
    (case h_hd_ParseError => k_is)
    (case h_fn_ParseError => k_is)
    (case h_fc_ParseError => k_is)
    (case h_x_UnknownName => k_is)
    (case h_sa_UnknownName => k_is)
    (case h_ga_UnknownName => k_is)
    (case h_gg_UnknownName => k_is)
    (case h_nN_UnknownName => k_is)
    (case h_iC_UnknownName => k_is)
    (case h_tC_UnknownName => k_is)
    (case h_kC_UnknownName => k_is)
    (case h_ex_UnknownName => k_is)
    (case h_ty_UnknownName => k_is)
    (case h_hd_UnknownName => k_is)
    (case h_fn_UnknownName => k_is)
    (case h_fc_UnknownName => k_is)
    (case h_x_Parted => k_is)
    (case h_sa_Parted => k_is)
    (case h_ga_Parted => k_is)
    (case h_gg_Parted => k_is)
    (case h_nN_Parted => k_is)
    (case h_iC_Parted => k_is)
    (case h_tC_Parted => k_is)
    (case h_kC_Parted => k_is)
    (case h_ex_Parted => k_is)
    (case h_ty_Parted => k_is)
    (case h_hd_Parted => k_is)
    (case h_fn_Parted => k_is)
    (case h_fc_Parted => k_is)
    (case h_x_InvalidNumber => k_is)
    (case h_sa_InvalidNumber => k_is)
    (case h_ga_InvalidNumber => k_is)
    (case h_gg_InvalidNumber => k_is)
    (case h_nN_InvalidNumber => k_is)
    (case h_iC_InvalidNumber => k_is)
    (case h_tC_InvalidNumber => k_is)
    (case h_kC_InvalidNumber => k_is)
    (case h_ex_InvalidNumber => k_is)
    (case h_ty_InvalidNumber => k_is)
    (case h_hd_InvalidNumber => k_is)
    (case h_fn_InvalidNumber => k_is)
    (case h_fc_InvalidNumber => k_is)
    (case h_x_NothingToUndo => k_is)
    (case h_sa_NothingToUndo => k_is)
    (case h_ga_NothingToUndo => k_is)
    (case h_gg_NothingToUndo => k_is)
    (case h_nN_NothingToUndo => k_is)
    (case h_iC_NothingToUndo => k_is)
    (case h_tC_NothingToUndo => k_is)
    (case h_kC_NothingToUndo => k_is)
    (case h_ex_NothingToUndo => k_is)
    (case h_ty_NothingToUndo => k_is)
    (case h_hd_NothingToUndo => k_is)
    (case h_fn_NothingToUndo => k_is)
    (case h_fc_NothingToUndo => k_is)
    (case h_x_TooMany => k_is)
    (case h_sa_TooMany => k_is)
    (case h_ga_TooMany => k_is)
    (case h_gg_TooMany => k_is)
    (case h_nN_TooMany => k_is)
    (case h_iC_TooMany => k_is)
    (case h_tC_TooMany => k_is)
    (case h_kC_TooMany => k_is)
    (case h_ex_TooMany => k_is)
    (case h_ty_TooMany => k_is)
    (case h_hd_TooMany => k_is)
    (case h_fn_TooMany => k_is)
    (case h_fc_TooMany => k_is)
    (case h_x_Refused => k_is)
    (case h_sa_Refused => k_is)
    (case h_ga_Refused => k_is)
    (case h_gg_Refused => k_is)
    (case h_nN_Refused => k_is)
    (case h_iC_Refused => k_is)
    (case h_tC_Refused => k_is)
    (case h_kC_Refused => k_is)
    (case h_ex_Refused => k_is)
    (case h_ty_Refused => k_is)
    (case h_hd_Refused => k_is)
    (case h_fn_Refused => k_is)
    (case h_fc_Refused => k_is)
    (case h_e_WebError => (constructor <;> k_is))
    (case h_e_InvalidPlace => (constructor <;> k_is))
    (case h_e_InvalidTie => (constructor <;> k_is))
    (case h_e_InvalidWeb => (constructor <;> k_is))
    (case h_e_InvalidRoute => (constructor <;> k_is))
    (case h_e_InvalidStep => (constructor <;> k_is))
    (case h_e_InvalidGrowth => (constructor <;> k_is))
    (case h_e_InvalidPart => (constructor <;> k_is))
    (case h_e_InvalidDrawing => (constructor <;> k_is))
    (case h_e_InvalidModel => (constructor <;> k_is))
    (case h_e_InvalidOperation => (constructor <;> k_is))
    (case h_e_ParseError => (constructor <;> k_is))
    (case h_e_UnknownName => (constructor <;> k_is))
    (case h_e_Parted => (constructor <;> k_is))
    (case h_e_InvalidNumber => (constructor <;> k_is))
    (case h_e_NothingToUndo => (constructor <;> k_is))
    (case h_e_TooMany => (constructor <;> k_is))
    (case h_e_Refused => (constructor <;> k_is))
    (case h_k_WebError => (constructor <;> first | rfl | k_is))
    (case h_k_InvalidPlace => (constructor <;> first | rfl | k_is))
    (case h_k_InvalidTie => (constructor <;> first | rfl | k_is))
    (case h_k_InvalidWeb => (constructor <;> first | rfl | k_is))
    (case h_k_InvalidRoute => (constructor <;> first | rfl | k_is))
    (case h_k_InvalidStep => (constructor <;> first | rfl | k_is))
    (case h_k_InvalidGrowth => (constructor <;> first | rfl | k_is))
    (case h_k_InvalidPart => (constructor <;> first | rfl | k_is))
    (case h_k_InvalidDrawing => (constructor <;> first | rfl | k_is))
    (case h_k_InvalidModel => (constructor <;> first | rfl | k_is))
    (case h_k_InvalidOperation => (constructor <;> first | rfl | k_is))
    (case h_k_ParseError => (constructor <;> first | rfl | k_is))
    (case h_k_UnknownName => (constructor <;> first | rfl | k_is))
    (case h_k_Parted => (constructor <;> first | rfl | k_is))
    (case h_k_InvalidNumber => (constructor <;> first | rfl | k_is))
    (case h_k_NothingToUndo => (constructor <;> first | rfl | k_is))
    (case h_k_TooMany => (constructor <;> first | rfl | k_is))
    (case h_k_Refused => (constructor <;> first | rfl | k_is))
    (case h_mat => (constructor <;> dsimp only <;> first | rfl | k_is))
    (case h_exm => (constructor <;> dsimp only <;> first | rfl | k_is))
    (case h_a0 => k_is)
    (case h_l0 => k_is)
    (case h_c0 => k_is)
    (case h_k0 => k_is)
    (case h_a1 => k_is)
    (case h_l1 => k_is)
    (case h_c1 => k_is)
    (case h_k1 => k_is)
    (case h_a2 => k_is)
    (case h_l2 => k_is)
    (case h_c2 => k_is)
    (case h_k2 => k_is)
    (case h_a3 => k_is)
    (case h_l3 => k_is)
    (case h_c3 => k_is)
    (case h_k3 => k_is)
    (case h_a4 => k_is)
    (case h_l4 => k_is)
    (case h_c4 => k_is)
    (case h_k4 => k_is)
    (case h_a5 => k_is)
    (case h_l5 => k_is)
    (case h_c5 => k_is)
    (case h_k5 => k_is)
    (case h_a6 => k_is)
    (case h_l6 => k_is)
    (case h_c6 => k_is)
    (case h_k6 => k_is)
    (case h_a7 => k_is)
    (case h_l7 => k_is)
    (case h_c7 => k_is)
    (case h_k7 => k_is)
    (case h_a8 => k_is)
    (case h_l8 => k_is)
    (case h_c8 => k_is)
    (case h_k8 => k_is)
    (case h_a9 => k_is)
    (case h_l9 => k_is)
    (case h_c9 => k_is)
    (case h_k9 => k_is)
    (case h_z_len => k_is)
    (case h_z_int => k_is)
    (case h_z_max => k_is)
    (case h_z_min => k_is)
    (case h_z_abs => k_is)
    (case h_z_isinstance => k_is)
    (case h_z_range => k_is)
    (case h_z_repr => k_is)
    (case h_z_ValueError => k_is)
    (case h_z_LookupError => k_is)
    (case h_z_KeyError => k_is)
    (case h_z_IndexError => k_is)
    (case h_z_RuntimeError => k_is)
    (case h_z_ArithmeticError => k_is)
    (case h_z_OverflowError => k_is)
#print axioms PySem.Challenge.cw_wheelgrown_k00_errors_kept_and_caught_holds
