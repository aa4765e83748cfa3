import PyProof.Rows.All
import Wide.All
import OpenK.AllK
import Wide.FinOn
import HandS.ForMost
import HandS.ForExc
import HandS.TryOnly
import HandS.IsInst
import HandS.Wide
import HandS.Conv
import HandS.SetFor
import HandS.Set
import HandS.SetTxt0
import HandS.Strs
import KE.KDictList
import PyProof.EqKinds
import PyProof.Rows.SortShellAny
import PySem.Challenge.RW_wheelgrown_k02_whole_namings
set_option Elab.async false
set_option linter.all false
set_option maxRecDepth 100000
set_option maxHeartbeats 2000000
/-! The law k02, by hand: a contract for each def. -/
/-! Dicts whose keys are texts, numbers, True, False or None: the kind of these keys. -/
namespace OK2
open PySem PySem.Spec PyProof.Rows L2
theorem ph_none {prog w A E s} {Q : Int → Shared → Prop} (h : Q 4238894112 { s with toks := s.toks + 1 }) : wpAny (model prog w) A (pyHash .none) Q E s := by
  obtain ⟨hp, g, d, tk, os⟩ := s
  have f1 := F.slot_NoneType_hash.lookup
  have f2 := F.slot_NoneType_hash.bind .none
  unfold pyHash pyHashByItsType
  have key : codeAny (model prog w) A (.call (.builtin "NoneType.__hash__") ⟨[.none], []⟩) (fun r s' => ∃ t, r = .ok (.ret (.int 4238894112 t)) ∧ s' = ⟨hp, g, d, tk + 1, os⟩) ⟨hp, g, d, tk, os⟩ := by
    refine codeAny_call_builtin F.slot_NoneType_hash.plain F.entry_NoneType_hash (F.slot_NoneType_hash.check _ _ _ _ _ _ _ _ (by trivial) (F.args_NoneType_hash_1 _) ?_)
    unfold Builtin.«NoneType.__hash__»
    wp_walk
    exact ⟨_, rfl, rfl⟩
  have red : pyHashByItsType.reduced 4238894112 = pure 4238894112 := by rfl
  wp_walk
  refine wpAny_askSetting ?_
  split
  all_goals
    wp_walk
    refine codeAny_mono key fun r s' z => ?_
    obtain ⟨t, rfl, rfl⟩ := z
    refine wpAny_pure ?_
    show wpAny _ _ (pyHashByItsType.reduced 4238894112) _ _ _
    rw [red]
    exact wpAny_pure h
theorem ph_true {prog w A E s} {Q : Int → Shared → Prop} (b : Bool) (h : Q (if b = true then 1 else 0) { s with toks := s.toks + 1 }) : wpAny (model prog w) A (pyHash (.bool b)) Q E s := by
  obtain ⟨hp, g, d, tk, os⟩ := s
  have f1 := F.slot_bool_hash.lookup
  have f2 := F.slot_bool_hash.bind (.bool b)
  unfold pyHash pyHashByItsType
  have key : codeAny (model prog w) A (.call (.builtin "int.__hash__") ⟨[.bool b], []⟩) (fun r s' => ∃ t, r = .ok (.ret (.int (if b = true then 1 else 0) t)) ∧ s' = ⟨hp, g, d, tk + 1, os⟩) ⟨hp, g, d, tk, os⟩ := by
    refine codeAny_call_builtin F.slot_bool_hash.plain F.entry_int_hash (F.slot_bool_hash.check _ _ _ _ _ _ _ _ (by trivial) (F.args_int_hash_1 _) ?_)
    unfold Builtin.«int.__hash__»
    wp_walk
    cases b <;> exact ⟨_, rfl, rfl⟩
  have red : pyHashByItsType.reduced (if b = true then 1 else 0) = pure (if b = true then 1 else 0) := by cases b <;> rfl
  wp_walk
  refine wpAny_askSetting ?_
  split
  all_goals
    wp_walk
    refine codeAny_mono key fun r s' z => ?_
    obtain ⟨t, rfl, rfl⟩ := z
    refine wpAny_pure ?_
    show wpAny _ _ (pyHashByItsType.reduced _) _ _ _
    rw [red]
    exact wpAny_pure h

/-- a key: None, a number (True is 1), a text -/
abbrev AnyK : Type := Option (Int ⊕ Str)
def anyIs : AnyK → Value → Bool
  | none, .none => true
  | some (.inl i), .int j _ => j == i
  | some (.inl i), .bool b => (if b = true then (1 : Int) else 0) == i
  | some (.inr x), .str y _ => y == x
  | _, _ => false
def anyH (w : World) : AnyK → Int
  | none => 4238894112
  | some (.inl i) => hashInt i
  | some (.inr x) => hashStr w x
theorem hb (b : Bool) : hashInt (if b = true then 1 else 0) = if b = true then 1 else 0 := by cases b <;> decide +kernel
/-- what a key's value may be -/
theorem any_cases {k : AnyK} {v : Value} (h : anyIs k v = true) : (k = none ∧ v = .none) ∨ (∃ j t, k = some (.inl j) ∧ v = .int j t) ∨ (∃ b, k = some (.inl (if b = true then 1 else 0)) ∧ v = .bool b) ∨ ∃ x t, k = some (.inr x) ∧ v = .str x t := by
  unfold anyIs at h
  split at h
  · exact .inl ⟨rfl, rfl⟩
  · rename_i i j t
    have e := eq_of_beq h
    subst e
    exact .inr (.inl ⟨j, t, rfl, rfl⟩)
  · rename_i i b
    have e := eq_of_beq h
    subst e
    exact .inr (.inr (.inl ⟨b, rfl, rfl⟩))
  · rename_i x y t
    have e := eq_of_beq h
    subst e
    exact .inr (.inr (.inr ⟨y, t, rfl, rfl⟩))
  · cases h
theorem ea {prog : Program} {w : World} {A : Around} {s : Shared} {u v : Value} {b c : Bool} {E : Value → Shared → Prop} {Q : Bool → Shared → Prop} (h : SeqAt.EqAt A s u v b) (e : c = b) (q : Q c s) : wpAny (model prog w) A (eqBool u v) Q E s := by
  subst e
  exact h prog w E Q q
theorem some_l (i j : Int) : decide ((some (.inl i) : AnyK) = some (.inl j)) = (i == j) := by
  by_cases h : i = j
  · subst h; simp
  · rw [beq_eq_false_iff_ne.mpr h]; simp [h]
theorem some_r (x y : Str) : decide ((some (.inr x) : AnyK) = some (.inr y)) = (x == y) := by
  by_cases h : x = y
  · subst h; simp
  · rw [beq_eq_false_iff_ne.mpr h]; simp [h]
def anyKind (prog : Program) (w : World) : KeyKind prog w AnyK where
  is := anyIs
  hash := anyH w
  inj v a b ha hb := by
    rcases any_cases ha with ⟨rfl, rfl⟩ | ⟨j, t, rfl, rfl⟩ | ⟨c, rfl, rfl⟩ | ⟨x, t, rfl, rfl⟩ <;> rcases any_cases hb with ⟨h1, h2⟩ | ⟨j', t', h1, h2⟩ | ⟨c', h1, h2⟩ | ⟨x', t', h1, h2⟩ <;> first | (cases h2; exact h1.symm) | cases h2
  byValue k v h := by
    rcases any_cases h with ⟨rfl, rfl⟩ | ⟨j, t, rfl, rfl⟩ | ⟨c, rfl, rfl⟩ | ⟨x, t, rfl, rfl⟩ <;> rfl
  pyHash {A E s k v Q} h q := by
    rcases any_cases h with ⟨rfl, rfl⟩ | ⟨j, t, rfl, rfl⟩ | ⟨c, rfl, rfl⟩ | ⟨x, t, rfl, rfl⟩
    · exact ph_none q
    · exact wpAny_pyHash_int q
    · exact ph_true c (by rw [← hb c]; exact q)
    · exact wpAny_pyHash_str q
  eqBool {A E s a b u v Q} ha hb q := by
    rcases any_cases ha with ⟨rfl, rfl⟩ | ⟨j, t, rfl, rfl⟩ | ⟨c, rfl, rfl⟩ | ⟨x, t, rfl, rfl⟩ <;> rcases any_cases hb with ⟨rfl, rfl⟩ | ⟨j', t', rfl, rfl⟩ | ⟨c', rfl, rfl⟩ | ⟨x', t', rfl, rfl⟩
    · exact ea (SeqAt.EqAt.same _) (by simp) q
    · exact ea (SeqAt.EqAt.none_int _ _) (by simp) q
    · exact ea (SeqAt.EqAt.none_bool _) (by simp) q
    · exact ea (SeqAt.EqAt.none_str _ _) (by simp) q
    · exact ea (SeqAt.EqAt.int_none _ _) (by simp) q
    · exact ea (SeqAt.EqAt.int_int _ _ _ _) (some_l _ _) q
    · exact ea (SeqAt.EqAt.int_bool _ _ _) (some_l _ _) q
    · exact ea (SeqAt.EqAt.int_str _ _ _ _) (by simp) q
    · exact ea (SeqAt.EqAt.bool_none _) (by simp) q
    · exact ea (SeqAt.EqAt.bool_int _ _ _) (some_l _ _) q
    · exact ea (SeqAt.EqAt.bool_bool _ _) (by cases c <;> cases c' <;> decide) q
    · exact ea (SeqAt.EqAt.bool_str _ _ _) (by simp) q
    · exact ea (SeqAt.EqAt.str_none _ _) (by simp) q
    · exact ea (SeqAt.EqAt.str_int _ _ _ _) (by simp) q
    · exact ea (SeqAt.EqAt.str_bool _ _ _) (by simp) q
    · exact ea (SeqAt.EqAt.str_str _ _ _ _) (some_r _ _) q
  «strs» k x t v h := by
    rcases any_cases h with ⟨rfl, h2⟩ | ⟨j, t, rfl, h2⟩ | ⟨c, rfl, h2⟩ | ⟨x', t', rfl, h2⟩
    · cases h2
    · cases h2
    · cases h2
    · cases h2
      cases v <;> rfl
end OK2

/-! dict(pairs), the keys of any kind. -/
namespace OK2
open PySem PySem.Spec PyProof.Rows L2
section
variable {prog : Program} {w : World} {κ : Type} [DecidableEq κ] {knd : KeyKind prog w κ} {A : Around} {R : Result → Shared → Prop} {S I l : Addr} {items : Array Value} {res : Value}
theorem stored_len_le (acc : List (κ × Value)) (k : κ) (v : Value) : (stored acc k v).length ≤ acc.length + 1 := by
  unfold stored
  split <;> simp
theorem upd_any (hh : A.handled = none) (hlI : l ≠ I) (hSI : S ≠ I) (hSl : S ≠ l) : ∀ (rest : List (κ × Value)) (i : Nat) (acc : List (κ × Value)) (ix : Int) (t : Tok) (s : Shared), items.size = i + rest.length → acc.length + rest.length ≤ sizeLine →
    (∀ (j : Nat) (q : κ × Value), rest[j]? = some q → ∃ b u, items[i + j]? = some (.ref b) ∧ b ≠ S ∧ b ≠ I ∧ IsTup s.heap b #[u, q.2] ∧ knd.is q.1 u = true) → s.heap.IsListIter I l i → s.heap.IsList l items → Heap.DictOf knd s.heap S acc →
    (∀ (h' : Heap) (tk : Nat), Heap.DictOf knd h' S (merged acc rest) → (∀ b o, b ≠ S → b ≠ I → s.heap.get? b = some o → h'.get? b = some o) → R (.ok (.ret res)) { heap := h', gens := s.gens, drawn := s.drawn, toks := tk, os := s.os }) →
    codeAny (model prog w) A (.builtin "dict.update.loop" ⟨[.ref S, .ref I, .int ix t, res], []⟩) R s
  | [], i, acc, ix, t, s, hsz, hln, ht, hit, hl, hm, hR => by
    refine codeAny_builtin ud_entry ?_
    rw [Around.under_plainId ud_plain]
    refine wpAny_bind (wpAny_pyNext_list_end hh hit hl (Array.getElem?_eq_none (Nat.le_of_eq hsz)) fun h' he => ?_)
    exact wpAny_bind (wpAny_pure (wpAny_pure (hR h' s.toks (hm.extBut he hSI) fun b o x hb e => he b o hb e)))
  | q :: rest, i, acc, ix, t, s, hsz, hln, ht, hit, hl, hm, hR => by
    obtain ⟨b, u, hb, hbS, hbI, htup, hk⟩ := ht 0 q rfl
    refine codeAny_builtin ud_entry ?_
    rw [Around.under_plainId ud_plain]
    refine wpAny_bind (wpAny_pyNext_list_item hit hl hb fun h1 hit1 hs1 => ?_)
    have ht1 := htup.extBut hs1.extBut hbI
    have hl1 := hl.extBut hs1.extBut hlI
    have hm1 := hm.extBut hs1.extBut hSI
    obtain ⟨o, ho, hc, n, hd⟩ := id ht1
    refine wpAny_bind (wpAny_holding (wpAny_bind (wpAny_tryCatch (wpAny_bind (wpAny_typeOf ⟨o, ho, hc⟩ ?_)))))
    rw [if_pos (by decide)]
    refine wpAny_bind (wpAny_seqItems ho hd (wpAny_pure ?_))
    rw [List.length_cons] at hsz hln
    refine wpAny_holding (wpAny_dictSet_pairs hk hm1 (fun h2 hm2 hs2 => wpAny_pure ⟨plainId_quiet ud_plain _, upd_any hh hlI hSI hSl rest (i + 1) _ (ix + 1) 0 _ (by omega) ?_ ?_ ?_ ?_ hm2 ?_⟩) (by omega))
    · have := stored_len_le acc q.1 q.2
      omega
    · intro j q' hq
      obtain ⟨b', u', g1, g2, g3, g4, g5⟩ := ht (j + 1) q' hq
      exact ⟨b', u', by rw [show i + 1 + j = i + (j + 1) by omega]; exact g1, g2, g3, (g4.extBut hs1.extBut g3).extBut hs2.extBut g2, g5⟩
    · exact hit1.extBut hs2.extBut (Ne.symm hSI)
    · exact hl1.extBut hs2.extBut (Ne.symm hSl)
    · intro h' tk hM hK
      exact hR h' tk hM fun b2 o2 n1 n2 e2 => hK b2 o2 n1 n2 (hs2.extBut b2 o2 n1 (hs1.extBut b2 o2 n2 e2))
theorem call_dict_any {E : Value → Shared → Prop} {s : Shared} {l : Addr} {ol : Obj} {n : Nat} {prs : List (κ × Value)} {Q : Value → Shared → Prop} (hh : A.handled = none) (hl : s.heap.get? l = some ol) (hc : ol.cls = .type "list") (hd : ol.dict = none) (hdat : ol.data = .seq items n)
    (hsz : items.size = prs.length) (hln : prs.length ≤ sizeLine) (ht : ∀ (j : Nat) (q : κ × Value), prs[j]? = some q → ∃ b u, items[j]? = some (.ref b) ∧ IsTup s.heap b #[u, q.2] ∧ knd.is q.1 u = true)
    (h : ∀ (h' : Heap) (tk : Nat), Heap.DictOf knd h' s.heap.objs.size (merged [] prs) → (∀ b o, s.heap.get? b = some o → h'.get? b = some o) → Q (.ref s.heap.objs.size) { heap := h', gens := s.gens, drawn := s.drawn, toks := tk, os := s.os }) :
    wpAny (model prog w) A (call (.type "dict") [.ref l]) Q E s := by
  refine callType_codes (Q₁ := fun o s₁ => o = .ref s.heap.objs.size ∧ s₁ = { heap := s.heap.push { cls := .type "dict", data := .dict #[] }, gens := s.gens, drawn := s.drawn, toks := s.toks, os := s.os }) F.kt_called_dict (F.kt_typeCall_dict_1 (.ref l)) F.entry_dict_init (kt_code_dict_new (.ref l) (by exact ⟨rfl, rfl⟩)) fun obj s₁ a => ?_
  obtain ⟨rfl, rfl⟩ := a
  have hnew : Heap.DictOf knd (s.heap.push { cls := .type "dict", data := .dict #[] }) s.heap.objs.size [] := Heap.DictOf.new s.heap
  have k0 : ∀ b o, s.heap.get? b = some o → (s.heap.push { cls := .type "dict", data := .dict #[] }).get? b = some o := fun b o e => Heap.get?_push_of_some _ e
  refine ⟨hnew.typeIs, F.args_dict_init_2 _ _, ?_⟩
  refine wpAny_bind ?_
  refine wpAny_bind ?_
  refine wpAny_notOrdered_dict hnew.typeIs ?_
  refine wpAny_pure ?_
  refine wpAny_bind ?_
  refine wpAny_typeOf ⟨ol, k0 l ol hl, hc⟩ ?_
  rw [if_pos (by decide)]
  refine wpAny_bind (miss_list (k0 l ol hl) hc hdat hd hh fun h1 tk1 hk1 => ?_)
  rw [if_pos (show (Option.isNone (none : Option Value)) = true from rfl)]
  refine wpAny_bind (wpAny_rule ?_)
  have hl1 : h1.IsList l items := ⟨ol, hk1 l ol (k0 l ol hl), hc, n, hdat⟩
  have hS1 : s.heap.objs.size < h1.objs.size := Heap.lt_size (hk1 s.heap.objs.size _ (Heap.get?_push_size s.heap rfl))
  refine wpAny_bind (wpAny_pyIter_list hl1 ?_)
  have k2 : ∀ b o, h1.get? b = some o → (h1.push { cls := .type "list_iterator", data := .fields #[.ref l, .int 0 0] }).get? b = some o := fun b o e => Heap.get?_push_of_some _ e
  have hlt := Heap.lt_size hl
  refine wpAny_pure ⟨plainId_quiet ud_plain _, ?_⟩
  refine upd_any (knd := knd) (A := A.in1) (res := .none) (I := h1.objs.size) (R := wants (fun r s₂ => r = Value.none ∧ Q (Value.ref s.heap.objs.size) s₂) E) hh (Nat.ne_of_lt (Nat.lt_trans hlt hS1)) (Nat.ne_of_lt hS1) (Nat.ne_of_gt hlt) prs 0 [] 0 0 ⟨h1.push { cls := .type "list_iterator", data := .fields #[.ref l, .int 0 0] }, s.gens, s.drawn, tk1, s.os⟩ (by omega) (by rw [List.length_nil]; omega) (fun j q e => ?_) ⟨_, Heap.get?_push_size h1 rfl, rfl, rfl⟩ (hl1.at fun o e => k2 l o e) ((hnew.at fun o e => hk1 _ o e).at fun o e => k2 _ o e) fun h' tk hd' k => ?_
  · obtain ⟨b, u, e1, e2, e3⟩ := ht j q e
    have hb := e2.lt
    refine ⟨b, u, by rw [Nat.zero_add]; exact e1, Nat.ne_of_lt hb, Nat.ne_of_lt (Nat.lt_trans hb hS1), ?_, e3⟩
    obtain ⟨o, g, r⟩ := e2
    exact ⟨o, k2 _ _ (hk1 _ _ (k0 _ _ g)), r⟩
  · exact ⟨rfl, h h' tk hd' fun b o e => k b o (Nat.ne_of_lt (Heap.lt_size e)) (Nat.ne_of_lt (Nat.lt_trans (Heap.lt_size e) hS1)) (k2 b o (hk1 b o (k0 b o e)))⟩
end
end OK2

/-! Tracked dicts with keys of any plain kind: len, in, isinstance. -/
namespace OK2
open PySem PySem.Spec PyProof.Rows L2
/-- the dict at a, of these entries -/
def adK (P : Program) (w : World) (a : Addr) (ep : Nat) (kvs : List (AnyK × V)) : HO := .ext fun h => (a == sysModules) = false ∧ kvs.length ≤ 1000 ∧ ∃ ws, KV kvs ws ∧ Heap.DictAt (anyKind P w) h a ws ep
theorem dict_of_at {P : Program} {w : World} {h : Heap} {a : Addr} {ep : Nat} {ws : List (AnyK × Value)} (z : Heap.DictAt (anyKind P w) h a ws ep) : Heap.DictOf (anyKind P w) h a ws := by
  obtain ⟨o, es, r⟩ := z
  exact ⟨o, es, ep, r⟩
/-- the value x is the key k -/
inductive KeyV : AnyK → V → Prop
  | non : KeyV none .non
  | int (i : Int) : KeyV (some (.inl i)) (.int i)
  | bl (b : Bool) : KeyV (some (.inl (if b = true then 1 else 0))) (.bl b)
  | str (x : Str) : KeyV (some (.inr x)) (.str x)
theorem KeyV.is {k : AnyK} {x : V} {v : Value} (h : KeyV k x) (r : RelV x v) : anyIs k v = true := by
  cases h with
  | non => cases r; rfl
  | int i => obtain ⟨t, rfl⟩ := r; exact beq_self_eq_true i
  | bl b => cases r; exact beq_self_eq_true _
  | str x => obtain ⟨t, rfl⟩ := r; exact beq_self_eq_true x
theorem kv_len {κ : Type} {kvs : List (κ × V)} {ws : List (κ × Value)} (h : KV kvs ws) : kvs.length = ws.length := by
  induction h with
  | nil => rfl
  | cons _ _ ih => rw [List.length_cons, List.length_cons, ih]
theorem adK.at {X : Cx} {pins : List (Addr × Obj)} {σ : L2.St} {H : Hp} {s : Shared} (I : L2.Inv X pins σ H s) {a : Addr} {ep : Nat} {kvs : List (AnyK × V)} (h : H a = some (adK X.prog X.w a ep kvs)) : (a == sysModules) = false ∧ kvs.length ≤ 1000 ∧ ∃ ws, KV kvs ws ∧ Heap.DictOf (anyKind X.prog X.w) s.heap a ws := by
  obtain ⟨⟨z1, z2, ws, z3, z4⟩, _⟩ := I.hok _ _ h
  exact ⟨z1, z2, ws, z3, dict_of_at z4⟩
/-- the keys stand or not, whatever the values -/
theorem valueAt_some {kvs : List (AnyK × V)} {ws : List (AnyK × Value)} (h : KV kvs ws) (k : AnyK) : (valueAt ws k).isSome = kvs.any fun p => decide (p.1 = k) := by
  induction h with
  | nil => rfl
  | @cons p q ps qs r rs ih =>
    unfold valueAt at *
    rw [List.find?_cons, List.any_cons, r.1]
    cases e : decide (q.1 = k) with
    | true => rfl
    | false => simpa using ih
theorem call_lenA {X : Cx} : CallR X (.builtin "len") (fun xs H Q => ∃ a ep kvs, xs = [.ref a] ∧ H a = some (adK X.prog X.w a ep kvs) ∧ Q (.int kvs.length) H) := by
  intro pins s σ H xs us Q I r h
  obtain ⟨a, ep, kvs, rfl, ha, q⟩ := h
  cases r with
  | cons r1 r2 =>
  cases r2
  cases r1
  obtain ⟨hs, hl, ws, hk, hd⟩ := adK.at I ha
  have e := kv_len hk
  have : (1000 : Int) < 2 ^ 63 := by decide
  refine call_len_dict hs hd (by omega) ⟨.int kvs.length, H, I.tok _, ⟨_, by rw [e]⟩, q⟩
theorem call_isiA {X : Cx} : CallR X (.builtin "isinstance") (fun xs H Q => ∃ a ep kvs, xs = [.ref a, .ty "dict"] ∧ H a = some (adK X.prog X.w a ep kvs) ∧ Q (.bl true) H) := by
  intro pins s σ H xs us Q I r h
  obtain ⟨a, ep, kvs, rfl, ha, q⟩ := h
  cases r with
  | cons r1 r2 =>
  cases r2 with
  | cons r3 r4 =>
  cases r4
  cases r1
  cases r3
  obtain ⟨hs, hl, ws, hk, hd⟩ := adK.at I ha
  obtain ⟨o, es, ep, g, ex, _⟩ := id hd
  exact PySem.W.kia_one PySem.W.kitx_dict I.kIn ⟨o, g, ex.1⟩ (kit_ty (by decide +kernel)) (fun e => nomatch e) fun tk => ⟨.bl true, H, I.tok _, rfl, q⟩
theorem op_inA {X : Cx} : OpR X (compareOp .In) (fun x y H Q => ∃ k a ep kvs, KeyV k x ∧ y = .ref a ∧ H a = some (adK X.prog X.w a ep kvs) ∧ Q (.bl (kvs.any fun p => decide (p.1 = k))) H) := by
  intro pins s σ H x y v u Q I rx ry h
  obtain ⟨k, a, ep, kvs, hk, rfl, ha, q⟩ := h
  cases ry
  obtain ⟨hs, hl, ws, hw, hd⟩ := adK.at I ha
  refine wpAny_in_of (knd := anyKind X.prog X.w) (hk.is rx) hs hd.mapOf ⟨.bl _, H, I.tok _, ?_, q⟩
  show _ = Value.bool _
  rw [valueAt_some hw]
/-- what dict(pairs) holds: the first place of a key, its last value -/
def storedA (acc : List (AnyK × V)) (k : AnyK) (v : V) : List (AnyK × V) := if (acc.any fun kv => decide (kv.1 = k)) = true then acc.map fun kv => if kv.1 = k then (kv.1, v) else kv else acc ++ [(k, v)]
def mergedA (acc more : List (AnyK × V)) : List (AnyK × V) := more.foldl (fun a kv => storedA a kv.1 kv.2) acc
theorem kv_map {acc : List (AnyK × V)} {acs : List (AnyK × Value)} (h : KV acc acs) (k : AnyK) {v : V} {u : Value} (r : RelV v u) : KV (acc.map fun kv => if kv.1 = k then (kv.1, v) else kv) (acs.map fun kv => if kv.1 = k then (kv.1, u) else kv) := by
  induction h with
  | nil => exact .nil
  | @cons p q _ _ a _ ih =>
    rw [List.map_cons, List.map_cons]
    refine .cons ?_ ih
    by_cases c : q.1 = k
    · rw [if_pos c, if_pos (a.1.trans c)]
      exact ⟨a.1, r⟩
    · rw [if_neg c, if_neg (fun z => c (a.1.symm.trans z))]
      exact a
theorem kv_snoc {acc : List (AnyK × V)} {acs : List (AnyK × Value)} (h : KV acc acs) (k : AnyK) {v : V} {u : Value} (r : RelV v u) : KV (acc ++ [(k, v)]) (acs ++ [(k, u)]) := by
  induction h with
  | nil => exact .cons ⟨rfl, r⟩ .nil
  | cons a _ ih => exact .cons a ih
theorem kv_any {acc : List (AnyK × V)} {acs : List (AnyK × Value)} (h : KV acc acs) (k : AnyK) : (acc.any fun kv => decide (kv.1 = k)) = (acs.any fun kv => decide (kv.1 = k)) := by
  induction h with
  | nil => rfl
  | cons a _ ih => rw [List.any_cons, List.any_cons, a.1, ih]
theorem kv_stored {acc : List (AnyK × V)} {acs : List (AnyK × Value)} (h : KV acc acs) (k : AnyK) {v : V} {u : Value} (r : RelV v u) : KV (storedA acc k v) (stored acs k u) := by
  unfold storedA stored
  rw [kv_any h k]
  split
  · exact kv_map h k r
  · exact kv_snoc h k r
theorem kv_merged : ∀ {more : List (AnyK × V)} {mos : List (AnyK × Value)}, KV more mos → ∀ {acc : List (AnyK × V)} {acs : List (AnyK × Value)}, KV acc acs → KV (mergedA acc more) (merged acs mos)
  | _, _, .nil, _, _, h => h
  | (k, v) :: _, (k', u) :: _, .cons a r, _, _, h => by
    have e : k = k' := a.1
    subst e
    exact kv_merged r (kv_stored h k a.2)
theorem storedA_len (acc : List (AnyK × V)) (k : AnyK) (v : V) : (storedA acc k v).length ≤ acc.length + 1 := by
  unfold storedA
  split <;> simp
theorem mergedA_len : ∀ (more acc : List (AnyK × V)), (mergedA acc more).length ≤ acc.length + more.length
  | [], acc => Nat.le_refl _
  | (k, v) :: more, acc => by
    have h1 := mergedA_len more (storedA acc k v)
    have h2 := storedA_len acc k v
    show (mergedA (storedA acc k v) more).length ≤ acc.length + (more.length + 1)
    omega
theorem pairs_ofA {X : Cx} {pins : List (Addr × Obj)} {σ : L2.St} {H : Hp} {s : Shared} (I : L2.Inv X pins σ H s) : ∀ {ps : List Addr} {kvs : List (AnyK × V)}, Paired (fun p kv => ∃ x, KeyV kv.1 x ∧ SqT X.K H p [x, kv.2]) ps kvs →
    ∃ prs : List (AnyK × Value), KV kvs prs ∧ prs.length = ps.length ∧ ∀ (j : Nat) (q : AnyK × Value), prs[j]? = some q → ∃ b u, ps[j]? = some b ∧ IsTup s.heap b #[u, q.2] ∧ anyIs q.1 u = true
  | _, _, .nil => ⟨[], .nil, rfl, fun j q e => by cases e⟩
  | p :: ps, (k, v) :: kvs, .cons a r => by
    obtain ⟨x, hx, ht⟩ := a
    obtain ⟨prs, h1, h2, h3⟩ := pairs_ofA I r
    obtain ⟨its, r1, tp, _⟩ := I.tuple ht
    cases r1 with
    | cons rx r2 =>
    cases r2 with
    | cons rv r3 =>
    cases r3
    rename_i u u2
    refine ⟨(k, u2) :: prs, .cons ⟨rfl, rv⟩ h1, by rw [List.length_cons, List.length_cons, h2], fun j q e => ?_⟩
    cases j with
    | zero =>
      cases e
      exact ⟨p, u, rfl, tp, hx.is rx⟩
    | succ n => exact h3 n q e
theorem call_dictA {X : Cx} (hcalm : X.calm = true) : CallR X (.type "dict") (fun xs H Q => ∃ a ps kvs, xs = [.ref a] ∧ SqL X.K H a (ps.map V.ref) ∧ Paired (fun p kv => ∃ x, KeyV kv.1 x ∧ SqT X.K H p [x, kv.2]) ps kvs ∧ kvs.length ≤ 1000 ∧
    ∀ p ep, H p = none → Q (.ref p) (upd H p (adK X.prog X.w p ep (mergedA [] kvs)))) := by
  intro pins s σ H xs us Q I r h
  obtain ⟨a, ps, kvs, rfl, ha, hp, hl, q⟩ := h
  cases r with
  | cons r1 r2 =>
  cases r2
  cases r1
  obtain ⟨its, rv, ⟨o, n, ho, hc, hd, hdat⟩, hz⟩ := I.list ha
  have ei := refs_at rv
  subst ei
  obtain ⟨prs, k1, k2, k3⟩ := pairs_ofA I hp
  have hk := kv_len k1
  have hs : (1000 : Nat) ≤ sizeLine := by decide
  refine call_dict_any (knd := anyKind X.prog X.w) (prs := prs) (I.ok.hd hcalm) ho hc hd hdat (by simp [k2]) (by omega) (fun j q' e => ?_) fun h' tk hD hK => ?_
  · obtain ⟨b, u, e1, e2, e3⟩ := k3 j q' e
    exact ⟨b, u, by simp [e1], e2, e3⟩
  · have hsys : (s.heap.objs.size == sysModules) = false := by
      obtain ⟨o3, es, ep, g, _⟩ := I.ok.mod.glob
      have g2 : (3 : Nat) < s.heap.objs.size := Heap.lt_size (Inv.bk I _ _ g)
      refine beq_eq_false_iff_ne.mpr fun e => ?_
      have e2 : s.heap.objs.size = (1 : Nat) := e
      omega
    obtain ⟨ep, hD⟩ := hD.dictAt
    have ob : ObjOk X.prog X.w (upd H s.heap.objs.size (adK X.prog X.w s.heap.objs.size ep (mergedA [] kvs))) h' s.heap.objs.size (adK X.prog X.w s.heap.objs.size ep (mergedA [] kvs)) := by
      refine ⟨⟨hsys, ?_, _, kv_merged k1 .nil, hD⟩, ?_, fun h1 h2 ⟨z0, z1, ws, z2, o4, es4, z3, z4⟩ kk => ⟨z0, z1, ws, z2, o4, es4, kk _ z3, z4⟩⟩
      · have := mergedA_len kvs []
        rw [List.length_nil] at this
        omega
      · obtain ⟨o2, _, g, _⟩ := hD
        exact ⟨o2, g⟩
    exact ⟨.ref s.heap.objs.size, _, I.laid hK (Nat.le_refl _) ob, rfl, q _ ep (I.hok.fresh (Nat.le_refl _))⟩
/-- the keys, one after the other -/
def ItA (P : Program) (w : World) (d : Addr) (ep : Nat) (kvs : List (AnyK × V)) : It where
  go i H := H d = some (adK P w d ep kvs) ∧ i < kvs.length
  yld i H x H' := H' = H ∧ ∃ k v, kvs[i]? = some (k, v) ∧ KeyV k x
  stop i H := H d = some (adK P w d ep kvs) ∧ kvs.length ≤ i
theorem rel_key {k : AnyK} {u : Value} (h : anyIs k u = true) : ∃ x, RelV x u ∧ KeyV k x := by
  rcases any_cases h with ⟨rfl, rfl⟩ | ⟨j, t, rfl, rfl⟩ | ⟨b, rfl, rfl⟩ | ⟨x, t, rfl, rfl⟩
  · exact ⟨.non, rfl, .non⟩
  · exact ⟨.int j, ⟨t, rfl⟩, .int j⟩
  · exact ⟨.bl b, rfl, .bl b⟩
  · exact ⟨.str x, ⟨t, rfl⟩, .str x⟩
theorem adK.at2 {X : Cx} {pins : List (Addr × Obj)} {σ : L2.St} {H : Hp} {s : Shared} (I : L2.Inv X pins σ H s) {a : Addr} {ep : Nat} {kvs : List (AnyK × V)} (h : H a = some (adK X.prog X.w a ep kvs)) : ∃ ws, KV kvs ws ∧ Heap.DictAt (anyKind X.prog X.w) s.heap a ws ep := (I.hok _ _ h).1.2.2
theorem turn_A {P : Program} {w : World} {K : PySem.W.Frag} {tg : Expr} {d : Addr} {ep : Nat} {kvs : List (AnyK × V)} (it : Addr) : Turn P w K tg (ItA P w d ep kvs) [it] it fun i h => h.IsKeyIter it d i kvs.length ep where
  mem := List.mem_singleton.mpr rfl
  obj i h st b hb := by
    rw [List.mem_singleton] at hb
    subst hb
    obtain ⟨oi, e, c, dd⟩ := st
    exact ⟨oi, e, fun v z => by rw [dd] at z; cases z⟩
  keep i h h' st k := st.at fun oi e => k it (List.mem_singleton.mpr rfl) oi e
  item X hP hw hK hc i pins s σ H E I hf st hg := by
    subst hP hw
    obtain ⟨hd, hi⟩ := hg
    obtain ⟨f0, f1, f2, f3, f4, f5⟩ := hf it (List.mem_singleton.mpr rfl)
    obtain ⟨ws, kv, hm⟩ := adK.at2 I hd
    obtain ⟨⟨k, v⟩, hkv⟩ : ∃ p, kvs[i]? = some p := ⟨_, List.getElem?_eq_getElem hi⟩
    obtain ⟨u, hu, ru⟩ := kv_get kv hkv
    have hl := kv_len kv
    refine wpAny_pyNext_dict_item (knd := anyKind X.prog X.w) (by rw [← hl]; exact st) hm hu fun key h' hkey st' sb => ?_
    have I1 := Inv.turned (t' := s.toks) I (fun b ob hb e => (sb.2 b hb).trans e) f0 f1 f3 f4 f5
    obtain ⟨oi, e, c, dd⟩ := id st'
    obtain ⟨x, rx, kx⟩ := rel_key hkey
    exact ⟨key, rfl, go_of e c dd (by decide) ⟨x, H, I1, rx, ⟨rfl, k, v, hkv, kx⟩, by rw [hl]; exact st', fun b hb => (hf b hb).1⟩⟩
  done X hP hw hK hc i pins s σ H E I hf st hg := by
    subst hP hw
    obtain ⟨hd, hi⟩ := hg
    obtain ⟨f0, f1, f2, f3, f4, f5⟩ := hf it (List.mem_singleton.mpr rfl)
    obtain ⟨ws, kv, hm⟩ := adK.at2 I hd
    have hl := kv_len kv
    refine wpAny_pyNext_dict_end (knd := anyKind X.prog X.w) (I.ok.hd hc) (by rw [← hl]; exact st) hm (List.getElem?_eq_none (by omega)) fun h' eb => ?_
    exact ⟨rfl, Inv.turned I (fun b ob hb e => eb b ob hb e) f0 f1 f3 f4 f5⟩
  self A i s Q E st h := wpAny_pyIter_keyiter st h
def iKeysA (P : Program) (w : World) (td : TE) : TI := fun σ H R => td σ H fun x H1 => ∃ d ep kvs, x = .ref d ∧ H1 d = some (adK P w d ep kvs) ∧ R (ItA P w d ep kvs) H1
theorem pi_keysA {X : Cx} {tg e : Expr} {td : TE} (he : PE X e td) : PI X tg e (iKeysA X.prog X.w td) := by
  refine ⟨fun pins s σ H R I h => thn (he.run pins s σ H _ I h) fun u s1 hh => ?_⟩
  obtain ⟨x, H1, I1, rx, d, ep, kvs, ex, hd, q⟩ := hh
  subst ex
  cases rx
  obtain ⟨hs, _, _⟩ := adK.at I1 hd
  obtain ⟨ws, kv, o, es, g, exd, hdt, hko, hps, hnd⟩ := adK.at2 I1 hd
  have hsz : es.size = kvs.length := by
    have h1 := hps.length
    have h2 := kv_len kv
    rw [Array.length_toList] at h1
    omega
  refine iter_keys hs g exd hdt (pi_one I1 _ (turn_A s1.heap.objs.size) ⟨_, Heap.get?_push_size s1.heap rfl, rfl, ?_⟩ q)
  rw [hsz]
  rfl
/-- the value of a key -/
def valA (kvs : List (AnyK × V)) (k : AnyK) : Option V := (kvs.find? fun p => decide (p.1 = k)).map (·.2)
theorem valA_at {kvs : List (AnyK × V)} {ws : List (AnyK × Value)} (h : KV kvs ws) {k : AnyK} {v : V} (e : valA kvs k = some v) : ∃ u, valueAt ws k = some u ∧ RelV v u := by
  induction h with
  | nil => cases e
  | @cons p q _ _ a _ ih =>
    unfold valA at e ih
    unfold valueAt at *
    rw [List.find?_cons] at e ⊢
    rw [a.1] at e
    cases c : decide (q.1 = k) with
    | true =>
      rw [c] at e
      cases e
      exact ⟨q.2, rfl, a.2⟩
    | false =>
      rw [c] at e
      exact ih e
theorem ix_A {X : Cx} : IxR X (fun x y H Q => ∃ a ep kvs k v, x = .ref a ∧ KeyV k y ∧ H a = some (adK X.prog X.w a ep kvs) ∧ valA kvs k = some v ∧ Q v H) := by
  intro value slice pins s σ H x y v u Q I rx ry h hs
  obtain ⟨a, ep, kvs, k, z, rfl, hk, ha, hv, q⟩ := h
  cases rx
  obtain ⟨_, _, ws, hw, hd⟩ := adK.at I ha
  obtain ⟨u2, e2, r2⟩ := valA_at hw hv
  exact subscriptTail_builtinR hd.typeIs slot_dict_getitem.lookup (wpAny_getItem_of (knd := anyKind X.prog X.w) (hk.is ry) hd.mapOf e2 ⟨rfl, z, H, I.tok _, r2, q⟩) hs
end OK2

/-! tuple(d.values()) -/
namespace OK2
open PySem PySem.Spec PyProof.Rows L2
section
variable {prog : Program} {w : World} {A : Around} {E : Value → Shared → Prop} {s : Shared} {T : String} {r d : Addr} {n : Nat} {Pv : Nat → Value → Prop} {OK : Heap → Prop}
theorem collect_kdl {Q : List Value → Shared → Prop} (hh : A.handled = none) (S : PySem.W.KdlSrc prog w T r d n Pv OK) (hok : OK s.heap) (hn : n ≤ sizeLine)
    (hQ : ∀ (h' : Heap) (tk : Nat) (acc : Array Value), (∀ b o, s.heap.get? b = some o → h'.get? b = some o) → ItemsOf Pv acc n → Q acc.toList { s with heap := h', toks := tk }) :
    wpAny (model prog w) A (collect (.ref r)) Q E s := by
  unfold collect
  refine wpAny_bind (wpAny_runValue (codeAny_builtin F.entry_proto_collect ?_))
  rw [Around.under_plainId F.plain_proto_collect _]
  show wpAny _ A.in1 (newList [] >>= fun l => again (.builtin "list.__iadd__" ⟨[l, .ref r], []⟩)) _ _ s
  refine wpAny_bind (wpAny_newObj_type ?_)
  refine wpAny_pure ⟨plainId_quiet F.plain_list_iadd _, codeAny_builtin F.entry_list_iadd ?_⟩
  rw [Around.under_plainId F.plain_list_iadd _]
  show wpAny _ A.in1 (Builtin.List.listExtendWith (.ref s.heap.objs.size) (.ref r) (.ref s.heap.objs.size)) _ _ _
  have hS : (s.heap.push { cls := .type "list", data := .seq ([] : List Value).toArray }).get? s.heap.objs.size = some { cls := .type "list", data := .seq #[] 0 } := Heap.get?_push_size _ rfl
  have ht := S.there _ hok
  refine wpAny_mono (PySem.W.kdl_extend (A := A) (R := fun rr s' => rr = .ok (.ret (.ref s.heap.objs.size)) ∧ ∃ (h' : Heap) (tk : Nat) (acc : Array Value) (c' : Nat), s' = { s with heap := h', toks := tk } ∧
      (∀ b o, s.heap.get? b = some o → h'.get? b = some o) ∧ h'.get? s.heap.objs.size = some { cls := .type "list", dict := none, data := .seq acc c', slots := #[] } ∧ ItemsOf Pv acc n)
    (s := { s with heap := s.heap.push { cls := .type "list", data := .seq ([] : List Value).toArray } }) S hh (S.keep _ _ hok fun b _ o e => Heap.get?_push_of_some _ e) s.heap.objs.size (Nat.ne_of_gt ht.1) (Nat.ne_of_gt ht.2) (.ref s.heap.objs.size) 0 hS
    (fun h' tk acc c' hk e hi => ⟨rfl, h', tk, acc, c', rfl, fun b o q => hk b o (Nat.ne_of_lt (Heap.lt_size q)) (Heap.get?_push_of_some _ q), e, hi⟩) hn) (fun fin s' h => ?_) (fun e s' h => ?_)
  · cases fin with
    | done f =>
      obtain ⟨e, h', tk, acc, c', rfl, hk, hS', hi⟩ := h
      cases e
      show wpAny _ A (load s.heap.objs.size >>= _) _ _ _
      exact wpAny_bind (wpAny_load hS' (wpAny_pure (hQ h' tk acc hk hi)))
    | again c' =>
      refine ⟨h.1, codeAny_mono h.2 fun rr s'' hr' => ?_⟩
      obtain ⟨rfl, h', tk, acc, c', rfl, hk, hS', hi⟩ := hr'
      show wpAny _ A (load s.heap.objs.size >>= _) _ _ _
      exact wpAny_bind (wpAny_load hS' (wpAny_pure (hQ h' tk acc hk hi)))
  · exact absurd h.1 (by simp)
theorem code_tuple_new_kdl {Q₁ : Value → Shared → Prop} (hh : A.handled = none) (S : PySem.W.KdlSrc prog w "dict_values" r d n Pv OK) (hok : OK s.heap) (hn : n ≤ sizeLine)
    (h : ∀ (h' : Heap) (tk : Nat) (acc : Array Value), (∀ b o, s.heap.get? b = some o → h'.get? b = some o) → ItemsOf Pv acc n →
      Q₁ (.ref h'.objs.size) { s with heap := h'.push { cls := .type "tuple", data := .seq acc }, toks := tk }) :
    codeAny (model prog w) A (.call (.builtin "tuple.__new__") ⟨[.type "tuple", .ref r], []⟩) (wants Q₁ E) s := by
  refine codeAny_of_tree ?_
  show wpAny _ A.in1 (do checkBuiltinCall "tuple.__new__" ⟨[.type "tuple", .ref r], []⟩; again (.builtin "tuple.__new__" ⟨[.type "tuple", .ref r], []⟩)) _ _ s
  refine wpAny_bind (wpAny_of_eq (F.newCall_tuple_1 _) (wpAny_pure ⟨plainId_quiet F.plain_tuple_new _, codeAny_builtin F.entry_tuple_new ?_⟩))
  rw [Around.under_plainId F.plain_tuple_new _]
  have hsub := sub_tuple_self
  have hinit := init_tuple_lookup
  have hmh := madeHere_tuple
  have hTI : s.TypeIs (.ref r) "dict_values" := S.type _ hok
  have hh1 : A.in1.handled = none := hh
  wp_walk using wpAny_typeOf hTI, collect_kdl (A := A.in1) hh1 S hok hn
  intro h' tk acc hk hacc
  show wpAny _ _ (Builtin.Tuple.tupleExact acc.toList.toArray >>= fun v => ret v) _ _ _
  unfold Builtin.Tuple.tupleExact
  refine wpAny_bind (wpAny_newObj_type ?_ (by show acc.toList.toArray.size ≤ sizeLine; simp only [Array.toArray_toList]; rw [hacc.1]; exact hn))
  refine wpAny_pure ?_
  have e : acc.toList.toArray = acc := by simp
  rw [e]
  exact h h' tk acc hk hacc
theorem call_tuple_kdl {Q : Value → Shared → Prop} (hh : A.handled = none) (S : PySem.W.KdlSrc prog w "dict_values" r d n Pv OK) (hok : OK s.heap) (hn : n ≤ sizeLine)
    (hQ : ∀ (h' : Heap) (tk : Nat) (acc : Array Value), (∀ b o, s.heap.get? b = some o → h'.get? b = some o) → ItemsOf Pv acc n →
      Q (.ref h'.objs.size) { s with heap := h'.push { cls := .type "tuple", data := .seq acc }, toks := tk }) :
    wpAny (model prog w) A (call (.type "tuple") [.ref r]) Q E s := by
  refine callType_codes (Q₁ := fun obj s₁ => s₁.TypeIs obj "tuple" ∧ Q obj s₁) F.called_tuple (F.typeCall_tuple_1 _) F.entry_object_init
    (code_tuple_new_kdl (A := A.in1) hh S hok hn fun h' tk acc hk hacc => ⟨⟨_, Heap.get?_push_size _ rfl, rfl⟩, hQ h' tk acc hk hacc⟩) fun obj s₁ h₁ => ?_
  exact ⟨h₁.1, F.args_object_init_2 obj _, object_init_meets F.called_tuple.init.lookup F.called_tuple.made (by decide) prog w A.in1 _ s₁ ⟨h₁.1, rfl, h₁.2⟩⟩
end
/-- tuple(d.values()) -/
def tTupVals (P : Program) (w : World) (td : TE) : TE := fun σ H Q => td σ H fun x H1 => ∃ a ep kvs, x = .ref a ∧ H1 a = some (adK P w a ep kvs) ∧ ∀ q, H1 q = none → Q (.ref q) (upd H1 q (.tup (kvs.map (·.2))))
theorem kv_vals {κ : Type} {kvs : List (κ × V)} {ws : List (κ × Value)} (h : KV kvs ws) : ∀ {acc : List Value}, acc.length = ws.length → (∀ (j : Nat) (v : Value), acc[j]? = some v → ∃ k, ws[j]? = some (k, v)) → Vals (kvs.map (·.2)) acc := by
  induction h with
  | nil =>
    intro acc hl _
    rw [List.length_eq_zero_iff.mp hl]
    exact .nil
  | @cons p q ps qs r rs ih =>
    intro acc hl hi
    cases acc with
    | nil => cases hl
    | cons u us =>
      obtain ⟨k, e⟩ := hi 0 u rfl
      obtain ⟨q1, q2⟩ := q
      cases e
      exact .cons r.2 (ih (Nat.succ.inj hl) fun j v e => hi (j + 1) v e)
theorem pe_tupValsA {X : Cx} {e : Expr} {td : TE} {p pos apos cpos : Pos} (hc : X.calm = true) (hm : X.mg "tuple" = none) (he : PE X e td) (hg : Gl X "tuple" := by rfl)
    (hbase : attributeBase e "values" X.env (eval e X.env) = eval e X.env := by rfl) (hline : (apos.endLine == cpos.line) = true := by rfl)
    (na : starEach [.Call (.Attribute e "values" apos) [] [] cpos] X.env = (false, eval (.Call (.Attribute e "values" apos) [] [] cpos) X.env) :: starEach [] X.env := by rfl) :
    PE X (.Call (.Name "tuple" p) [.Call (.Attribute e "values" apos) [] [] cpos] [] pos) (tTupVals X.prog X.w td) := by
  refine ⟨fun pins s σ H Q I h => ?_⟩
  refine Call_ (ld_blt I hg hm boot_tuple (PyProof.Rows.callWith_type1 (PyProof.Rows.args_cons ?_ na) na))
  refine wpAny_Call_method (T := "dict") (id := "dict.values") hbase rfl hline F.plainAttrs_dict F.slot_dict_values F.type_dict_values (thn (he.run pins s σ H _ I h) fun u s1 hh => ?_)
  obtain ⟨x, H1, I1, rx, d, ep, kvs, ex, hd, q⟩ := hh
  subst ex
  cases rx
  obtain ⟨hs, hl, _⟩ := adK.at I1 hd
  obtain ⟨ws, kv, hm1⟩ := adK.at2 I1 hd
  have hlen := kv_len kv
  have hsz : (1000 : Nat) ≤ sizeLine := by decide
  refine ⟨hm1.dictOf.typeIs, hm1.dictOf.mapOf.noDict, ?_⟩
  have I2 : Inv X pins σ H1 { s1 with heap := s1.heap.push { cls := .type "dict_values", data := .fields #[.ref d] } } := I1.kept (t' := s1.toks) fun b ob q => Heap.get?_push_of_some _ q
  show wpAny _ _ (callWith cpos (.builtin "dict.values") [.ref d] [] []) _ X.xe s1
  refine method_meetsIn F.slot_dict_values F.entry_dict_values rfl (PySem.evalArgs_none ⟨rfl, hm1.dictOf.typeIs, F.args_dict_values_1 _, _, meets_dict_values (anyKind X.prog X.w) d hs, ⟨ws, hm1.dictOf⟩, ?_⟩)
  refine PyProof.Rows.args_nil ?_
  refine call_tuple_kdl (I2.ok.hd hc) (PySem.W.kdl_values (knd := anyKind X.prog X.w) (kvs := ws) (ep := ep)) ⟨⟨_, Heap.get?_push_size _ rfl, rfl, rfl⟩, hm1.push _⟩ (by omega) fun h' tk acc hk hacc => ?_
  have I3 := I2.kept (t' := tk) hk
  have hv : Vals (kvs.map (·.2)) acc.toList := kv_vals kv (by rw [Array.length_toList]; exact hacc.1) fun j v e => hacc.2 j v (by rw [← Array.getElem?_toList]; exact e)
  have I4 := I3.laid (a := h'.objs.size) (o := .tup (kvs.map (·.2))) (h' := h'.push { cls := .type "tuple", data := .seq acc }) (t' := tk) (fun b o e => Heap.get?_push_of_some _ e) (Nat.le_refl _)
    (show ObjOk X.prog X.w _ _ _ (.tup (kvs.map (·.2))) from ⟨by rw [List.length_map]; omega, acc.toList, hv, by rw [Array.toArray_toList]; exact IsTup.new _ _⟩)
  exact ⟨.ref h'.objs.size, _, I4, rfl, q _ (I3.hok.fresh (Nat.le_refl _))⟩
end OK2

/-! {} and {k: v} as dicts of any keys; list.count of plain values -/
namespace OK2
open PySem PySem.Spec PyProof.Rows L2
def tDNewA (P : Program) (w : World) : TE := fun _ H Q => ∀ p ep, H p = none → Q (.ref p) (upd H p (adK P w p ep []))
theorem adK_ok {P : Program} {w : World} {H : Hp} {h : Heap} {a : Addr} {ep : Nat} {kvs : List (AnyK × V)} {ws : List (AnyK × Value)} (hs : (a == sysModules) = false) (hl : kvs.length ≤ 1000) (hk : KV kvs ws) (hd : Heap.DictAt (anyKind P w) h a ws ep) : ObjOk P w H h a (adK P w a ep kvs) := by
  refine ⟨⟨hs, hl, ws, hk, hd⟩, ?_, fun h1 h2 ⟨z0, z1, ws, z2, o4, es4, z3, z4⟩ kk => ⟨z0, z1, ws, z2, o4, es4, kk _ z3, z4⟩⟩
  obtain ⟨o2, _, g, _⟩ := hd
  exact ⟨o2, g⟩
theorem pe_dnewA {X : Cx} {pos : Pos} : PE X (.Dict [] [] pos) (tDNewA X.prog X.w) := ⟨fun pins s σ H Q I h => by
  obtain ⟨ep, hd⟩ := (Heap.DictOf.new (knd := anyKind X.prog X.w) s.heap).dictAt
  exact wpAny_Dict_empty ⟨.ref s.heap.objs.size, _, I.laid (a := s.heap.objs.size) (o := adK X.prog X.w s.heap.objs.size ep []) (t' := s.toks) (fun _ _ q => Heap.get?_push_of_some _ q) (Nat.le_refl _)
    (adK_ok (beq_eq_false_iff_ne.mpr (Ne.symm (Nat.ne_of_lt I.big))) (Nat.zero_le _) .nil hd), rfl, h _ ep (I.hok.fresh (Nat.le_refl _))⟩⟩
theorem carriesA {P : Program} {w : World} : ∀ {kvs : List (Str × V)} {ws : List (Value × Value)}, VV (kvs.map fun kv => (V.str kv.1, kv.2)) ws → ∃ rs, Carries (anyKind P w) ws rs ∧ KV (kvs.map fun kv => ((some (.inr kv.1) : AnyK), kv.2)) rs
  | [], _, r => by rw [List.map_nil] at r; cases r; exact ⟨[], True.intro, .nil⟩
  | p :: kvs, _, r => by
    rw [List.map_cons] at r
    cases r with
    | @cons a b as bs h t =>
      obtain ⟨rs, c, q⟩ := carriesA (P := P) (w := w) t
      obtain ⟨b1, b2⟩ := b
      obtain ⟨h1, h2⟩ := h
      obtain ⟨tk, h1⟩ := h1
      simp only at h1
      subst h1
      exact ⟨(some (.inr p.1), b2) :: rs, ⟨by exact beq_self_eq_true _, rfl, c⟩, .cons ⟨rfl, h2⟩ q⟩
/-- {k: v, ..} of written texts -/
def tDispA (P : Program) (w : World) (trs : List (TE × TE)) : TE := fun σ H Q => ∀ p, H p = none → tPairs trs σ (upd H p (.dK [])) fun ps H2 => H2 p = some (.dK []) ∧ ∃ kvs : List (Str × V), ps = kvs.map (fun kv => (V.str kv.1, kv.2)) ∧ kvs.length ≤ 15 ∧
  ∀ ep, Q (.ref p) (upd H2 p (adK P w p ep (mergedA [] (kvs.map fun kv => ((some (.inr kv.1) : AnyK), kv.2)))))
theorem pe_dispA {X : Cx} {pos : Pos} {keys : List (Option Expr)} {values : List Expr} {trs : List (TE × TE)} (h : PPs X pos keys values trs) (hall : keys.all (·.isSome) = true) (hl : keys.length = values.length) (h0 : keys ≠ [])
    (h15 : keys.length ≤ 15) : PE X (.Dict keys values pos) (tDispA X.prog X.w trs) := by
  refine ⟨fun pins s σ H Q I q => ?_⟩
  have hn := I.hok.fresh (Nat.le_refl s.heap.objs.size)
  have I1 := I.laid (a := s.heap.objs.size) (o := .dK []) (h' := s.heap.push { cls := .type "dict", data := .dict #[] }) (t' := s.toks) (fun _ _ q => Heap.get?_push_of_some _ q) (Nat.le_refl _) (dk_empty s.heap I.big)
  refine wpAny_Dict_walk (knd := anyKind X.prog X.w) hall hl h0 h15 (thn (h.run pins _ σ _ _ I1 (q _ hn)) fun ws s2 ⟨ps, H2, I2, rel, e, kvs, ep, lk, q2⟩ => ?_)
  subst ep
  obtain ⟨rs, c, rk⟩ := carriesA (P := X.prog) (w := X.w) rel
  obtain ⟨z, hd, vs0, r0, dd⟩ := dk_of I2.hok e
  cases r0
  have dd0 : s2.heap.DictOf (anyKind X.prog X.w) s.heap.objs.size [] := by
    obtain ⟨o, es, ep, g, x, y, k1, k2, k3⟩ := dd
    have he : es = #[] := by
      cases es with
      | mk l =>
        cases l with
        | nil => rfl
        | cons a l => cases k2
    subst he
    exact ⟨o, #[], ep, g, x, y, (fun e he => absurd he (by simp)), .nil, List.nodup_nil⟩
  refine ⟨rs, c, dd0, fun h' dd' hs => ?_⟩
  obtain ⟨ep, da⟩ := dd'.dictAt
  refine ⟨.ref s.heap.objs.size, _, d_write I2 (by rw [e]; exact True.intro) hs ?_ (adK_ok (ep := ep) hd ?_ (kv_merged rk .nil) da), rfl, q2 ep⟩
  · obtain ⟨q, _, hq, _⟩ := da
    exact ⟨q, hq⟩
  · have := mergedA_len (kvs.map fun kv => ((some (.inr kv.1) : AnyK), kv.2)) []
    rw [List.length_map, List.length_nil] at this
    omega
def rCntV (K : PySem.W.Frag) : V → List V → Hp → VK → Prop := fun x vs H Q => ∃ p xs y, x = .ref p ∧ vs = [y] ∧ SqL K H p xs ∧ flatV y = true ∧ xs.all flatV = true ∧ Q (.int (xs.countP fun z => eqV z y : Nat)) H
theorem count_eqU {x : V} : ∀ {xs : List V} {us : List Value}, Vals xs us → xs.all flatV = true → us.countP (eqU x) = xs.countP fun y => eqV y x
  | _, _, .nil, _ => rfl
  | y :: xs, u :: us, .cons r t, f => by
    rw [List.all_cons, Bool.and_eq_true] at f
    rw [List.countP_cons, List.countP_cons, eqU_of r f.1, count_eqU t f.2]
theorem mt_countV {X : Cx} : MtR X "list.count" (rCntV X.K) := by
  intro pins s σ H x xs v us Q I rx rxs h
  obtain ⟨p, ns, k, rfl, rfl, hs, fk, fs, q⟩ := h
  cases rx
  cases rxs with
  | cons ru rn =>
  cases rn
  rename_i u
  obtain ⟨its, rv, ⟨⟨cls, dd, data, sl⟩, n, ho, hc, hdn, hd⟩, hlen⟩ := I.list hs
  simp only at hc hd
  subst hc hd
  refine call_meets PySem.F.slot_list_count ⟨_, ho, rfl⟩ PySem.F.entry_list_count (PySem.F.args_list_count_2 _ _)
    (SeqAt.list_countAt p its.toArray n dd sl u (eqU k)) ⟨ho, fun y hy => mem_eqAt ru fk rv fs y (by simpa using hy), ?_⟩
  have ec : its.toArray.toList.countP (eqU k) = ns.countP fun y => eqV y k := by
    rw [← count_eqU rv fs]
  refine ⟨.int (ns.countP fun z => eqV z k : Nat), H, I.tok _, ⟨s.toks, ?_⟩, q⟩
  show Value.int ((its.toArray.toList.countP (eqU k) : Nat) : Int) s.toks = Value.int ((ns.countP fun z => eqV z k : Nat) : Int) s.toks
  rw [ec]
end OK2

/-! ## Sets of anything, filled from a list or a tuple: what stands at the set's address is a letter Z, from turn to turn -/
namespace ZS
open PySem PySem.Spec PyProof.Rows L2
section
variable {P : Program} {w : World} {A : Around} {R : Result → Shared → Prop} {I S : Addr} {fp wr : List Addr} {G : Array GenState → Array GenState → Prop} {n : Nat} {Pv : Nat → Value → Prop} {St : Nat → Shared → Prop} {Z : Nat → Heap → Prop}
/-- what one add asks and leaves -/
def Adds (P : Program) (w : World) (S : Addr) (n : Nat) (Pv : Nat → Value → Prop) (Ok : Heap → Prop) (Z : Nat → Heap → Prop) : Prop := ∀ (A : Around) (E : Value → Shared → Prop) (i : Nat) (v : Value) (s : Shared) (Q : Bool → Shared → Prop), i < n → Pv i v → Ok s.heap → Z i s.heap →
  (∀ b h' tk, Heap.SameBut S s.heap h' → s.toks ≤ tk → Z (i + 1) h' → Q b { s with heap := h', toks := tk }) → wpAny (model P w) A (setAdd S v) Q E s
theorem fill (W : WalksS P w A.in1 I fp wr G n Pv St) (hS : S ∉ fp) (hZ : ∀ i h h', (∀ o, h.get? S = some o → h'.get? S = some o) → Z i h → Z i h') {Ok : Heap → Prop} (hO : ∀ h h', (∀ b o, b ≠ S → b ∉ wr → h.get? b = some o → h'.get? b = some o) → Ok h → Ok h') (ad : Adds P w S n Pv Ok Z) :
    ∀ (k i : Nat) (s : Shared), n - i = k → i ≤ n → St i s → Ok s.heap → Z i s.heap → (∀ s', Moved (S :: wr) G s s' → Z n s'.heap → R (.ok (.ret .none)) s') → codeAny (model P w) A (.builtin "set.update.loop" ⟨[.ref S, .ref I], []⟩) R s
  | 0, i, s, hk, hi, st, ok, z, fin => by
    obtain rfl : i = n := by omega
    have hw : S ∉ wr := fun q => hS (W.sub _ q)
    refine codeAny_builtin F.entry_set_update_loop ?_; rw [Around.under_plainId F.plain_set_update_loop _]; show wpAny _ A.in1 (pyNext (.ref I) >>= _) _ _ s
    refine wpAny_bind (W.done s _ _ st fun s1 m => wpAny_pure (fin s1 ?_ (hZ _ _ _ (fun o e => m.heap S o hw e) z)))
    exact ⟨fun b o hb e => m.heap b o (fun q => hb (List.mem_cons_of_mem _ q)) e, m.gens, m.drawn, m.os, m.toks⟩
  | k + 1, i, s, hk, hi, st, ok, z, fin => by
    have hw : S ∉ wr := fun q => hS (W.sub _ q)
    have hlt : i < n := by omega
    refine codeAny_builtin F.entry_set_update_loop ?_; rw [Around.under_plainId F.plain_set_update_loop _]; show wpAny _ A.in1 (pyNext (.ref I) >>= _) _ _ s
    refine wpAny_bind (W.item i s _ _ hlt st fun v s1 hv st1 m => ?_)
    have z1 : Z i s1.heap := hZ _ _ _ (fun o e => m.heap S o hw e) z
    show wpAny _ A.in1 (holding [v] (setAdd S v) >>= _) _ _ s1
    refine wpAny_bind (wpAny_holding (ad _ _ i v s1 _ hlt hv (hO _ _ (fun b o _ hb e => m.heap b o hb e) ok) z1 fun b h' tk sb ht z2 => wpAny_pure ⟨plainId_quiet F.plain_set_update_loop _, ?_⟩))
    have keep : ∀ c o, c ≠ S → s1.heap.get? c = some o → h'.get? c = some o := fun c o hc e => by rw [sb.2 c hc]; exact e
    refine fill W hS hZ hO ad k (i + 1) _ (by omega) hlt (W.frame _ s1 _ _ st1 ht fun c hc o e => keep c o (fun q => hS (q ▸ hc)) e) (hO _ _ (fun c o hc hb e => keep c o hc (m.heap c o hb e)) ok) z2 fun s2 m2 z3 => fin s2 ?_ z3
    exact ⟨fun c o hc e => m2.heap c o hc (keep c o (fun q => hc (q ▸ List.mem_cons_self)) (m.heap c o (fun q => hc (List.mem_cons_of_mem _ q)) e)), W.gtrans _ _ _ m.gens m2.gens, m2.drawn.trans m.drawn, m2.os.trans m.os, Nat.le_trans m.toks (Nat.le_trans ht m2.toks)⟩
end
/-- the empty set that a call of set makes first -/
abbrev fresh (w : World) : Obj := { cls := .type "set", dict := none, data := .set #[] 0 (.fresh 0 0 (!w.params.followText "set-order")) }
section
variable {P : Program} {w : World} {A : Around} {E : Value → Shared → Prop} {s : Shared} {Z : Nat → Heap → Prop}
set_option maxHeartbeats 6400000 in
/-- set(x), x a list or a tuple (T) of the items at l -/
theorem call_set {T : String} {l : Addr} {items : Array Value} (hh : A.handled = none) (hl : (T = "list" ∧ s.heap.IsList l items) ∨ (T = "tuple" ∧ s.heap.IsTuple l items))
    (hZ : ∀ i h h', (∀ o, h.get? s.heap.objs.size = some o → h'.get? s.heap.objs.size = some o) → Z i h → Z i h')
    (z0 : ∀ h, h.get? s.heap.objs.size = some (fresh w) → Z 0 h) {Q : Value → Shared → Prop}
    (ad : Adds P w s.heap.objs.size items.size (fun i v => items[i]? = some v) (fun h' => ∀ b o, s.heap.get? b = some o → h'.get? b = some o) Z)
    (h : ∀ (h' : Heap) (tk : Nat), Z items.size h' → (∀ b o, s.heap.get? b = some o → h'.get? b = some o) → Q (.ref s.heap.objs.size) { s with heap := h', toks := tk }) :
    wpAny (model P w) A (call (.type "set") [.ref l]) Q E s := by
  have hlS : l < s.heap.objs.size := by
    rcases hl with ⟨_, o, ho, _⟩ | ⟨_, o, ho, _⟩ <;> exact Heap.lt_size ho
  obtain ⟨c, tl, hmro⟩ := PySem.F.called_set.mro
  have made := PySem.F.called_set.made
  have sub := PySem.F.called_set.sub
  refine wpAny_call (codeAny_of_tree (show wpAny _ _ (callAny (.type "set") _) _ _ _ from ?_))
  refine wpAny_pure ⟨Code.quiet_builtin _ (by decide +kernel), codeAny_builtin PySem.F.entry_type_call ?_⟩
  rw [Around.under_plain (weight_type_call_type "set" [.ref l] []) rfl]
  have g1 := PySem.F.called_set.notType
  have g2 := PySem.F.called_set.canCreate
  have g3 := PySem.F.typeCall_set_1 (.ref l)
  repeat (any_goals (first | assumption | wp_step))
  refine codeAny_mono (code_set_led1 (P := P) (.ref l) (E := E) (Q₁ := fun obj s₁ => obj = .ref s.heap.objs.size ∧ s₁ = { s with heap := s.heap.push (fresh w) }) ⟨rfl, rfl⟩) fun r s₁ hr => ?_
  cases r with
  | error e => exact hr
  | ok fl =>
    cases fl with
    | ret obj =>
      obtain ⟨rfl, rfl⟩ := hr
      have atS : (s.heap.push (fresh w)).get? s.heap.objs.size = some (fresh w) := Heap.get?_push_size _ rfl
      have tyS : Shared.TypeIs { s with heap := s.heap.push (fresh w) } (.ref s.heap.objs.size) "set" := ⟨_, atS, rfl⟩
      have li := PySem.F.called_set.init.lookup
      have bi := PySem.F.called_set.init.bind (.ref s.heap.objs.size)
      repeat (any_goals (first | assumption | wp_step))
      refine codeAny_mono (codeAny_call_builtin (R := wants (fun r s₂ => r = .none ∧ ∃ h' tk, s₂ = { s with heap := h', toks := tk } ∧ Z items.size h' ∧ (∀ b o, s.heap.get? b = some o → h'.get? b = some o)) E) PySem.F.called_set.init.plain PySem.F.entry_set_init (check_set_init_1 tyS ?_)) fun r₂ s₂ hr₂ => ?_
      · have hh3 : A.in1.in1.in1.handled = none := by simp [hh]
        have neI : l ≠ (s.heap.push (fresh w)).objs.size := by
          rw [Heap.size_push]
          exact Nat.ne_of_lt (Nat.lt_succ_of_lt hlS)
        have outS : s.heap.objs.size ∉ [(s.heap.push (fresh w)).objs.size, l] := by
          rw [Heap.size_push]
          simp only [List.mem_cons, List.not_mem_nil, or_false, not_or]
          exact ⟨Nat.ne_of_lt (Nat.lt_succ_self _), Nat.ne_of_gt hlS⟩
        have fin : ∀ s' : Shared, Moved (s.heap.objs.size :: [(s.heap.push (fresh w)).objs.size]) (fun a b => b = a) { s with heap := s.heap.push (fresh w) } s' → Z items.size s'.heap →
            ∃ h' tk, s' = { s with heap := h', toks := tk } ∧ Z items.size h' ∧ (∀ b o, s.heap.get? b = some o → h'.get? b = some o) := fun s' m z => by
          obtain ⟨h', g', d', tk', os'⟩ := s'
          cases (show g' = s.gens from m.gens)
          cases (show d' = s.drawn from m.drawn)
          cases (show os' = s.os from m.os)
          refine ⟨h', tk', rfl, z, fun b o e => m.heap b o ?_ (Heap.get?_push_of_some _ e)⟩
          have lt := Heap.lt_size e
          rw [Heap.size_push]
          simp only [List.mem_cons, List.not_mem_nil, or_false, not_or]
          exact ⟨Nat.ne_of_lt lt, Nat.ne_of_lt (Nat.lt_succ_of_lt lt)⟩
        have okS : ∀ h h' : Heap, (∀ b o, b ≠ s.heap.objs.size → b ∉ [(s.heap.push (fresh w)).objs.size] → h.get? b = some o → h'.get? b = some o) → (∀ b o, s.heap.get? b = some o → h.get? b = some o) → ∀ b o, s.heap.get? b = some o → h'.get? b = some o := fun h h' k q b o e => by
          have lt := Heap.lt_size e
          refine k b o (Nat.ne_of_lt lt) ?_ (q b o e)
          rw [Heap.size_push, List.mem_singleton]
          exact Nat.ne_of_lt (Nat.lt_succ_of_lt lt)
        have ne1 : (Value.type "list" == Value.type "dict") = false := by decide
        have ne2 : (Value.type "tuple" == Value.type "dict") = false := by decide
        have a1 := PySem.F.sub_list_set
        have a2 := PySem.F.sub_list_frozenset
        have a3 := F.sub_tuple_set
        have a4 := F.sub_tuple_frozenset
        rcases hl with ⟨rfl, hl⟩ | ⟨rfl, hl⟩
        · obtain ⟨⟨ocls, odict, odata, oslots⟩, ho, hcl, nl, hdl⟩ := hl
          simp only at hcl hdl
          subst hcl hdl
          have ho' : (s.heap.push (fresh w)).get? l = some { cls := .type "list", dict := odict, data := .seq items nl, slots := oslots } := Heap.get?_push_of_some _ ho
          have l1 : (s.heap.push (fresh w)).IsList l items := ⟨_, ho', rfl, nl, rfl⟩
          unfold Builtin.«set.__init__» noKeywords Builtin.Frozenset.updateFrom
          generalize hPI : pyIter = PI
          wp_walk
          subst hPI
          refine wpAny_pyIter_list l1 (wpAny_bind (wpAny_runValue (fill ((Walks.list hh3 _ l neI items).toS) outS hZ okS ad (items.size - 0) 0 _ (by omega) (Nat.zero_le _) ⟨⟨_, Heap.get?_push_size _ rfl, rfl, rfl⟩, l1.push _⟩ (fun b o e => Heap.get?_push_of_some _ (Heap.get?_push_of_some _ e)) (z0 _ (Heap.get?_push_of_some _ atS)) fun s' m z => ?_)))
          obtain ⟨h', tk, rfl, z2, kp⟩ := fin s' ⟨fun b o hb e => m.heap b o hb (Heap.get?_push_of_some _ e), m.gens, m.drawn, m.os, m.toks⟩ z
          exact wpAny_pure (wpAny_pure ⟨rfl, h', tk, rfl, z2, kp⟩)
        · obtain ⟨⟨ocls, odict, odata, oslots⟩, ho, hcl, nl, hdl⟩ := hl
          simp only at hcl hdl
          subst hcl hdl
          have ho' : (s.heap.push (fresh w)).get? l = some { cls := .type "tuple", dict := odict, data := .seq items nl, slots := oslots } := Heap.get?_push_of_some _ ho
          have l1 : (s.heap.push (fresh w)).IsTuple l items := ⟨_, ho', rfl, nl, rfl⟩
          unfold Builtin.«set.__init__» noKeywords Builtin.Frozenset.updateFrom
          generalize hPI : pyIter = PI
          wp_walk
          subst hPI
          refine wpAny_pyIter_tuple l1 (wpAny_bind (wpAny_runValue (fill ((Walks.tuple hh3 _ l neI items).toS) outS hZ okS ad (items.size - 0) 0 _ (by omega) (Nat.zero_le _) ⟨⟨_, Heap.get?_push_size _ rfl, rfl, rfl⟩, l1.push _⟩ (fun b o e => Heap.get?_push_of_some _ (Heap.get?_push_of_some _ e)) (z0 _ (Heap.get?_push_of_some _ atS)) fun s' m z => ?_)))
          obtain ⟨h', tk, rfl, z2, kp⟩ := fin s' ⟨fun b o hb e => m.heap b o hb (Heap.get?_push_of_some _ e), m.gens, m.drawn, m.os, m.toks⟩ z
          exact wpAny_pure (wpAny_pure ⟨rfl, h', tk, rfl, z2, kp⟩)
      · cases r₂ with
        | error e => exact hr₂
        | ok fl₂ =>
          cases fl₂ with
          | ret r =>
            obtain ⟨rfl, h', tk, rfl, z, kp⟩ := hr₂
            repeat (any_goals (first | assumption | wp_step))
            exact h _ _ z kp
          | _ => exact hr₂.elim
    | _ => exact hr.elim
end
end ZS
/-! ## Sets of texts -/
namespace ZS
open PySem PySem.Spec PyProof.Rows L2 PySem.Froz
/-- the texts of a list, each once, those met first first -/
def put (acc : List Str) (x : Str) : List Str := if x ∈ acc then acc else x :: acc
def nub (xs : List Str) : List Str := xs.foldl put []
theorem nub_snoc (xs : List Str) (x : Str) : nub (xs ++ [x]) = if x ∈ nub xs then nub xs else x :: nub xs := by
  unfold nub
  rw [List.foldl_append]
  rfl
theorem put_mem (acc : List Str) (x y : Str) : y ∈ put acc x ↔ y ∈ acc ∨ y = x := by
  unfold put
  split
  · rename_i h
    exact ⟨.inl, fun q => q.elim id fun e => e ▸ h⟩
  · rw [List.mem_cons]
    exact Or.comm
theorem puts_mem : ∀ (xs acc : List Str) (y : Str), y ∈ xs.foldl put acc ↔ y ∈ acc ∨ y ∈ xs
  | [], acc, y => by simp
  | x :: xs, acc, y => by
    rw [List.foldl_cons, puts_mem xs, put_mem, List.mem_cons, or_assoc]
theorem nub_mem (xs : List Str) (x : Str) : x ∈ nub xs ↔ x ∈ xs := by
  unfold nub
  rw [puts_mem]
  simp
theorem puts_nodup : ∀ (xs acc : List Str), acc.Nodup → (xs.foldl put acc).Nodup
  | [], _, h => h
  | x :: xs, acc, h => by
    refine puts_nodup xs (put acc x) ?_
    unfold put
    split
    · exact h
    · rename_i q
      exact List.nodup_cons.mpr ⟨q, h⟩
theorem nub_nodup (xs : List Str) : (nub xs).Nodup := puts_nodup xs [] List.nodup_nil
theorem puts_le : ∀ (xs acc : List Str), (xs.foldl put acc).length ≤ acc.length + xs.length
  | [], _ => Nat.le_refl _
  | x :: xs, acc => by
    refine Nat.le_trans (puts_le xs (put acc x)) ?_
    unfold put
    split
    · rw [List.length_cons]
      omega
    · rw [List.length_cons, List.length_cons]
      omega
theorem nub_le (xs : List Str) : (nub xs).length ≤ xs.length := by
  have := puts_le xs []
  rw [List.length_nil, Nat.zero_add] at this
  exact this
/-- the set of the texts l stands at a, in a table that can be walked -/
structure TxSet (P : Program) (w : World) (l : List Str) (a : Addr) (h : Heap) : Prop where
  ex : ∃ D : SD, h.get? a = some (sObj "set" D) ∧ TxOk P w D l ∧ Ris D.2.2.place.toList ∧ (w.params.followText "set-order" = true ∨ D.2.2.led = true)
section
variable {P : Program} {w : World} {A : Around} {E : Value → Shared → Prop} {s : Shared}
theorem TxSet.keep {l : List Str} {a : Addr} {h h' : Heap} (z : TxSet P w l a h) (k : ∀ o, h.get? a = some o → h'.get? a = some o) : TxSet P w l a h' := by
  obtain ⟨D, e, r⟩ := z.ex
  exact ⟨D, k _ e, r⟩
theorem TxSet.empty {a : Addr} {h : Heap} (e : h.get? a = some (fresh w)) : TxSet P w [] a h :=
  ⟨(#[], 0, _), e, TxOk.nil rfl, List.Pairwise.nil, by
    show _ ∨ (!w.params.followText "set-order") = true
    cases w.params.followText "set-order"
    · exact .inr rfl
    · exact .inl rfl⟩
theorem tail_ris {ep : Nat} {es : Array (Int × Value)} {t : SetTable} {b : Bool} (r : Ris t.place.toList) : Ris (tailTx ep es t b).2.2.place.toList ∧ (tailTx ep es t b).2.2.led = t.led := by
  unfold tailTx
  split
  · exact ⟨relayAll_ris t es _, relayAll_led t es _⟩
  · exact ⟨r, rfl⟩
theorem add_ris {v : Int} {u : Value} {D : SD} (r : Ris D.2.2.place.toList) : Ris (addTx v u D).2.2.place.toList ∧ (addTx v u D).2.2.led = D.2.2.led := by
  have r1 := layNew_ris D.2.2 D.1 v u r
  have l1 := layNew_led D.2.2 D.1 v u
  unfold addTx
  split
  · obtain ⟨a, b⟩ := tail_ris (ep := D.2.1) (es := (layNew D.2.2 D.1 v u).1) (b := (layNew D.2.2 D.1 v u).2.2.1) (t := { (layNew D.2.2 D.1 v u).2.1 with plain := false }) r1
    exact ⟨a, b.trans l1⟩
  · obtain ⟨a, b⟩ := tail_ris (ep := D.2.1) (es := (layNew D.2.2 D.1 v u).1) (b := (layNew D.2.2 D.1 v u).2.2.1) (t := (layNew D.2.2 D.1 v u).2.1) r1
    exact ⟨a, b.trans l1⟩
/-- a text that is in is found -/
theorem add_old {a : Addr} {D : SD} {l : List Str} {k : Str} {u : Tok} {Q : Bool → Shared → Prop} (ho : s.heap.get? a = some (sObj "set" D)) (F : TxOk P w D l) (hk : k ∈ l) (hb : l.length < scanBound) (h : Q false s) : wpAny (model P w) A (setAddHashed a (.str k u) (hashStr w k)) Q E s := by
  obtain ⟨es, ep, t⟩ := D
  have hd : (sObj "set" (es, ep, t)).data = .set es ep t := rfl
  have hb0 : es.size < scanBound := by
    have := F.sz
    show (es, ep, t).1.size < _
    omega
  obtain ⟨e, he, ek⟩ := (F.mem k).mp hk
  have fnd : ∃ j, List.findIdx? (fun e => (strKind P w).is k e.2) es.toList = some j := by
    cases q : List.findIdx? (fun e => (strKind P w).is k e.2) es.toList with
    | some j => exact ⟨j, rfl⟩
    | none =>
      have c := List.findIdx?_eq_none_iff.mp q e he
      rw [ek] at c
      cases c
  obtain ⟨j, fj⟩ := fnd
  unfold setAddHashed setAddHashedIn
  refine wpAny_holding (wpAny_bind (wpAny_setState_of ho hd F.fit ?_)); dsimp only; rw [byScan_of rfl hb0 F.el]; simp only [↓reduceIte]; unfold setAddByScan
  refine wpAny_bind (wpAny_bind (wpAny_rule (wpAny_bind (wpAny_setScan_of (knd := strKind P w) (k := k) (is_str k u) ho hd F.fit F.el ?_)))); rw [fj]; dsimp only; exact wpAny_pure (wpAny_pure h)
/-- the adds of a list's texts, in their order -/
theorem adds {S : Addr} {items : Array Value} {xs : List Str} (hi : StrsAre items.toList xs) (hn : xs.length + 1 < scanBound) {Ok : Heap → Prop} : Adds P w S items.size (fun i v => items[i]? = some v) Ok (fun i => TxSet P w (nub (xs.take i)) S) := by
  intro A E i v s Q hlt hv _ z hQ
  have hi2 : items.toList[i]? = some v := by rw [Array.getElem?_toList]; exact hv
  have hx : i < xs.length := by
    rw [← StrsAre.len_eq hi, Array.length_toList]
    exact hlt
  obtain ⟨t, rfl⟩ : ∃ t, v = .str xs[i] t := by
    obtain ⟨t, e⟩ := SS.strs_at hi i v hi2
    refine ⟨t, ?_⟩
    rw [e, List.getD_eq_getElem?_getD, List.getElem?_eq_getElem hx] <;> rfl
  have step : nub (xs.take (i + 1)) = if xs[i] ∈ nub (xs.take i) then nub (xs.take i) else xs[i] :: nub (xs.take i) := by
    rw [List.take_succ_eq_append_getElem hx, nub_snoc]
  have le : (nub (xs.take i)).length ≤ i := Nat.le_trans (nub_le _) (by rw [List.length_take]; exact Nat.min_le_left _ _)
  obtain ⟨D, ho, F, r, l⟩ := z.ex
  unfold setAdd
  refine wpAny_holding (wpAny_bind ((strKind P w).pyHash (k := xs[i]) (is_str _ t) ?_))
  by_cases c : xs[i] ∈ nub (xs.take i)
  · refine add_old (s := { s with toks := s.toks + 1 }) ho F c (by omega) ?_
    refine hQ _ _ _ (Heap.SameBut.refl S s.heap) (Nat.le_succ _) ?_
    show TxSet P w (nub (xs.take (i + 1))) S s.heap
    rw [step, if_pos c]
    exact z
  · refine add_x (s := { s with toks := s.toks + 1 }) ho F c (by omega) ?_
    obtain ⟨r2, l2⟩ := add_ris (v := hashStr w xs[i]) (u := .str xs[i] t) r
    refine hQ _ _ _ (Heap.SameBut.update _ _ _) (Nat.le_succ _) ?_
    show TxSet P w (nub (xs.take (i + 1))) S _
    rw [step, if_neg c]
    exact ⟨_, get_upd _ ho rfl, add_ok t F, r2, by rw [l2]; exact l⟩
end
end ZS
namespace ZS
open PySem PySem.Spec PyProof.Rows L2 PySem.Froz
theorem perm_of_in : ∀ (l ss : List Str), l.Nodup → (∀ x ∈ l, x ∈ ss) → l.length = ss.length → ss.Perm l
  | [], ss, _, _, e => by
    rw [List.length_eq_zero_iff.mp e.symm]
  | x :: l, ss, nd, sub, e => by
    obtain ⟨n1, n2⟩ := List.nodup_cons.mp nd
    have hx : x ∈ ss := sub x List.mem_cons_self
    have p := List.perm_cons_erase hx
    refine p.trans ((perm_of_in l (ss.erase x) n2 (fun y hy => (List.mem_erase_of_ne (by rintro rfl; exact n1 hy)).mpr (sub y (List.mem_cons_of_mem _ hy))) ?_).cons x)
    have := p.length_eq
    rw [List.length_cons] at this e
    omega
theorem str_of_is {P : Program} {w : World} {k : Str} {v : Value} (h : (strKind P w).is k v = true) : ∃ t, v = .str k t := by
  have h' : Value.isStrOf k v = true := h
  cases v <;> simp only [Value.isStrOf, Bool.false_eq_true, beq_iff_eq] at h'
  subst h'
  exact ⟨_, rfl⟩
section
variable {P : Program} {w : World} {A : Around} {E : Value → Shared → Prop} {s : Shared}
theorem strs_of {D : SD} {l : List Str} (F : TxOk P w D l) : ∀ (vs : List Value), (∀ v ∈ vs, ∃ e ∈ D.1.toList, e.2 = v) → ∃ ss, StrsAre vs ss
  | [], _ => ⟨[], .nil⟩
  | v :: vs, h => by
    obtain ⟨e, he, ev⟩ := h v List.mem_cons_self
    obtain ⟨⟨k, hk, _⟩, _⟩ := F.el e he
    obtain ⟨t, q⟩ := str_of_is hk
    obtain ⟨ss, r⟩ := strs_of F vs fun u hu => h u (List.mem_cons_of_mem _ hu)
    rw [ev] at q
    subst q
    exact ⟨k :: ss, .cons k t r⟩
theorem strs_mem : ∀ {vs : List Value} {ss : List Str} {k : Str} {t : Tok}, StrsAre vs ss → Value.str k t ∈ vs → k ∈ ss
  | _, _, _, _, .nil, h => by cases h
  | _, _, k, t, .cons z u r, h => by
    rcases List.mem_cons.mp h with e | e
    · cases e
      exact List.mem_cons_self
    · exact List.mem_cons_of_mem _ (strs_mem r e)
/-- sorted(S) of a set of texts -/
theorem sorted_tx {l : List Str} {a : Addr} {Q : Value → Shared → Prop} (z : TxSet P w l a s.heap) (hn : l.Nodup) (hl : l.length ≤ 1000) (hh : A.handled = none)
    (h : ∀ s' p (out : Array Value) (c : Nat) (ys : List Str), (∀ b o, s.heap.get? b = some o → s'.heap.get? b = some o) → s'.gens = s.gens → s'.os = s.os → s.heap.objs.size ≤ p → s'.heap.get? p = some (seqObj "list" out c) → StrsAre out.toList ys → ys.Perm l → sortedS ys = true → Q (.ref p) s') :
    wpAny (model P w) A (call (.builtin "sorted") [.ref a]) Q E s := by
  obtain ⟨D, ho, F, r, led⟩ := z.ex
  have hsz : D.1.size = l.length := F.sz
  have hsc : (1000 : Nat) < scanBound := by decide
  have hli : (1000 : Nat) ≤ sizeLine := by decide
  refine Calls.call_function_entry kind_sorted plain_sorted entry_sorted (args_sorted1 _) ?_; unfold Builtin.«sorted»; refine wpAny_bind (m := checkCount "sorted" 1 1 _) (wpAny_pure ?_)
  refine wpAny_bind (collect_set (A := A.in1) hh ⟨_, ho, rfl, rfl⟩ F.fit (by omega) r led fun s1 vs k1 sz1 gg oo pm => ?_)
  obtain ⟨ss, S⟩ := strs_of F vs fun v hv => List.mem_map.mp (pm.mem_iff.mp hv)
  have lv : vs.length = l.length := by rw [pm.length_eq, List.length_map, Array.length_toList]; exact hsz
  have ps : ss.Perm l := by
    refine perm_of_in l ss hn (fun x hx => ?_) (by rw [← lv]; exact StrsAre.len_eq S)
    obtain ⟨e, he, ke⟩ := (F.mem x).mp hx
    obtain ⟨t, q⟩ := str_of_is ke
    exact strs_mem (t := t) S (pm.mem_iff.mpr (List.mem_map.mpr ⟨e, he, q⟩))
  refine wpAny_bind (wpAny_newList ?_ (by omega))
  have atL : (s1.heap.push (seqObj "list" vs.toArray 0)).get? s1.heap.objs.size = some (seqObj "list" vs.toArray 0) := Heap.get?_push_size _ rfl
  refine wpAny_bind (wpAny_holding (wpAny_call_entry slot_list_sort ⟨_, atL, rfl⟩ entry_list_sort (list_sort_treeKAny strKind_oneLt atL S.keysOf (fun v₁ v₂ rest e => keyKind_strs (by rw [← e]; exact S)) (by omega) fun st' hp hs => ⟨_, rfl, ?_⟩) (args_list_sort _)))
  obtain ⟨ys, y1, y2, y3⟩ := sorted_out_str S hp hs
  obtain ⟨c, hc⟩ := sortedHeap_at (vs := vs) (out := (arrOf st').map (·.2)) atL
  refine wpAny_pure ⟨_, rfl, h _ s1.heap.objs.size _ c ys (fun b u e => ?_) gg oo sz1 hc y1 (y2.trans ps) y3⟩
  have q := k1 b u e
  have lt := Heap.lt_size q
  show (sortedHeap (s1.heap.push (seqObj "list" vs.toArray 0)) s1.heap.objs.size vs ((arrOf st').map (·.2))).get? b = some u
  rw [sortedHeap_old (Nat.ne_of_lt lt) (by rw [size_push']; exact Nat.lt_succ_of_lt lt)]
  exact Heap.get?_push_of_some _ q
/-- set(x) of a list or tuple of texts -/
theorem set_tx {l : Addr} {items : Array Value} {xs : List Str} {Q : Value → Shared → Prop} (hh : A.handled = none) (hl : s.heap.IsList l items ∨ s.heap.IsTuple l items) (hi : StrsAre items.toList xs) (hn : xs.length ≤ 1000)
    (h : ∀ (h' : Heap) (tk : Nat), TxSet P w (nub xs) s.heap.objs.size h' → (∀ b o, s.heap.get? b = some o → h'.get? b = some o) → Q (.ref s.heap.objs.size) { s with heap := h', toks := tk }) : wpAny (model P w) A (call (.type "set") [.ref l]) Q E s := by
  have hsc : (1000 : Nat) + 1 < scanBound := by decide
  have sz : items.size = xs.length := by rw [← StrsAre.len_eq hi, Array.length_toList]
  have hZ : ∀ i h h', (∀ o, h.get? s.heap.objs.size = some o → h'.get? s.heap.objs.size = some o) → TxSet P w (nub (xs.take i)) s.heap.objs.size h → TxSet P w (nub (xs.take i)) s.heap.objs.size h' := fun i h h' k z => z.keep k
  have fin : ∀ h' tk, TxSet P w (nub (xs.take items.size)) s.heap.objs.size h' → (∀ b o, s.heap.get? b = some o → h'.get? b = some o) → Q (.ref s.heap.objs.size) { s with heap := h', toks := tk } := fun h' tk z k => h h' tk (by rw [sz, List.take_length] at z; exact z) k
  rcases hl with hl | hl
  · exact call_set (Z := fun i => TxSet P w (nub (xs.take i)) s.heap.objs.size) (T := "list") hh (.inl ⟨rfl, hl⟩) hZ (fun h e => TxSet.empty e) (adds hi (by omega)) fin
  · exact call_set (Z := fun i => TxSet P w (nub (xs.take i)) s.heap.objs.size) (T := "tuple") hh (.inr ⟨rfl, hl⟩) hZ (fun h e => TxSet.empty e) (adds hi (by omega)) fin
end
section
variable {X : Cx}
/-- len(set(xs)) -/
def tLenTx (K : PySem.W.Frag) (ta : TE) : TE := fun σ H Q => ta σ H fun x H1 => ∃ l, ∃ xs : List Str, x = .ref l ∧ (SqL K H1 l (xs.map V.str) ∨ SqT K H1 l (xs.map V.str)) ∧ xs.length ≤ 1000 ∧ Q (.int (nub xs).length) H1
theorem pe_lenTx {a : Expr} {ta : TE} {p p2 q pos : Pos} (hc : X.calm = true) (hm : X.mg "len" = none) (hm2 : X.mg "set" = none) (ha : PE X a ta) (hg : Gl X "len" := by rfl) (hg2 : Gl X "set" := by rfl)
    (na : starEach [a] X.env = (false, eval a X.env) :: starEach [] X.env := by rfl) : PE X (.Call (.Name "len" p) [.Call (.Name "set" p2) [a] [] q] [] pos) (tLenTx X.K ta) := by
  refine ⟨fun pins s σ H Q I h => Call_ (ld_blt I hg hm boot_len (PyProof.Rows.callWith_builtin1 (PyProof.Rows.args_cons (Call_ (ld_blt I hg2 hm2 boot_set ?_)) rfl) rfl rfl))⟩
  refine PyProof.Rows.callWith_type1 (PyProof.Rows.args_cons (thn (ha.run pins s σ H _ I h) fun v s1 ⟨x, H1, I1, r1, q1⟩ => PyProof.Rows.args_nil ?_) na) na rfl
  obtain ⟨l, xs, rfl, hq, h1, q1⟩ := q1
  cases r1
  have fin : ∀ (h' : Heap) (tk : Nat), TxSet X.prog X.w (nub xs) s1.heap.objs.size h' → (∀ b o, s1.heap.get? b = some o → h'.get? b = some o) →
      wpAny (model X.prog X.w) X.A (spliced (backTo pos (starEach [] X.env))) (fun vs s₂ => wpAny (model X.prog X.w) X.A (call (.builtin "len") (Value.ref s1.heap.objs.size :: vs)) (EP X pins σ Q) X.xe s₂) X.xe { s1 with heap := h', toks := tk } := fun h' tk z k => by
    obtain ⟨D, ho, F, _, _⟩ := z.ex
    have sz : D.1.size = (nub xs).length := F.sz
    have le := nub_le xs
    refine PyProof.Rows.args_nil (call_len_set ho ⟨rfl, rfl, rfl⟩ rfl F.fit (by omega) ⟨.int (nub xs).length, H1, (I1.kept k).tok _, ⟨_, by rw [← sz]⟩, q1⟩)
  rcases hq with hq | hq
  · obtain ⟨its, r, pl, hz⟩ := I1.list hq
    exact set_tx (I1.ok.hd hc) (.inl pl.isList) (by simpa using strsAre_of r) h1 fin
  · obtain ⟨its, r, pl, hz⟩ := I1.tuple hq
    exact set_tx (I1.ok.hd hc) (.inr pl) (by simpa using strsAre_of r) h1 fin
theorem sorted_in {pins : List (Addr × Obj)} {σ : L2.St} {H : Hp} {s : Shared} {Q : VK} {l : List Str} {a : Addr} (J : Inv X pins σ H s) (hc : X.calm = true) (z : TxSet X.prog X.w l a s.heap) (hn : l.Nodup) (hl : l.length ≤ 1000)
    (q : ∀ (ys : List Str) (p : Addr), ys.Perm l → sortedS ys = true → H p = none → Q (.ref p) (upd H p (.lst (ys.map V.str)))) : wpAny (model X.prog X.w) X.A (call (.builtin "sorted") [.ref a]) (EP X pins σ Q) X.xe s := by
  refine sorted_tx z hn hl (J.ok.hd hc) fun s2 p out c ys k2 gg oo hp hob hS hperm hsort => ?_
  have hli : (1000 : Nat) ≤ sizeLine := by decide
  have hlen : (ys.map V.str).length ≤ sizeLine := by rw [List.length_map, hperm.length_eq]; omega
  have fr : H p = none := J.hok.fresh hp
  have J2 : Inv X pins σ (upd H p (.lst (ys.map V.str))) { s with heap := s2.heap, gens := s2.gens, drawn := s2.drawn, toks := s2.toks } :=
    J.call (ch := []) (Un.laid k2 hp fr) (J.hok.laid k2 hp ⟨hlen, out.toList, c, vals_of_strs hS, hob⟩) (by rw [gg]; exact J.bare) (fun _ z => nomatch z)
  have e : s2 = { s with heap := s2.heap, gens := s2.gens, drawn := s2.drawn, toks := s2.toks } := by
    cases s2; cases s; cases oo; rfl
  rw [e]
  exact ⟨.ref p, _, J2, rfl, q ys p hperm hsort fr⟩
/-- sorted(set(xs)) -/
def tSortTx (K : PySem.W.Frag) (ta : TE) : TE := fun σ H Q => ta σ H fun x H1 => ∃ l, ∃ xs : List Str, x = .ref l ∧ (SqL K H1 l (xs.map V.str) ∨ SqT K H1 l (xs.map V.str)) ∧ xs.length ≤ 1000 ∧
  ∀ (ys : List Str) (p : Addr), ys.Perm (nub xs) → sortedS ys = true → H1 p = none → Q (.ref p) (upd H1 p (.lst (ys.map V.str)))
theorem pe_sortTx {a : Expr} {ta : TE} {p p2 q pos : Pos} (hc : X.calm = true) (hm : X.mg "sorted" = none) (hm2 : X.mg "set" = none) (ha : PE X a ta) (hg : Gl X "sorted" := by rfl) (hg2 : Gl X "set" := by rfl)
    (na : starEach [a] X.env = (false, eval a X.env) :: starEach [] X.env := by rfl) : PE X (.Call (.Name "sorted" p) [.Call (.Name "set" p2) [a] [] q] [] pos) (tSortTx X.K ta) := by
  refine ⟨fun pins s σ H Q I h => Call_ (ld_blt I hg hm (show bootBuiltins "sorted" = some (.builtin "sorted") by decide +kernel) (PyProof.Rows.callWith_builtin1 (PyProof.Rows.args_cons (Call_ (ld_blt I hg2 hm2 boot_set ?_)) rfl) rfl rfl))⟩
  refine PyProof.Rows.callWith_type1 (PyProof.Rows.args_cons (thn (ha.run pins s σ H _ I h) fun v s1 ⟨x, H1, I1, r1, q1⟩ => PyProof.Rows.args_nil ?_) na) na rfl
  obtain ⟨l, xs, rfl, hq, h1, q1⟩ := q1
  cases r1
  have fin : ∀ (h' : Heap) (tk : Nat), TxSet X.prog X.w (nub xs) s1.heap.objs.size h' → (∀ b o, s1.heap.get? b = some o → h'.get? b = some o) →
      wpAny (model X.prog X.w) X.A (spliced (backTo pos (starEach [] X.env))) (fun vs s₂ => wpAny (model X.prog X.w) X.A (call (.builtin "sorted") (Value.ref s1.heap.objs.size :: vs)) (EP X pins σ Q) X.xe s₂) X.xe { s1 with heap := h', toks := tk } := fun h' tk z k => by
    have le := nub_le xs
    exact PyProof.Rows.args_nil (sorted_in (I1.kept k) hc z (nub_nodup xs) (by omega) q1)
  rcases hq with hq | hq
  · obtain ⟨its, r, pl, hz⟩ := I1.list hq
    exact set_tx (I1.ok.hd hc) (.inl pl.isList) (by simpa using strsAre_of r) h1 fin
  · obtain ⟨its, r, pl, hz⟩ := I1.tuple hq
    exact set_tx (I1.ok.hd hc) (.inr pl) (by simpa using strsAre_of r) h1 fin
end
end ZS
namespace K2
open PySem PySem.Spec PyProof.Rows L2 OK2
def top (i : Nat) : Stmt := PySem.Challenge.pw_wheelgrown_k02_whole_namings.main.body.getD i (.Pass ⟨0, 0, 0, 0⟩)
abbrev s_is_name : Stmt := top 5
abbrev s_are_names : Stmt := top 6
abbrev s_are_different_names : Stmt := top 7
abbrev s_is_naming : Stmt := top 8
abbrev s_law_dice : Stmt := top 10
abbrev s_law_roll : Stmt := top 11
abbrev s_law_pick : Stmt := top 12
abbrev s_law_mixed : Stmt := top 13
abbrev s_law_is_word : Stmt := top 14
abbrev s_law_due : Stmt := top 15
abbrev s_law_is_refused : Stmt := top 16
abbrev s_law_bent : Stmt := top 17
abbrev s_law : Stmt := top 18
/-- a class made with a text -/
structure Pl (K : PySem.W.Frag) (mg : Str → Option Value) (n : Str) (C : Addr) : Prop where
  g : mg n = some (.ref C)
  k : PySem.W.keepIn K (.ref C) = true
  q : PySem.W.excIn K C [.type "ValueError", .type "Exception", .type "BaseException", .type "object"] "ValueError.__new__" = true
  s : PySem.W.subIn K (.ref C) (.type "BaseException") = some true
  t : PySem.W.typeIn K (.ref C) = some (.type "type")
  x : PySem.W.exmOne K (.ref C) (.ref C) = some true
/-- what the top leaves beside the defs -/
structure Txt (K : PySem.W.Frag) (mg : Str → Option Value) : Prop where
  n_isinstance : mg "isinstance" = none
  n_str : mg "str" = none
  n_len : mg "len" = none
  n_all : mg "all" = none
  n_tuple : mg "tuple" = none
  n_set : mg "set" = none
  n_dict : mg "dict" = none
  n_int : mg "int" = none
  n_abs : mg "abs" = none
  n_max : mg "max" = none
  n_min : mg "min" = none
  n_range : mg "range" = none
  n_list : mg "list" = none
  n_sorted : mg "sorted" = none
  c_MAX_LETTERS : ∃ t, mg "MAX_LETTERS" = some (.int 8 t)
  p_IP : ∃ C, Pl K mg "InvalidPlace" C
local macro_rules | `(tactic| walk_at "r1") => `(tactic| first | refine ⟨_, rfl, ?_⟩ | refine ⟨_, _, rfl, rfl, ?_⟩ | refine ⟨_, _, rfl, ?_⟩ | refine .inl ⟨_, rfl, ?_⟩ | refine .inr ⟨_, rfl, ?_⟩ | refine ⟨⟨_, rfl⟩, ?_⟩)
local macro_rules | `(tactic| walk_at "rr") => `(tactic| repeat walk_at "r1")
/-! ## Rules and contracts that serve every law with drawn numbers -/
theorem ifT {c : Bool} {A B : Prop} (hc : c = true) (h : A) : if c = true then A else B := by
  rw [if_pos hc]
  exact h
theorem ifF {c : Bool} {A B : Prop} (hc : c = false) (h : B) : if c = true then A else B := by
  rw [hc, if_neg Bool.false_ne_true]
  exact h
/-- a def of the top, as its callers see it -/
def Dfn (P : Program) (w : World) (K : PySem.W.Frag) (mg : Str → Option Value) (base : Heap) (x : Str) (k : Nat) (ps : List Str) (sp : Sp) : Prop :=
  ∃ (f : Addr) (fd : FuncData), mg x = some (.ref f) ∧ PySem.W.keepIn K (.ref f) = true ∧ Binds K fd ps [] ∧ FnOk P w K mg base CX0 k f fd ps sp
theorem Dfn.mk {P : Program} {w : World} {K : PySem.W.Frag} {mg : Str → Option Value} {base : Heap} {x : Str} {k : Nat} {ps : List Str} {sp : Sp} {f : Addr} {fd : FuncData} (m : mg x = some (.ref f)) (kp : PySem.W.keepIn K (.ref f) = true) (b : Binds K fd ps [])
    (h : FnOk P w K mg base CX0 k f fd ps sp) : Dfn P w K mg base x k ps sp := ⟨f, fd, m, kp, b, h⟩
/-- a call of a def of the top -/
theorem pe_d {X : Cx} {x : Str} {k : Nat} {ps : List Str} {sp : Sp} {e : Expr} {es : List Expr} {t : TA} {p pos : Pos} (D : Dfn X.prog X.w X.K X.mg X.base x k ps sp) (hr : Room k X.A) (ha : PA X (e :: es) t) (hg : Gl X x := by rfl)
    (hdb : (x == ("__debug__" : Str)) = false := by decide) (he : starEach (e :: es) X.env = (false, eval e X.env) :: starEach es X.env := by rfl) (hpl : (backTo pos (starEach es X.env)).any (·.1) = false := by rfl) :
    PE X (.Call (.Name x p) (e :: es) [] pos) (tCall sp [] E0 t) := by
  obtain ⟨f, fd, m, kp, b, h⟩ := D
  exact pe_call h hr hg m kp b .nil pass0 ha hdb he hpl
/-- a text times a written number -/
def repS (z : Str) (n : Nat) : Str := ⟨(List.replicate n z.cps).foldl (· ++ ·) #[]⟩
theorem repS_fold (z : Array Nat) : ∀ (n : Nat) (acc : Array Nat), ((List.replicate n z).foldl (· ++ ·) acc).toList = acc.toList ++ (List.replicate n z.toList).flatten
  | 0, acc => by simp
  | n + 1, acc => by
    rw [List.replicate_succ, List.foldl_cons, repS_fold z n, List.replicate_succ, List.flatten_cons, Array.toList_append, List.append_assoc]
theorem repS_list (z : Str) (n : Nat) : (repS z n).cps.toList = (List.replicate n z.cps.toList).flatten := by
  have := repS_fold z.cps n #[]
  show ((List.replicate n z.cps).foldl (· ++ ·) #[]).toList = _
  simpa using this
theorem repS_len (z : Str) (n : Nat) : (repS z n).length = n * z.length := by
  show (repS z n).cps.size = n * z.cps.size
  rw [← Array.length_toList, repS_list]
  simp
theorem op_mulS {X : Cx} : OpR X (binaryOp .Mult) (fun x y H Q => ∃ (z : Str) (n : Nat), x = .str z ∧ y = .int (n : Int) ∧ 2 ≤ n ∧ n < 1000 ∧ 0 < z.length ∧ z.length ≤ 1000 ∧ Q (.str (repS z n)) H) := by
  intro pins s σ H x y v u Q I rx ry h
  obtain ⟨z, n, rfl, rfl, h1, h2, h3, h4, q⟩ := h
  obtain ⟨t, rfl⟩ := rx
  obtain ⟨t', rfl⟩ := ry
  have hn : ¬ (n : Int) < 1 := by omega
  have h5 : ((n : Int) == 1 || z.length == 0) = false := by
    rw [Bool.or_eq_false_iff]
    exact ⟨beq_eq_false_iff_ne.mpr (by omega), beq_eq_false_iff_ne.mpr (by omega)⟩
  refine PySem.P.mul_str ?_ (fun _ _ => ?_) (fun _ _ => ?_) ?_
  · rw [decide_eq_false (show ¬ (n : Int) < -(2 ^ 63 : Int) by omega), decide_eq_false (show ¬ (n : Int) ≥ 2 ^ 63 by omega)]
    rfl
  · have : (1000 : Int) ≤ (2 ^ 63 - 1) / (n : Int) := by
      rw [Int.le_ediv_iff_mul_le (by omega)]
      omega
    omega
  · have h6 : z.length * n ≤ 1000 * 1000 := Nat.mul_le_mul h4 (by omega)
    show PySem.Builtin.Str.tooLong (z.length * (n : Int).toNat) = false
    rw [Int.toNat_natCast]
    unfold PySem.Builtin.Str.tooLong
    refine decide_eq_false ?_
    have : (1000 * 1000 : Nat) ≤ sizeLine := by decide
    omega
  · rw [if_neg hn, if_neg (by rw [h5]; exact Bool.false_ne_true), Int.toNat_natCast]
    refine ⟨?_, ⟨.str _, H, I.tok _, ⟨_, rfl⟩, q⟩⟩
    have h6 : z.length * n ≤ 1000 * 1000 := Nat.mul_le_mul h4 (by omega)
    have h7 : (repS z n).length = n * z.length := repS_len z n
    have : (1000 * 1000 : Nat) ≤ sizeLine := by decide
    show (repS z n).length ≤ sizeLine
    rw [h7, Nat.mul_comm]
    omega

theorem same_new' {H : Hp} {p : Addr} {o : HO} (h : H p = none) : Same H (upd H p o) := fun b u e => by
  rw [upd_ne (ne_of_none e h)]
  exact e
/-- t + u, t empty: u itself -/
theorem op_catT0 {X : Cx} : OpR X (binaryOp .Add) (fun x y H Q => ∃ a b ys, x = .ref a ∧ y = .ref b ∧ SqT X.K H a [] ∧ SqT X.K H b ys ∧ Q (.ref b) H) := by
  intro pins s σ H x y v u Q I rx ry h
  obtain ⟨a, b, ys, rfl, rfl, ha, hb, q⟩ := h
  cases rx
  cases ry
  obtain ⟨its, r1, p1, _⟩ := I.tuple ha
  obtain ⟨its2, r2, p2, _⟩ := I.tuple hb
  cases r1
  obtain ⟨⟨cls, dd, data, sl⟩, ho, hc, n, hd⟩ := id p1
  obtain ⟨⟨cls2, dd2, data2, sl2⟩, ho2, hc2, n2, hd2⟩ := id p2
  simp only at hc hd hc2 hd2
  subst hc hd hc2 hd2
  exact concat_meets ⟨_, ho, rfl⟩ ⟨_, ho2, rfl⟩ noFill_tuple_add seq_tuple_add PySem.F.slot_tuple_add PySem.F.entry_tuple_add (PySem.F.args_tuple_add_2 _ _)
      (tuple_addW0 a b _ its2.toArray n n2 dd dd2 sl sl2 (by simp)) ⟨ho, ho2, ⟨.ref b, H, I, rfl, q⟩⟩
/-- t + u of tuples, u not empty: a tuple of both -/
theorem op_catTT {X : Cx} : OpR X (binaryOp .Add) (fun x y H Q => ∃ a b xs ys, x = .ref a ∧ y = .ref b ∧ H a = some (.tup xs) ∧ H b = some (.tup ys) ∧ ys ≠ [] ∧ xs.length + ys.length ≤ sizeLine ∧
    ∀ q H', Same H H' → H' q = some (.tup (xs ++ ys)) → Q (.ref q) H') := by
  intro pins s σ H x y v u Q I rx ry h
  obtain ⟨a, b, xs, ys, rfl, rfl, ha, hb, hy, hz, q⟩ := h
  by_cases hx : xs = []
  · subst hx
    exact op_catT0 pins s σ H _ _ v u Q I rx ry ⟨a, b, ys, rfl, rfl, SqT.of ha, SqT.of hb, q b H (Same.refl _) hb⟩
  · exact op_catT pins s σ H _ _ v u Q I rx ry ⟨a, b, xs, ys, rfl, rfl, SqT.of ha, SqT.of hb, hx, hz, fun e => absurd e hy, fun _ p hp => q p _ (same_new' hp) upd_same⟩
/-- a comprehension over a text -/
theorem lc_str {x : Str} {g : TG} {tt : TT} {te : TE} {vs : List Nat} {σ : L2.St} {H1 : Hp} {D : Addr} {Qd : Hp → Prop} (Pv : Nat → Hp → Prop) (h0 : Pv 0 (upd H1 D (.lst [])))
    (hs : ∀ i c H, x.cps.toList[i]? = some c → Pv i H → g (.str ⟨#[c]⟩) (wipe σ vs) H fun σ2 H2 => wipe σ2 vs = wipe σ vs ∧ tt σ2 H2 fun b H3 =>
      if b = true then te σ2 H3 fun y H4 => ∃ acc, H4 D = some (.lst acc) ∧ acc.length < sizeLine ∧ Pv (i + 1) (upd H4 D (.lst (acc ++ [y]))) else Pv (i + 1) H3) (hd : ∀ H, Pv x.cps.toList.length H → Qd H) :
    ∃ W : Nat → Nat → Hp → Prop, (∃ m, W 0 m (upd H1 D (.lst []))) ∧ ∀ i m H, W i m H →
      ((Its x).stop i H ∧ Qd H) ∨ ((Its x).go i H ∧ ∃ Nx : Hp → Prop, (∀ H', Nx H' → ∃ m', m' < m ∧ W (i + 1) m' H') ∧ ∀ y H', (Its x).yld i H y H' → g y (wipe σ vs) H' fun σ2 H2 => wipe σ2 vs = wipe σ vs ∧ tt σ2 H2 fun b H3 =>
        if b = true then te σ2 H3 fun y H4 => ∃ acc, H4 D = some (.lst acc) ∧ acc.length < sizeLine ∧ Nx (upd H4 D (.lst (acc ++ [y]))) else Nx H3) := by
  have el : x.cps.toList.length = x.cps.size := Array.length_toList
  refine ⟨fun i m H => m = x.cps.size - i ∧ i ≤ x.cps.size ∧ Pv i H, ⟨x.cps.size, by simp, Nat.zero_le _, h0⟩, ?_⟩
  rintro i m H ⟨rfl, hi, p⟩
  by_cases hlt : i < x.cps.size
  · refine .inr ⟨hlt, Pv (i + 1), fun H' p' => ⟨x.cps.size - (i + 1), by omega, rfl, hlt, p'⟩, fun v H' y => ?_⟩
    obtain ⟨e, c, hc, rfl⟩ := y
    subst e
    exact hs i c _ (by rw [← hc]; simp) p
  · have e : i = x.cps.size := by omega
    subst e
    exact .inl ⟨Nat.le_refl _, hd H (by rw [el]; exact p)⟩
/-! ### the dice -/
def Dice (H : Hp) (d : Addr) : Prop := ∃ a b c : Int, H d = some (.lst [.int a, .int b, .int c])
/-- from H to H': the dice at d may have been rolled; all else that was tracked stands -/
structure Go (d : Addr) (H H' : Hp) : Prop where
  keep : ∀ b o, b ≠ d → H b = some o → H' b = some o
  dice : Dice H' d
theorem Go.refl {d : Addr} {H : Hp} (h : Dice H d) : Go d H H := ⟨fun _ _ _ h => h, h⟩
theorem Go.trans {d : Addr} {H H1 H2 : Hp} (a : Go d H H1) (b : Go d H1 H2) : Go d H H2 := ⟨fun c o n h => b.keep c o n (a.keep c o n h), b.dice⟩
theorem Go.same {d : Addr} {H H1 H2 : Hp} (a : Go d H H1) (b : Same H1 H2) : Go d H H2 := ⟨fun c o n h => b c o (a.keep c o n h), by
  obtain ⟨x, y, z, e⟩ := a.dice
  exact ⟨x, y, z, b _ _ e⟩⟩
theorem same_new {H : Hp} {p : Addr} {o : HO} (h : H p = none) : Same H (upd H p o) := fun b u e => by
  rw [upd_ne (ne_of_none e h)]
  exact e
theorem Go.new {d p : Addr} {H H1 : Hp} {o : HO} (a : Go d H H1) (h : H1 p = none) : Go d H (upd H1 p o) := a.same (same_new h)
theorem Go.roll {d : Addr} {H H1 : Hp} (a : Go d H H1) (x y z : Int) : Go d H (upd H1 d (.lst [.int x, .int y, .int z])) :=
  ⟨fun b o n h => by rw [upd_ne n]; exact a.keep b o n h, x, y, z, upd_same⟩
theorem Go.at_ne {d p : Addr} {H H1 : Hp} (a : Go d H H1) (h : H1 p = none) : p ≠ d := fun e => by
  obtain ⟨x, y, z, e'⟩ := a.dice
  rw [← e, h] at e'
  cases e'
theorem Go.free {d p : Addr} {H H1 : Hp} (a : Go d H H1) (h : H1 p = none) : H p = none := by
  cases e : H p with
  | none => rfl
  | some o => rw [a.keep p o (a.at_ne h) e] at h; cases h
theorem d0 (a b c : V) : atI [a, b, c] 0 = some a := rfl
theorem d1 (a b c : V) : atI [a, b, c] 1 = some b := rfl
theorem d2 (a b c : V) : atI [a, b, c] 2 = some c := rfl
structure spDice (K : PySem.W.Frag) (vs : List V) (H : Hp) (Q : VK) (E : XK) : Prop where
  h : ∃ (s : Addr) (ns : List Int) (i : Nat), SqL K H s (ns.map V.int) ∧ vs = [.ref s, .int i] ∧ ∀ (p : Addr) (a b c : Int), H p = none → Q (.ref p) (upd H p (.lst [.int a, .int b, .int c]))
structure spRoll (vs : List V) (H : Hp) (Q : VK) (E : XK) : Prop where
  h : ∃ (d : Addr) (n : Int), Dice H d ∧ vs = [.ref d, .int n] ∧ CDivW 0 n ∧ ∀ (k : Int) (a b c : Int), 0 ≤ k → k < n → Q (.int k) (upd H d (.lst [.int a, .int b, .int c]))
structure spPick (vs : List V) (H : Hp) (Q : VK) (E : XK) : Prop where
  h : ∃ (d : Addr) (x : V), Dice H d ∧ vs = [.ref d, x] ∧
  ((∃ (l : Addr) (xs : List V), x = .ref l ∧ H l = some (.lst xs) ∧ xs ≠ [] ∧ xs.length ≤ 1000 ∧ l ≠ d ∧ ∀ (y : V) (a b c : Int), y ∈ xs → Q y (upd H d (.lst [.int a, .int b, .int c]))) ∨
   (∃ z : Str, x = .str z ∧ 0 < z.length ∧ z.length ≤ 1000 ∧ ∀ (y : Nat) (a b c : Int), Q (.str ⟨#[y]⟩) (upd H d (.lst [.int a, .int b, .int c]))))
theorem cdiv_small {n : Int} (h0 : 0 < n) (h : n < 2 ^ 64) : CDivW 0 n := wide_div (b := 64) h0 (by omega) (by decide) (by decide)
theorem fm_lo (m : Int) {k : Int} (hk : 0 < k) : 0 ≤ m.fmod k := by
  rw [Int.fmod_eq_emod_of_nonneg _ (by omega)]
  exact Int.emod_nonneg _ (by omega)
theorem fm_hi (m : Int) {k : Int} (hk : 0 < k) : m.fmod k < k := by
  rw [Int.fmod_eq_emod_of_nonneg _ (by omega)]
  exact Int.emod_lt_of_pos _ hk
theorem fm_mul (m : Int) {k : Int} (j : Int) (hk : 0 < k) (h : k ≤ 2 ^ 64) : CMul (m.fmod k) j := .inl ⟨by have := fm_lo m hk; omega, by have := fm_hi m hk; omega⟩
theorem ten120 : (10 : Int) ^ Int.toNat 60 * 10 ^ Int.toNat 60 ≠ 0 := by decide +kernel
theorem size3 : (3 : Nat) ≤ sizeLine := by decide
theorem q_bl {Q : VK} {H : Hp} {a b : Bool} (e : a = b) (k : Q (.bl b) H) : Q (.bl a) H := by
  rw [e]
  exact k
theorem take_more {α : Type} : ∀ {l : List α} {i : Nat} {x : α}, l[i]? = some x → l.take (i + 1) = l.take i ++ [x]
  | [], i, x, h => by simp at h
  | a :: l, 0, x, h => by
    have e : a = x := Option.some.inj h
    subst e
    rfl
  | a :: l, i + 1, x, h => by
    have ih := take_more (l := l) (i := i) (x := x) h
    show a :: l.take (i + 1) = a :: l.take i ++ [x]
    rw [ih]
    rfl
theorem same_own {H H' : Hp} {D : Addr} {o : HO} (h : Same H H') (hD : H D = none) : Same H (upd H' D o) := fun b u e => by
  rw [upd_ne (ne_of_none e hD)]
  exact h b u e
theorem line1000 : (1000 : Nat) < sizeLine := by decide
theorem roll_go {d : Addr} {H : Hp} {n : Int} {Q : VK} {E : XK} (hd : Dice H d) (h0 : 0 < n) (h1 : n < 2 ^ 64) (k : ∀ (j : Int) (H' : Hp), 0 ≤ j → j < n → Go d H H' → Q (.int j) H') : spRoll [.ref d, .int n] H Q E :=
  ⟨d, n, hd, rfl, cdiv_small h0 h1, fun j a b c g0 g1 => k j _ g0 g1 ((Go.refl hd).roll a b c)⟩
theorem pick_at {d l : Addr} {H : Hp} {xs : List V} {Q : VK} {E : XK} (hd : Dice H d) (hl : H l = some (.lst xs)) (hld : l ≠ d) (hne : xs ≠ []) (hn : xs.length ≤ 1000) (k : ∀ (y : V) (H' : Hp), y ∈ xs → Go d H H' → Q y H') : spPick [.ref d, .ref l] H Q E :=
  ⟨d, _, hd, rfl, .inl ⟨l, xs, rfl, hl, hne, hn, hld, fun y a b c hy => k y _ hy ((Go.refl hd).roll a b c)⟩⟩
theorem pick_new {d p : Addr} {H : Hp} {xs : List V} {Q : VK} {E : XK} (hd : Dice H d) (hp : H p = none) (hne : xs ≠ []) (hn : xs.length ≤ 1000) (k : ∀ (y : V) (H' : Hp), y ∈ xs → Go d H H' → Q y H') : spPick [.ref d, .ref p] (upd H p (.lst xs)) Q E :=
  pick_at ((Go.refl hd).new hp).dice upd_same ((Go.refl hd).at_ne hp) hne hn fun y H' hy g => k y H' hy (((Go.refl hd).new hp).trans g)
theorem pick_str {d : Addr} {H : Hp} {z : Str} {Q : VK} {E : XK} (hd : Dice H d) (h0 : 0 < z.length) (hn : z.length ≤ 1000) (k : ∀ (y : Nat) (H' : Hp), Go d H H' → Q (.str ⟨#[y]⟩) H') : spPick [.ref d, .str z] H Q E :=
  ⟨d, _, hd, rfl, .inr ⟨z, rfl, h0, hn, fun y a b c => k y _ ((Go.refl hd).roll a b c)⟩⟩
/-- a store to an object that is newer than H -/
theorem Go.own {d D : Addr} {H H' : Hp} {o : HO} (a : Go d H H') (hD : H D = none) (hDd : D ≠ d) : Go d H (upd H' D o) :=
  ⟨fun b u hb e => by
    rw [upd_ne (ne_of_none e hD)]
    exact a.keep b u hb e, by
    obtain ⟨x, y, z, e⟩ := a.dice
    exact ⟨x, y, z, by rw [upd_ne hDd.symm]; exact e⟩⟩
/-- both ways lead on to the same -/
theorem ite_on {c : Bool} {A B N : Prop} (h1 : c = true → N → A) (h2 : c = false → N → B) (hN : N) : if c = true then A else B := by
  cases hc : c with
  | true => exact iteT (h1 hc hN)
  | false => exact iteF (h2 hc hN)
section
variable {P : Program} {w : World} {K : PySem.W.Frag} {mg : Str → Option Value} {base : Heap}
theorem sc_dice : FnScope ["script", "spot", "cell", "left"] ["script", "spot"] (defScope s_law_dice) := ⟨rfl, rfl, rfl, by decide +kernel, rfl, by decide +kernel, by decide +kernel⟩
theorem ok_law_dice {f : Addr} {fd : FuncData} (F : Fun K "_law_dice" "_law_dice" s_law_dice f fd) (T : Txt K mg) : FnOk P w K mg base CX0 1 f fd ["script", "spot"] (spDice K) := by
  refine F.ok sc_dice (fun vs H Q E h => ?_) (fun cdv A outer s H vs Q E hr h => ?_)
  · obtain ⟨a, ns, i, _, rfl, _⟩ := h
    rfl
  · obtain ⟨a, ns, i, hS, rfl, k⟩ := h
    refine ⟨_, pss_cons (ps_set (i := 2) sc_dice.nd rfl (Or.inl rfl) (pe_ifExp (pt_cmpR op_lt (pv 1) (pe_callB call_len (by rfl) T.n_len (by decide +kernel) (pa_cons (pv 0) pa_nil)) (nomark _))
          (pe_callTy call_int1 (by rfl) T.n_int (by decide +kernel) (pa_cons (pe_ix ix_list (pv 0) (pv 1) (fun _ _ => rfl)) pa_nil))
          (pe_op op_add (pe_op op_mul pe_int (pv 1)) pe_int)))
      (pss_cons (ps_set (i := 3) sc_dice.nd rfl (Or.inl rfl) (pe_op op_modN
          (pe_callB (call_max2 rfl) (by rfl) T.n_max (by decide +kernel) (pa_cons pe_int (pa_cons (pe_op op_sub (pe_callB call_abs (by rfl) T.n_abs (by decide +kernel) (pa_cons (pv 2) pa_nil)) (pe_op op_pow pe_int pe_int)) pa_nil)))
          (pe_op op_mulW (pe_op op_pow pe_int pe_int) (pe_op op_pow pe_int pe_int))))
      (pss_one (ps_ret (pe_lst (pa_cons (pv 3) (pa_cons
          (pe_op op_add (pe_op op_add (pe_op op_add (pe_op op_mul (pe_op op_modN (pe_callB call_abs (by rfl) T.n_abs (by decide +kernel) (pa_cons (pv 2) pa_nil)) pe_int) pe_int) (pe_op op_mul pe_int (pv 1)))
            (pe_op op_mul pe_int (pe_callTy call_int1 (by rfl) T.n_int (by decide +kernel) (pa_cons (pe_cmpR op_lt (pv 2) pe_int (nomark _)) pa_nil)))) pe_int) (pa_cons pe_int pa_nil))))))), ?_⟩
    -- what stands behind the first row, for any cell
    have key : ∀ m : Int, ∃ r : Int, (m.fmod 1152921504606846883) = r ∧ 0 ≤ r ∧ r < 1152921504606846883 := fun m => ⟨_, rfl, by rw [Int.fmod_eq_emod_of_nonneg _ (by decide)]; exact Int.emod_nonneg _ (by decide), by rw [Int.fmod_eq_emod_of_nonneg _ (by decide)]; exact Int.emod_lt_of_pos _ (by decide)⟩
    refine ⟨_, rfl, _, rfl, _, _, rfl, .inl ⟨_, hS, rfl⟩, _, _, rfl, rfl, _, rfl, ?_⟩
    refine ite2 (fun hc => ?x) (fun hc => ?y)
    case' x =>
      have hi : i < ns.length := by
        have h1 : i < (List.map V.int ns).length := by
          have := of_decide_eq_true hc
          omega
        rwa [List.length_map] at h1
      have hx : (ns.map V.int)[i]? = some (.int ns[i]) := by
        rw [List.getElem?_map, List.getElem?_eq_getElem hi]
        rfl
      refine ⟨_, rfl, _, rfl, a, _, _, _, rfl, rfl, hS, atI_nat hx, .inl ⟨_, rfl, ?_⟩⟩
    case' y =>
      refine ⟨_, rfl, _, _, rfl, rfl, .inl ⟨by decide, by decide⟩, _, _, rfl, rfl, ?_⟩
    all_goals
      clear hc
      refine ⟨_, rfl, _, rfl, _, _, rfl, rfl, ⟨by decide, by decide, by decide⟩, ?_⟩
      walk_at "rr"
      refine ⟨⟨by decide, by decide, by decide⟩, _, _, rfl, rfl, ⟨by decide, by decide, by decide⟩, _, _, rfl, rfl, wide_mul (a := 200) (b := 200) (by decide) (by decide) (by decide) (by decide) (by decide), _, _, rfl, rfl, ten120, ?_⟩
      walk_at "rr"
      refine ⟨(by decide : (1152921504606846883 : Int) ≠ 0), ?_⟩
      walk_at "rr"
      refine ⟨fm_mul _ _ (by decide) (by decide), ?_⟩
      walk_at "rr"
      refine ⟨.inl ⟨by decide, by decide⟩, ?_⟩
      walk_at "rr"
      refine ⟨.inl ⟨by decide, by decide⟩, ?_⟩
      walk_at "rr"
      exact ⟨size3, fun p hp => k p _ _ _ hp⟩
theorem sc_roll : FnScope ["dice", "total", "found", "one", "two"] ["dice", "total"] (defScope s_law_roll) := ⟨rfl, rfl, rfl, by decide +kernel, rfl, by decide +kernel, by decide +kernel⟩
theorem ok_law_roll {f : Addr} {fd : FuncData} (F : Fun K "_law_roll" "_law_roll" s_law_roll f fd) (T : Txt K mg) : FnOk P w K mg base CX0 1 f fd ["dice", "total"] spRoll := by
  refine F.ok sc_roll (fun vs H Q E h => ?_) (fun cdv A outer s H vs Q E hr h => ?_)
  · obtain ⟨d, n, _, rfl, _⟩ := h
    rfl
  · obtain ⟨d, n, ⟨a, b, c, hd⟩, rfl, hn, k⟩ := h
    have hn0 : 0 < n := hn.1
    refine ⟨_, pss_cons (ps_if (pt_cmpR op_gt (pe_ix ix_list (pv 0) pe_int (fun _ _ => rfl)) pe_int (nomark _))
        (pss_cons (ps_set (i := 2) sc_roll.nd rfl (Or.inl rfl) (pe_op op_modN (pe_callTy call_int1 (by rfl) T.n_int (by decide +kernel) (pa_cons (pe_ix ix_list (pv 0) pe_int (fun _ _ => rfl)) pa_nil)) (pv 1)))
        (pss_cons (ps_asg (pe_op op_fdivW (pe_ix ix_list (pv 0) pe_int (fun _ _ => rfl)) (pv 1)) (pg_sub (pv 0) pe_int set_list))
        (pss_one (ps_ret (pv 2))))) pss_nil)
      (pss_cons (ps_asg (pe_op op_add (pe_ix ix_list (pv 0) pe_int (fun _ _ => rfl)) pe_int) (pg_sub (pv 0) pe_int set_list))
      (pss_cons (ps_set (i := 3) sc_roll.nd rfl (Or.inl rfl) (pe_op op_modN (pe_callTy call_int1 (by rfl) T.n_int (by decide +kernel) (pa_cons (pe_op op_add (pe_ix ix_list (pv 0) pe_int (fun _ _ => rfl)) (pe_op op_mul pe_int (pe_ix ix_list (pv 0) pe_int (fun _ _ => rfl)))) pa_nil)) pe_int))
      (pss_cons (ps_set (i := 4) sc_roll.nd rfl (Or.inl rfl) (pe_op op_add (pe_op op_mul (pe_op op_modN (pe_callTy call_int1 (by rfl) T.n_int (by decide +kernel) (pa_cons (pe_op op_add (pe_op op_mul (pv 3) (pv 3)) (pe_op op_mul pe_int (pe_ix ix_list (pv 0) pe_int (fun _ _ => rfl)))) pa_nil)) pe_int) pe_int) (pv 3)))
      (pss_one (ps_ret (pe_op op_modN (pe_callTy call_int1 (by rfl) T.n_int (by decide +kernel) (pa_cons (pe_op op_fdivN (pv 4) pe_int) pa_nil)) (pv 1))))))), ?_⟩
    walk_at "rr"
    refine ⟨_, _, _, _, rfl, rfl, SqL.of hd, d0 _ _ _, ?_⟩
    walk_at "rr"
    refine ite2 (fun hc => ?_) (fun hc => ?_)
    · walk_at "rr"
      refine ⟨_, _, _, _, rfl, rfl, SqL.of hd, d0 _ _ _, ?_⟩
      walk_at "rr"
      refine ⟨by show n ≠ 0; omega, ?_⟩
      walk_at "rr"
      refine ⟨_, _, _, _, rfl, rfl, SqL.of hd, d0 _ _ _, ?_⟩
      walk_at "rr"
      refine ⟨hn, ?_⟩
      walk_at "rr"
      refine ⟨d, _, _, 0, rfl, rfl, hd, rfl, ?_⟩
      walk_at "rr"
      exact k _ _ _ _ (fm_lo _ hn0) (fm_hi _ hn0)
    · walk_at "rr"
      refine ⟨_, _, _, _, rfl, rfl, SqL.of hd, d2 _ _ _, ?_⟩
      walk_at "rr"
      refine ⟨d, _, _, 2, rfl, rfl, hd, rfl, ?_⟩
      have hd' : (upd H d (.lst ([V.int a, V.int b, V.int c].set 2 (V.int (c + 1))))) d = some (.lst [V.int a, V.int b, V.int (c + 1)]) := upd_same
      walk_at "rr"
      refine ⟨_, _, _, _, rfl, rfl, SqL.of hd', d1 _ _ _, ?_⟩
      walk_at "rr"
      refine ⟨_, _, _, _, rfl, rfl, SqL.of hd', d2 _ _ _, ?_⟩
      walk_at "rr"
      refine ⟨.inl ⟨by decide, by decide⟩, ?_⟩
      walk_at "rr"
      refine ⟨(by decide : (2305843009213693921 : Int) ≠ 0), ?_⟩
      walk_at "rr"
      refine ⟨fm_mul _ _ (by decide) (by decide), ?_⟩
      walk_at "rr"
      refine ⟨_, _, _, _, rfl, rfl, SqL.of hd', d2 _ _ _, ?_⟩
      walk_at "rr"
      refine ⟨.inl ⟨by decide, by decide⟩, ?_⟩
      walk_at "rr"
      refine ⟨(by decide : (2305843009213693907 : Int) ≠ 0), ?_⟩
      walk_at "rr"
      refine ⟨fm_mul _ _ (by decide) (by decide), ?_⟩
      walk_at "rr"
      refine ⟨⟨by decide, by decide⟩, ?_⟩
      walk_at "rr"
      refine ⟨by show n ≠ 0; omega, ?_⟩
      exact k _ _ _ _ (fm_lo _ hn0) (fm_hi _ hn0)
theorem sc_pick : FnScope ["dice", "items"] ["dice", "items"] (defScope s_law_pick) := ⟨rfl, rfl, rfl, by decide +kernel, rfl, by decide +kernel, by decide +kernel⟩
theorem ok_law_pick {f : Addr} {fd : FuncData} (F : Fun K "_law_pick" "_law_pick" s_law_pick f fd) (T : Txt K mg) (DR : Dfn P w K mg base "_law_roll" 1 ["dice", "total"] spRoll) : FnOk P w K mg base CX0 2 f fd ["dice", "items"] spPick := by
  refine F.ok sc_pick (fun vs H Q E h => ?_) (fun cdv A outer s H vs Q E hr h => ?_)
  · obtain ⟨d, x, _, rfl, _⟩ := h
    rfl
  · obtain ⟨d, x, hd, rfl, k⟩ := h
    refine ⟨_, pss_one (ps_ret (pe_ix ix_seq (pv 1) (pe_d DR hr (pa_cons (pv 0) (pa_cons (pe_callB call_len (by rfl) T.n_len (by decide +kernel) (pa_cons (pv 1) pa_nil)) pa_nil))) (fun _ _ => rfl))), ?_⟩
    rcases k with ⟨l, xs, rfl, hl, hne, hlen, hld, k⟩ | ⟨z, rfl, hz, hz2, k⟩
    · walk_at "rr"
      have h0 : 0 < xs.length := List.length_pos_iff.mpr hne
      refine ⟨_, xs.length, rfl, .inl ⟨xs, SqL.of hl, rfl⟩, ?_⟩
      refine ⟨d, _, hd, rfl, cdiv_small (by omega) (by omega), fun j a b c h1 h2 => ?_⟩
      obtain ⟨m, rfl⟩ : ∃ m : Nat, j = m := ⟨j.toNat, by omega⟩
      have hm : m < xs.length := by omega
      exact .inl ⟨l, xs, _, _, rfl, rfl, SqL.of (by rw [upd_ne hld]; exact hl), atI_nat (List.getElem?_eq_getElem hm), k _ _ _ _ (List.getElem_mem hm)⟩
    · walk_at "rr"
      have hs : (1000 : Nat) ≤ sizeLine := by decide
      refine ⟨_, z.length, rfl, ⟨by omega, rfl⟩, ?_⟩
      refine ⟨d, _, hd, rfl, cdiv_small (by omega) (by omega), fun j a b c h1 h2 => ?_⟩
      obtain ⟨m, rfl⟩ : ∃ m : Nat, j = m := ⟨j.toNat, by omega⟩
      have hm : m < z.cps.toList.length := by rw [Array.length_toList]; show m < z.length; omega
      exact .inr (.inr ⟨z, _, _, rfl, rfl, by omega, atI_nat (List.getElem?_eq_getElem hm), k _ _ _ _⟩)
end
/-! ### values by their kinds, names, integers -/
inductive Kd (H : Hp) : V → String → Prop where
  | non : Kd H .non "NoneType"
  | bl (b : Bool) : Kd H (.bl b) "bool"
  | int (i : Int) : Kd H (.int i) "int"
  | str (z : Str) (h : z.length ≤ 1000) : Kd H (.str z) "str"
  | lst {a : Addr} {xs : List V} (e : H a = some (.lst xs)) : Kd H (.ref a) "list"
  | tup {a : Addr} {xs : List V} (e : H a = some (.tup xs)) : Kd H (.ref a) "tuple"
  | dK {a : Addr} {kvs : List (Key × V)} (e : H a = some (.dK kvs)) : Kd H (.ref a) "dict"
theorem Kd.tyX {K : PySem.W.Frag} {H : Hp} {v : V} {t : String} (h : Kd H v t) : TyX K H v (.type t) := by
  cases h with
  | non => exact .base .non
  | bl b => exact .base (.bl b)
  | int i => exact .base (.int i)
  | str z _ => exact .base (.str z)
  | lst e => exact .base (.lst e)
  | tup e => exact .base (.tup e)
  | dK e => exact .base (.dK e)
def isa (t c : String) : Bool := match c with
  | "int" => t == "int" || t == "bool"
  | _ => t == c
theorem Kd.isa {K : PySem.W.Frag} {H : Hp} {v : V} {t c : String} (h : Kd H v t) (hc : c ∈ (["int", "bool", "str", "tuple", "dict"] : List String)) : PySem.W.kitOne K (.type t) (.type c) = some (isa t c) := by
  simp only [List.mem_cons, List.not_mem_nil, or_false] at hc
  cases h <;> rcases hc with rfl | rfl | rfl | rfl | rfl <;> exact kit_ty (by decide +kernel)
theorem Kd.same {H H' : Hp} {v : V} {t : String} (h : Kd H v t) (e : Same H H') : Kd H' v t := by
  cases h with
  | non => exact .non
  | bl b => exact .bl b
  | int i => exact .int i
  | str z h => exact .str z h
  | lst q => exact .lst (e _ _ q)
  | tup q => exact .tup (e _ _ q)
  | dK q => exact .dK (e _ _ q)
def isIntV : V → Bool
  | .int i => decide (i.natAbs < 10 ^ 60)
  | _ => false
def isCntV : V → Bool
  | .int i => decide (i.natAbs < 10 ^ 60) && decide (0 ≤ i)
  | _ => false
def azS (z : Str) : Bool := !decide (z.cps.toList < ("a" : Str).cps.toList) && !decide (("z" : Str).cps.toList < z.cps.toList)
def isWordS (z : Str) : Bool := decide (1 ≤ z.length) && decide (z.length ≤ 8) && z.cps.toList.all fun c => azS ⟨#[c]⟩
def isNameV : V → Bool
  | .str z => isWordS z
  | _ => false
def areNames (H : Hp) : V → Bool
  | .ref a => match H a with
    | some (.tup xs) => xs.all isNameV
    | _ => false
  | _ => false
structure spIsName (vs : List V) (H : Hp) (Q : VK) (E : XK) : Prop where
  h : ∃ (v : V) (t : String), Kd H v t ∧ vs = [v] ∧ ∀ H', Same H H' → Q (.bl (isNameV v)) H'
structure spAreNames (vs : List V) (H : Hp) (Q : VK) (E : XK) : Prop where
  h : ∃ (v : V) (t : String), Kd H v t ∧ vs = [v] ∧ (∀ a xs, v = .ref a → H a = some (.tup xs) → xs.length ≤ 1000 ∧ ∀ x ∈ xs, ∃ t, Kd H x t) ∧ ∀ H', Same H H' → Q (.bl (areNames H v)) H'
section
variable {P : Program} {w : World} {K : PySem.W.Frag} {mg : Str → Option Value} {base : Heap}
/-- the chain 'a' <= letter <= 'z' -/
theorem azS_ff {z : Str} (h : (!decide (z.cps.toList < ("a" : Str).cps.toList)) = false) : azS z = false := by
  unfold azS
  rw [h, Bool.false_and]
theorem azS_t {z : Str} (h : (!decide (z.cps.toList < ("a" : Str).cps.toList)) = true) : azS z = !decide (("z" : Str).cps.toList < z.cps.toList) := by
  unfold azS
  rw [h, Bool.true_and]
theorem sc_is_name : FnScope ["value", "letter"] ["value"] (defScope s_is_name) := ⟨rfl, rfl, rfl, by decide +kernel, rfl, by decide +kernel, by decide +kernel⟩
theorem ok_is_name {f : Addr} {fd : FuncData} (F : Fun K "is_name" "is_name" s_is_name f fd) (T : Txt K mg) : FnOk P w K mg base CX0 1 f fd ["value"] spIsName := by
  refine F.ok sc_is_name (fun vs H Q E h => ?_) (fun cdv A outer s H vs Q E hr h => ?_)
  · obtain ⟨v, t, _, rfl, _⟩ := h
    rfl
  · obtain ⟨v, t, hk, rfl, k⟩ := h
    obtain ⟨tf, hF⟩ := T.c_MAX_LETTERS
    refine ⟨_, pss_cons (ps_if (PW.pt (pw_or (pt_not (pt_val (pe_callB call_isi (by rfl) T.n_isinstance (by decide +kernel) (pa_cons (pv 0) (pa_cons (pe_bltn (v := .ty "str") (by rfl) T.n_str (by decide +kernel) rfl) pa_nil)))))
          (pw_or1 (pt_not (pt_chain op_le op_le pe_int (pe_callB call_len (by rfl) T.n_len (by decide +kernel) (pa_cons (pv 0) pa_nil)) (pe_glob (v := .int 8) rfl hF ⟨_, rfl⟩)))))) (pss_one (ps_ret pe_bl)) pss_nil)
      (pss_one (ps_ret (pe_callB (cr_all rfl) (by rfl) T.n_all (by decide +kernel) (pa_cons (pe_lc (own := [("letter", 1)]) (g := gName 1) (tt := tYes) rfl sc_is_name.nd (pi_str (pv 0)) (blkOk_by (own := [("letter", 1)]) (N := ["value", "letter"]) (sc := defScope s_is_name) (by decide +kernel))
        (fun _ _ _ _ _ => pg_name (i := 1) sc_is_name.nd rfl (Or.inl rfl)) (fun _ _ _ _ _ => pts_nil) (fun _ _ _ _ _ => pe_chain op_le_str op_le_str pe_str (pv 1) pe_str)) pa_nil)))), ?_⟩
    walk_at "rr"
    refine ⟨v, _, _, _, _, rfl, .ty _, hk.tyX, hk.isa (by decide), ?_⟩
    walk_at "rr"
    cases hk with
    | str z h =>
      walk_at "rr"
      have hs : (1000 : Nat) ≤ sizeLine := by decide
      refine ⟨_, z.length, rfl, ⟨by omega, rfl⟩, ?_⟩
      walk_at "rr"
      refine ite2 (fun h1 => ?_) (fun h1 => ?_)
      · walk_at "rr"
        refine ite2 (fun h2 => ?_) (fun h2 => ?_)
        · refine q_bl (Q := Q) ?_ (k H (Same.refl _))
          have h3 : ¬ z.length ≤ 8 := by
            have : decide ((z.length : Int) ≤ 8) = false := by simpa using h2
            have := of_decide_eq_false this
            omega
          show false = (decide (1 ≤ z.length) && decide (z.length ≤ 8) && _)
          rw [decide_eq_false h3, Bool.and_false, Bool.false_and]
        · have h3 : z.length ≤ 8 := by
            have : decide ((z.length : Int) ≤ 8) = true := by simpa using h2
            have := of_decide_eq_true this
            omega
          have h4 : 1 ≤ z.length := by
            have := of_decide_eq_true h1
            omega
          walk_at "rr"
          have hlen : z.cps.toList.length = z.length := Array.length_toList
          refine fun D hD => lc_str (x := z) (fun i H' => Same H H' ∧ H' D = some (.lst ((z.cps.toList.take i).map fun c => V.bl (azS ⟨#[c]⟩)))) ⟨same_new hD, upd_same⟩ ?_ ?_
          · rintro i c H' hc ⟨s1, hD'⟩
            have hi : i < z.length := by rw [← hlen]; exact (List.getElem?_eq_some_iff.mp hc).1
            refine ⟨rfl, ?_⟩
            have fin : ∀ b : Bool, b = azS ⟨#[c]⟩ → ∃ acc, H' D = some (.lst acc) ∧ acc.length < sizeLine ∧ (Same H (upd H' D (.lst (acc ++ [V.bl b]))) ∧ (upd H' D (.lst (acc ++ [V.bl b]))) D = some (.lst ((z.cps.toList.take (i + 1)).map fun c => V.bl (azS ⟨#[c]⟩)))) := fun b e => by
              refine ⟨_, hD', ?_, same_own s1 hD, ?_⟩
              · rw [List.length_map, List.length_take]
                have := line1000
                omega
              · rw [upd_same, take_more hc, List.map_append, e]
                rfl
            walk_at "rr"
            cases e : (!decide ((⟨#[c]⟩ : Str).cps.toList < ("a" : Str).cps.toList)) with
            | true =>
              walk_at "rr"
              exact fin _ (azS_t e).symm
            | false =>
              refine iteF ?_
              exact fin _ (azS_ff e).symm
          · rintro H' ⟨s1, hD'⟩
            refine ⟨D, (z.cps.toList.map fun c => azS ⟨#[c]⟩), rfl, SqL.of ?_, ?_⟩
            · rw [List.take_length] at hD'
              rw [List.map_map]
              exact hD'
            · refine q_bl (Q := Q) ?_ (k H' s1)
              show _ = (decide (1 ≤ z.length) && decide (z.length ≤ 8) && z.cps.toList.all fun c => azS ⟨#[c]⟩)
              rw [decide_eq_true h4, decide_eq_true h3, Bool.true_and, Bool.true_and, List.all_map]
              rfl
      · walk_at "rr"
        refine q_bl (Q := Q) ?_ (k H (Same.refl _))
        have h3 : ¬ 1 ≤ z.length := fun h => h1 (decide_eq_true (by omega))
        show false = (decide (1 ≤ z.length) && decide (z.length ≤ 8) && _)
        rw [decide_eq_false h3, Bool.false_and, Bool.false_and]
    | int i => exact k _ (Same.refl _)
    | bl b => exact k _ (Same.refl _)
    | non => exact k _ (Same.refl _)
    | lst e => exact k _ (Same.refl _)
    | tup e => exact k _ (Same.refl _)
    | dK e => exact k _ (Same.refl _)
theorem sc_are_names : FnScope ["value", "name"] ["value"] (defScope s_are_names) := ⟨rfl, rfl, rfl, by decide +kernel, rfl, by decide +kernel, by decide +kernel⟩
theorem ok_are_names {f : Addr} {fd : FuncData} (F : Fun K "are_names" "are_names" s_are_names f fd) (T : Txt K mg) (DN : Dfn P w K mg base "is_name" 1 ["value"] spIsName) : FnOk P w K mg base CX0 2 f fd ["value"] spAreNames := by
  refine F.ok sc_are_names (fun vs H Q E h => ?_) (fun cdv A outer s H vs Q E hr h => ?_)
  · obtain ⟨v, t, _, rfl, _⟩ := h
    rfl
  · obtain ⟨v, t, hk, rfl, hx, k⟩ := h
    refine ⟨_, pss_one (ps_ret (pe_and (pe_callB call_isi (by rfl) T.n_isinstance (by decide +kernel) (pa_cons (pv 0) (pa_cons (pe_bltn (v := .ty "tuple") (by rfl) T.n_tuple (by decide +kernel) rfl) pa_nil)))
      (pe_one (pe_callB (cr_all rfl) (by rfl) T.n_all (by decide +kernel) (pa_cons (pe_lc (own := [("name", 1)]) (g := gName 1) (tt := tYes) rfl sc_are_names.nd (pi_tup (pv 0)) (blkOk_by (own := [("name", 1)]) (N := ["value", "name"]) (sc := defScope s_are_names) (by decide +kernel))
        (fun _ _ _ _ _ => pg_name (i := 1) sc_are_names.nd rfl (Or.inl rfl)) (fun _ _ _ _ _ => pts_nil) (fun _ _ _ _ _ => pe_d DN hr (pa_cons (pv 1) pa_nil))) pa_nil))))), ?_⟩
    walk_at "rr"
    refine ⟨v, _, _, _, _, rfl, .ty _, hk.tyX, hk.isa (by decide), ?_⟩
    walk_at "rr"
    cases hk with
    | @tup a xs e =>
      obtain ⟨hl, hx⟩ := hx a xs rfl e
      walk_at "rr"
      refine ⟨⟨_, SqT.of e⟩, ?_⟩
      have hs := line1000
      refine fun D hD => lc_tup (K := K) (a := a) (xs := xs) (fun i H' => Same H H' ∧ H' D = some (.lst ((xs.take i).map fun x => V.bl (isNameV x)))) ⟨same_new hD, upd_same⟩ (fun i H' _ p => SqT.of (p.1 _ _ e)) ?_ ?_
      · rintro i x H' hi ⟨s1, hD'⟩
        have hil : i < xs.length := (List.getElem?_eq_some_iff.mp hi).1
        obtain ⟨t, ht⟩ := hx x (List.mem_of_getElem? hi)
        refine ⟨rfl, ?_⟩
        walk_at "rr"
        refine ⟨_, t, ht.same s1, rfl, fun H2 s2 => ?_⟩
        refine ⟨_, s2 _ _ hD', ?_, same_own (s1.trans s2) hD, ?_⟩
        · rw [List.length_map, List.length_take]
          omega
        · rw [upd_same, take_more hi, List.map_append]
          rfl
      · rintro H' ⟨s1, hD'⟩
        refine ⟨D, xs.map isNameV, rfl, SqL.of ?_, ?_⟩
        · rw [List.take_length] at hD'
          rw [List.map_map]
          exact hD'
        · refine q_bl (Q := Q) ?_ (k H' s1)
          show _ = (match H a with | some (.tup xs) => xs.all isNameV | _ => false)
          rw [e, List.all_map]
          rfl
    | @lst a xs e => exact q_bl (Q := Q) (by show _ = (match H a with | some (.tup xs) => xs.all isNameV | _ => false); rw [e] <;> rfl) (k _ (Same.refl _))
    | @dK a xs e => exact q_bl (Q := Q) (by show _ = (match H a with | some (.tup xs) => xs.all isNameV | _ => false); rw [e] <;> rfl) (k _ (Same.refl _))
    | int i => exact k _ (Same.refl _)
    | bl b => exact k _ (Same.refl _)
    | non => exact k _ (Same.refl _)
    | str z h => exact k _ (Same.refl _)
end
/-! ### are_different_names -/
theorem puts_len : ∀ (xs acc : List Str), xs.Nodup → (∀ x ∈ xs, ¬ x ∈ acc) → (xs.foldl ZS.put acc).length = acc.length + xs.length
  | [], acc, _, _ => rfl
  | x :: xs, acc, nd, dj => by
    obtain ⟨n1, n2⟩ := List.nodup_cons.mp nd
    have e : ZS.put acc x = x :: acc := by
      unfold ZS.put
      rw [if_neg (dj x List.mem_cons_self)]
    rw [List.foldl_cons, e, puts_len xs (x :: acc) n2 ?_]
    · rw [List.length_cons, List.length_cons]
      omega
    · intro y hy hm
      rcases List.mem_cons.mp hm with rfl | hm
      · exact n1 hy
      · exact dj y (List.mem_cons_of_mem _ hy) hm
theorem nub_len_iff (ss : List Str) : (ZS.nub ss).length = ss.length ↔ ss.Nodup := by
  constructor
  · intro e
    have p := ZS.perm_of_in (ZS.nub ss) ss (ZS.nub_nodup ss) (fun x hx => (ZS.nub_mem ss x).mp hx) e
    exact p.nodup_iff.mpr (ZS.nub_nodup ss)
  · intro nd
    have := puts_len ss [] nd (fun _ _ h => by cases h)
    rw [List.length_nil, Nat.zero_add] at this
    exact this
/-- the texts of a list of names -/
theorem names_strs : ∀ {xs : List V}, xs.all isNameV = true → ∃ ss : List Str, xs = ss.map V.str
  | [], _ => ⟨[], rfl⟩
  | x :: xs, h => by
    rw [List.all_cons, Bool.and_eq_true] at h
    obtain ⟨ss, e⟩ := names_strs h.2
    cases x with
    | str z => exact ⟨z :: ss, by rw [e]; rfl⟩
    | _ => exact absurd h.1 Bool.false_ne_true
theorem nodup_map_str {ss : List Str} : (ss.map V.str).Nodup ↔ ss.Nodup := by
  unfold List.Nodup
  rw [List.pairwise_map]
  constructor
  · exact fun h => h.imp fun hne e => hne (by rw [e])
  · exact fun h => h.imp fun hne e => hne (V.str.inj e)
def diffB (xs : List V) : Bool := xs.all isNameV && decide xs.Nodup
structure spDiff (K : PySem.W.Frag) (vs : List V) (H : Hp) (Q : VK) (E : XK) : Prop where
  h : ∃ (a : Addr) (xs : List V), vs = [.ref a] ∧ H a = some (.tup xs) ∧ xs.length ≤ 1000 ∧ (∀ x ∈ xs, ∃ t, Kd H x t) ∧ ∀ H', Same H H' → Q (.bl (diffB xs)) H'
section
variable {P : Program} {w : World} {K : PySem.W.Frag} {mg : Str → Option Value} {base : Heap}
theorem sc_are_diff : FnScope ["value"] ["value"] (defScope s_are_different_names) := ⟨rfl, rfl, rfl, by decide +kernel, rfl, by decide +kernel, by decide +kernel⟩
theorem ok_are_different_names {f : Addr} {fd : FuncData} (F : Fun K "are_different_names" "are_different_names" s_are_different_names f fd) (T : Txt K mg) (DA : Dfn P w K mg base "are_names" 2 ["value"] spAreNames) : FnOk P w K mg base CX0 3 f fd ["value"] (spDiff K) := by
  refine F.ok sc_are_diff (fun vs H Q E h => ?_) (fun cdv A outer s H vs Q E hr h => ?_)
  · obtain ⟨a, xs, rfl, _⟩ := h
    rfl
  · obtain ⟨a, xs, rfl, ha, hl, hx, k⟩ := h
    refine ⟨_, pss_one (ps_ret (pe_and (pe_d DA hr (pa_cons (pv 0) pa_nil))
      (pe_one (pe_cmpR op_eq (ZS.pe_lenTx rfl T.n_len T.n_set (pv 0)) (pe_callB call_len (by rfl) T.n_len (by decide +kernel) (pa_cons (pv 0) pa_nil)) (nomark _))))), ?_⟩
    walk_at "rr"
    refine ⟨_, _, .tup ha, rfl, fun b ys e hb => ?_, fun H' hS => ?_⟩
    · cases e
      rw [ha] at hb
      cases hb
      exact ⟨hl, hx⟩
    · have ea : areNames H (.ref a) = xs.all isNameV := by
        show (match H a with | some (.tup xs) => xs.all isNameV | _ => false) = _
        rw [ha]
      walk_at "rr"
      rw [ea]
      refine ite2 (fun h1 => ?_) (fun h1 => ?_)
      · obtain ⟨ss, rfl⟩ := names_strs h1
        walk_at "rr"
        rw [List.length_map] at hl
        refine ⟨a, ss, rfl, .inr (SqT.of (hS _ _ ha)), hl, ?_⟩
        walk_at "rr"
        have hs := line1000
        refine ⟨_, ss.length, rfl, .inr ⟨_, SqT.of (hS _ _ ha), by rw [List.length_map]⟩, ?_⟩
        refine ⟨rfl, ?_⟩
        refine q_bl (Q := Q) ?_ (k H' hS)
        unfold diffB
        rw [h1, Bool.true_and]
        refine decide_eq_decide.mpr ?_
        rw [nodup_map_str, ← nub_len_iff]
        constructor
        · intro e
          have := V.int.inj e
          omega
        · intro e
          rw [e]
      · refine q_bl (Q := Q) ?_ (k H' hS)
        unfold diffB
        rw [Bool.eq_false_iff.mpr h1, Bool.false_and]
end
/-! ### is_naming -/
/-- a value that a naming may be: no dict, or a dict of these entries -/
inductive Vd (P : Program) (w : World) (H : Hp) : V → Option (List (AnyK × V)) → Prop
  | kd {v : V} {t : String} (h : Kd H v t) (ht : t ≠ "dict") : Vd P w H v none
  | ad {a : Addr} {ep : Nat} {kvs : List (AnyK × V)} (e : H a = some (adK P w a ep kvs)) (hl : kvs.length ≤ 1000) (hk : ∀ p ∈ kvs, ∃ t, Kd H p.2 t) (hn : (kvs.map (·.1)).Nodup) : Vd P w H (.ref a) (some kvs)
theorem Vd.same {P : Program} {w : World} {H H' : Hp} {v : V} {o : Option (List (AnyK × V))} (h : Vd P w H v o) (S : Same H H') : Vd P w H' v o := by
  cases h with
  | kd h ht => exact .kd (h.same S) ht
  | ad e hl hk hn => exact .ad (S _ _ e) hl (fun p hp => let ⟨t, ht⟩ := hk p hp; ⟨t, ht.same S⟩) hn
def hasK (kvs : List (AnyK × V)) (z : Str) : Bool := kvs.any fun p => decide (p.1 = some (.inr z))
def namB (ss : List Str) : Option (List (AnyK × V)) → Bool
  | none => false
  | some kvs => decide (kvs.length = (ZS.nub ss).length) && ss.all (hasK kvs) && diffB (kvs.map (·.2))
def rInA (P : Program) (w : World) : R2 := fun x y H Q => ∃ k a ep kvs, KeyV k x ∧ y = .ref a ∧ H a = some (adK P w a ep kvs) ∧ Q (.bl (kvs.any fun p => decide (p.1 = k))) H
def rNotInA (P : Program) (w : World) : R2 := fun x y H Q => ∃ k a ep kvs, KeyV k x ∧ y = .ref a ∧ H a = some (adK P w a ep kvs) ∧ Q (.bl (!kvs.any fun p => decide (p.1 = k))) H
def rIsiA (P : Program) (w : World) : List V → Hp → VK → Prop := fun xs H Q => ∃ a ep kvs, xs = [.ref a, .ty "dict"] ∧ H a = some (adK P w a ep kvs) ∧ Q (.bl true) H
def rLenA (P : Program) (w : World) : List V → Hp → VK → Prop := fun xs H Q => ∃ a ep kvs, xs = [.ref a] ∧ H a = some (adK P w a ep kvs) ∧ Q (.int kvs.length) H
theorem call_isiX {X : Cx} : CallR X (.builtin "isinstance") (fun xs H Q => rIsi X.K xs H Q ∨ rIsiA X.prog X.w xs H Q) := CallR.or call_isi call_isiA
structure spNaming (P : Program) (w : World) (vs : List V) (H : Hp) (Q : VK) (E : XK) : Prop where
  h : ∃ (a : Addr) (ss : List Str) (v : V) (o : Option (List (AnyK × V))), vs = [.ref a, v] ∧ H a = some (.tup (ss.map V.str)) ∧ (ss.map V.str).all isNameV = true ∧ ss.length ≤ 1000 ∧ Vd P w H v o ∧ ∀ H', Same H H' → Q (.bl (namB ss o)) H'
section
variable {P : Program} {w : World} {K : PySem.W.Frag} {mg : Str → Option Value} {base : Heap}
theorem sc_is_naming : FnScope ["names", "value", "name"] ["names", "value"] (defScope s_is_naming) := ⟨rfl, rfl, rfl, by decide +kernel, rfl, by decide +kernel, by decide +kernel⟩
theorem ok_is_naming {f : Addr} {fd : FuncData} (F : Fun K "is_naming" "is_naming" s_is_naming f fd) (T : Txt K mg) (DA : Dfn P w K mg base "are_names" 2 ["value"] spAreNames) (DD : Dfn P w K mg base "are_different_names" 3 ["value"] (spDiff K)) : FnOk P w K mg base CX0 4 f fd ["names", "value"] (spNaming P w) := by
  refine F.ok sc_is_naming (fun vs H Q E h => ?_) (fun cdv A outer s H vs Q E hr h => ?_)
  · obtain ⟨a, ss, v, o, rfl, _⟩ := h
    rfl
  · obtain ⟨a, ss, v, o, rfl, ha, hn, hl, hv, k⟩ := h
    obtain ⟨C, pl⟩ := T.p_IP
    refine ⟨_, pss_cons (ps_if (pt_not (pt_val (pe_d DA (hr.mono (by decide)) (pa_cons (pv 0) pa_nil)))) (pss_one (ps_raise (W := fun _ _ _ _ => False) rfl takes0 (pmk_own PySem.F.excBase_ValueError pl.q pl.g pl.k (raises_own pl.s pl.t) (by rfl)))) pss_nil)
      (pss_cons (ps_if (PW.pt (pw_or (pt_not (pt_val (pe_callB call_isiX (by rfl) T.n_isinstance (by decide +kernel) (pa_cons (pv 1) (pa_cons (pe_bltn (v := .ty "dict") (by rfl) T.n_dict (by decide +kernel) rfl) pa_nil)))))
          (pw_or1 (pt_cmpR op_ne (pe_callB call_lenA (by rfl) T.n_len (by decide +kernel) (pa_cons (pv 1) pa_nil)) (ZS.pe_lenTx rfl T.n_len T.n_set (pv 0)) (nomark _))))) (pss_one (ps_ret pe_bl)) pss_nil)
      (pss_cons (ps_if (pt_not (pt_val (pe_callB (cr_all rfl) (by rfl) T.n_all (by decide +kernel) (pa_cons (pe_lc (own := [("name", 2)]) (g := gName 2) (tt := tYes) rfl sc_is_naming.nd (pi_tup (pv 0)) (blkOk_by (own := [("name", 2)]) (N := ["names", "value", "name"]) (sc := defScope s_is_naming) (by decide +kernel))
        (fun _ _ _ _ _ => pg_name (i := 2) sc_is_naming.nd rfl (Or.inl rfl)) (fun _ _ _ _ _ => pts_nil) (fun _ _ _ _ _ => pe_cmpR (show OpR _ _ (rInA P w) from op_inA) (pv 2) (pv 1) (by rfl))) pa_nil)))) (pss_one (ps_ret pe_bl)) pss_nil)
      (pss_one (ps_ret (pe_d DD (hr.mono (by decide)) (pa_cons (pe_tupValsA rfl T.n_tuple (pv 1)) pa_nil)))))), ?_⟩
    walk_at "rr"
    have hlm : (ss.map V.str).length ≤ 1000 := by rw [List.length_map]; exact hl
    refine ⟨_, _, .tup ha, rfl, fun b ys e hb => ?_, fun H1 S1 => ?_⟩
    · cases e
      rw [ha] at hb
      cases hb
      refine ⟨hlm, fun x hx => ?_⟩
      obtain ⟨z, hz, rfl⟩ := List.mem_map.mp hx
      have hz2 := List.all_eq_true.mp hn _ hx
      have hz3 : isWordS z = true := hz2
      unfold isWordS at hz3
      rw [Bool.and_eq_true, Bool.and_eq_true] at hz3
      have := of_decide_eq_true hz3.1.2
      exact ⟨_, .str z (by omega)⟩
    · have ea : areNames H (.ref a) = true := by
        show (match H a with | some (.tup xs) => xs.all isNameV | _ => false) = _
        rw [ha]
        exact hn
      walk_at "rr"
      rw [ea]
      refine ifF rfl ?_
      have hv1 := hv.same S1
      have ha1 := S1 _ _ ha
      walk_at "rr"
      cases hv1 with
      | @kd v t h ht =>
        refine .inl ⟨v, _, _, _, _, rfl, .ty _, h.tyX, h.isa (by decide), ?_⟩
        have e : isa t "dict" = false := by
          cases h <;> first | rfl | exact absurd rfl ht
        rw [e]
        walk_at "rr"
        exact iteT (iteT (k _ S1))
      | @ad b ep kvs e hl2 hk hnd =>
        refine .inr ⟨b, ep, kvs, rfl, e, ?_⟩
        walk_at "rr"
        refine ⟨b, ep, kvs, rfl, e, ?_⟩
        walk_at "rr"
        refine ⟨a, ss, rfl, .inr (SqT.of ha1), hl, ?_⟩
        refine ⟨rfl, ?_⟩
        walk_at "rr"
        refine ite2 (fun h1 => ?_) (fun h1 => ?_)
        · refine q_bl (Q := Q) ?_ (k _ S1)
          have h3 : ¬ kvs.length = (ZS.nub ss).length := fun z => by
            rw [z] at h1
            simp at h1
          show false = (decide (kvs.length = (ZS.nub ss).length) && ss.all (hasK kvs) && diffB (kvs.map (·.2)))
          rw [decide_eq_false h3, Bool.false_and, Bool.false_and]
        · have h3 : kvs.length = (ZS.nub ss).length := by
            have h4 : (!decide (V.int ↑kvs.length = V.int ↑(ZS.nub ss).length)) = false := Bool.eq_false_iff.mpr h1
            have h5 : decide (V.int ↑kvs.length = V.int ↑(ZS.nub ss).length) = true := by
              rw [← Bool.not_not (decide _), h4] <;> rfl
            have := V.int.inj (of_decide_eq_true h5)
            omega
          walk_at "rr"
          refine ⟨⟨_, SqT.of ha1⟩, ?_⟩
          have hs := line1000
          refine fun D hD => lc_tup (K := K) (a := a) (xs := ss.map V.str) (fun i H' => Same H1 H' ∧ H' D = some (.lst ((ss.take i).map fun z => V.bl (hasK kvs z)))) ⟨same_new hD, upd_same⟩ (fun i H' _ p => SqT.of (p.1 _ _ ha1)) ?_ ?_
          · rintro i x H' hi ⟨s1, hD'⟩
            obtain ⟨z, hz, rfl⟩ : ∃ z, ss[i]? = some z ∧ x = V.str z := by
              rw [List.getElem?_map] at hi
              cases hz : ss[i]? with
              | none => rw [hz] at hi; cases hi
              | some z => rw [hz] at hi; cases hi; exact ⟨z, rfl, rfl⟩
            refine ⟨rfl, ?_⟩
            walk_at "rr"
            refine ⟨_, b, ep, kvs, .str z, rfl, s1 _ _ e, ?_⟩
            refine ⟨_, hD', ?_, same_own s1 hD, ?_⟩
            · rw [List.length_map, List.length_take]
              omega
            · rw [upd_same, take_more hz, List.map_append]
              rfl
          · rintro H' ⟨s1, hD'⟩
            refine ⟨D, ss.map (hasK kvs), rfl, SqL.of ?_, ?_⟩
            · rw [List.length_map, List.take_length] at hD'
              rw [List.map_map]
              exact hD'
            · have ea2 : ((ss.map (hasK kvs)).all fun b => b) = ss.all (hasK kvs) := by
                rw [List.all_map]
                rfl
              walk_at "rr"
              refine ite2 (fun h4 => ?_) (fun h4 => ?_)
              · refine q_bl (Q := Q) ?_ (k _ (S1.trans s1))
                have h5 : ss.all (hasK kvs) = false := by
                  rw [← ea2]
                  simpa using h4
                show false = (decide (kvs.length = (ZS.nub ss).length) && ss.all (hasK kvs) && diffB (kvs.map (·.2)))
                rw [h5, Bool.and_false, Bool.false_and]
              · have h5 : ss.all (hasK kvs) = true := by
                  rw [← ea2]
                  simpa using h4
                walk_at "rr"
                refine ⟨b, ep, kvs, rfl, s1 _ _ e, fun q hq => ?_⟩
                refine ⟨q, kvs.map (·.2), rfl, upd_same, by rw [List.length_map]; exact hl2, fun x hx => ?_, fun H2 S2 => ?_⟩
                · obtain ⟨p, hp, rfl⟩ := List.mem_map.mp hx
                  obtain ⟨t, ht⟩ := hk p hp
                  exact ⟨t, (ht.same s1).same (same_new hq)⟩
                · refine q_bl (Q := Q) ?_ (k _ ((S1.trans s1).trans ((same_new hq).trans S2)))
                  show _ = (decide (kvs.length = (ZS.nub ss).length) && ss.all (hasK kvs) && diffB (kvs.map (·.2)))
                  rw [decide_eq_true h3, h5]
                  rfl
end
/-! ### is_naming of what is no tuple of names; _law_is_refused -/
structure spNamingX (mg : Str → Option Value) (vs : List V) (H : Hp) (Q : VK) (E : XK) : Prop where
  h : ∃ (v u : V) (t : String), vs = [v, u] ∧ Kd H v t ∧ (∀ a xs, v = .ref a → H a = some (.tup xs) → xs.length ≤ 1000 ∧ ∀ x ∈ xs, ∃ t, Kd H x t) ∧ areNames H v = false ∧ ∀ C H', mg "InvalidPlace" = some (.ref C) → Same H H' → E (.ref C) none H'
structure DfnX (P : Program) (w : World) (K : PySem.W.Frag) (mg : Str → Option Value) (base : Heap) (x : Str) (k : Nat) (ps : List Str) (sp : Sp) : Prop where
  h : ∃ (f : Addr) (fd : FuncData), mg x = some (.ref f) ∧ PySem.W.keepIn K (.ref f) = true ∧ Binds K fd ps [] ∧ FnOk P w K mg base (L2.CX P w) k f fd ps sp
structure spRef (vs : List V) (H : Hp) (Q : VK) (E : XK) : Prop where
  h : ∃ (v u : V) (t : String), vs = [v, u] ∧ Kd H v t ∧ (∀ a xs, v = .ref a → H a = some (.tup xs) → xs.length ≤ 1000 ∧ ∀ x ∈ xs, ∃ t, Kd H x t) ∧ areNames H v = false ∧ ∀ H', Same H H' → Q (.bl true) H'
section
variable {P : Program} {w : World} {K : PySem.W.Frag} {mg : Str → Option Value} {base : Heap}
theorem okx_is_naming {f : Addr} {fd : FuncData} (F : Fun K "is_naming" "is_naming" s_is_naming f fd) (T : Txt K mg) (DA : Dfn P w K mg base "are_names" 2 ["value"] spAreNames) (DD : Dfn P w K mg base "are_different_names" 3 ["value"] (spDiff K)) : FnOk P w K mg base (L2.CX P w) 4 f fd ["names", "value"] (spNamingX mg) := by
  refine F.okX sc_is_naming (fun vs H Q E h => ?_) (fun cdv A outer s H vs Q E hr h => ?_)
  · obtain ⟨v, u, t, rfl, _⟩ := h
    rfl
  · obtain ⟨v, u, t, rfl, hv, hx, hn, k⟩ := h
    obtain ⟨C, pl⟩ := T.p_IP
    refine ⟨_, pss_cons (ps_if (pt_not (pt_val (pe_d DA (hr.mono (by decide)) (pa_cons (pv 0) pa_nil)))) (pss_one (ps_raise (W := fun cls d _ H => E cls d H) rfl (takes_of rfl rfl rfl rfl) (pmk_own PySem.F.excBase_ValueError pl.q pl.g pl.k (raises_own pl.s pl.t) (by rfl)))) pss_nil)
      (pss_cons (ps_if (PW.pt (pw_or (pt_not (pt_val (pe_callB call_isiX (by rfl) T.n_isinstance (by decide +kernel) (pa_cons (pv 1) (pa_cons (pe_bltn (v := .ty "dict") (by rfl) T.n_dict (by decide +kernel) rfl) pa_nil)))))
          (pw_or1 (pt_cmpR op_ne (pe_callB call_lenA (by rfl) T.n_len (by decide +kernel) (pa_cons (pv 1) pa_nil)) (ZS.pe_lenTx rfl T.n_len T.n_set (pv 0)) (nomark _))))) (pss_one (ps_ret pe_bl)) pss_nil)
      (pss_cons (ps_if (pt_not (pt_val (pe_callB (cr_all rfl) (by rfl) T.n_all (by decide +kernel) (pa_cons (pe_lc (own := [("name", 2)]) (g := gName 2) (tt := tYes) rfl sc_is_naming.nd (pi_tup (pv 0)) (blkOk_by (own := [("name", 2)]) (N := ["names", "value", "name"]) (sc := defScope s_is_naming) (by decide +kernel))
        (fun _ _ _ _ _ => pg_name (i := 2) sc_is_naming.nd rfl (Or.inl rfl)) (fun _ _ _ _ _ => pts_nil) (fun _ _ _ _ _ => pe_cmpR (show OpR _ _ (rInA P w) from op_inA) (pv 2) (pv 1) (by rfl))) pa_nil)))) (pss_one (ps_ret pe_bl)) pss_nil)
      (pss_one (ps_ret (pe_d DD (hr.mono (by decide)) (pa_cons (pe_tupValsA rfl T.n_tuple (pv 1)) pa_nil)))))), ?_⟩
    walk_at "rr"
    refine ⟨v, t, hv, rfl, hx, fun H1 S1 => ?_⟩
    walk_at "rr"
    rw [hn]
    refine ifT rfl ?_
    exact k C H1 pl.g S1
theorem sc_refused : FnScope ["names", "value"] ["names", "value"] (defScope s_law_is_refused) := ⟨rfl, rfl, rfl, by decide +kernel, rfl, by decide +kernel, by decide +kernel⟩
theorem ok_law_is_refused {f : Addr} {fd : FuncData} (F : Fun K "_law_is_refused" "_law_is_refused" s_law_is_refused f fd) (T : Txt K mg) (DN : DfnX P w K mg base "is_naming" 4 ["names", "value"] (spNamingX mg)) : FnOk P w K mg base CX0 5 f fd ["names", "value"] spRef := by
  refine F.ok sc_refused (fun vs H Q E h => ?_) (fun cdv A outer s H vs Q E hr h => ?_)
  · obtain ⟨v, u, t, rfl, _⟩ := h
    rfl
  · obtain ⟨v, u, t, rfl, hv, hx, hn, k⟩ := h
    obtain ⟨C, pl⟩ := T.p_IP
    obtain ⟨fN, fdN, gN, kN, bN, hN⟩ := DN.h
    refine ⟨_, pss_cons (ps_try_only (c := .ref C) (tb := fun W => tDrop (tCallS (spNamingX mg) (WE W) (tCons (tVar 0) (tCons (tVar 1) tNil)))) (Wout := fun _ _ _ _ => False) rfl rfl ⟨rfl, by decide, Or.inl pl.g⟩ takes0
      (fun W pn xe tk _ => pss_one (ps_expr (by exact (pe_callS hN hr rfl gN kN bN (fun σ => passAt tk σ) (pa_cons (pv 0) (pa_cons (pv 1) pa_nil))))))
      (fun a oe cls d pn hz hf => pss_one (ps_ret pe_bl))) (pss_one (ps_ret pe_bl)), ?_⟩
    refine ⟨_, rfl, _, rfl, v, u, t, rfl, hv, hx, hn, fun C' H1 hC S1 => ?_⟩
    have e : C' = C := by
      rw [pl.g] at hC
      cases hC
      rfl
    subst e
    exact ⟨true, pl.x, fun _ a ha => k H1 S1, fun q => nomatch q⟩
end
/-! ### _law_mixed -/
structure spMixed (vs : List V) (H : Hp) (Q : VK) (E : XK) : Prop where
  h : ∃ (d l : Addr) (xs : List V), Dice H d ∧ vs = [.ref d, .ref l] ∧ H l = some (.lst xs) ∧ xs.length ≤ 1000 ∧ l ≠ d ∧ ∀ (q : Addr) (ys : List V) (H' : Hp), Go d H H' → H q = none → q ≠ d → H' q = some (.lst ys) → ys.Perm xs → Q (.ref q) H'
section
variable {P : Program} {w : World} {K : PySem.W.Frag} {mg : Str → Option Value} {base : Heap}
theorem sc_mixed : FnScope ["dice", "items", "left", "found", "turn"] ["dice", "items"] (defScope s_law_mixed) := ⟨rfl, rfl, rfl, by decide +kernel, rfl, by decide +kernel, by decide +kernel⟩
theorem ok_law_mixed {f : Addr} {fd : FuncData} (F : Fun K "_law_mixed" "_law_mixed" s_law_mixed f fd) (T : Txt K mg) (DR : Dfn P w K mg base "_law_roll" 1 ["dice", "total"] spRoll) : FnOk P w K mg base CX0 2 f fd ["dice", "items"] spMixed := by
  refine F.ok sc_mixed (fun vs H Q E h => ?_) (fun cdv A outer s H vs Q E hr h => ?_)
  · obtain ⟨d, l, xs, _, rfl, _⟩ := h
    rfl
  · obtain ⟨d, l, xs, hd, rfl, hl, hn, hld, k⟩ := h
    refine ⟨_, pss_cons (ps_par (i := 2) (j := 3) rfl sc_mixed.nd rfl rfl (by decide) rfl rfl (pa_cons (pe_callTy call_list_of (by rfl) T.n_list (by decide +kernel) (pa_cons (pv 1) pa_nil)) (pa_cons (pe_lst pa_nil) pa_nil)) (by rfl))
      (pss_cons (ps_for PassesOwn.never rfl (pi_range1 (by rfl) T.n_range (pa_cons (pe_callB call_len (by rfl) T.n_len (by decide +kernel) (pa_cons (pv 1) pa_nil)) pa_nil)) (pg_name (i := 4) sc_mixed.nd rfl (Or.inl rfl))
        (pss_one (ps_expr (pe_bm PySem.F.plainAttrs_list PySem.F.slot_list_append PySem.F.type_list_append mt_append (pv 3) (pa_cons
          (pe_bm PySem.F.plainAttrs_list PySem.F.slot_list_pop PySem.F.type_list_pop mt_popAt (pv 2) (pa_cons (pe_d DR hr (pa_cons (pv 0) (pa_cons (pe_callB call_len (by rfl) T.n_len (by decide +kernel) (pa_cons (pv 2) pa_nil)) pa_nil))) pa_nil)) pa_nil)))))
      (pss_one (ps_ret (pv 3)))), ?_⟩
    walk_at "rr"
    refine ⟨l, xs, rfl, .inl (SqL.of hl), fun L hL => ?_⟩
    walk_at "rr"
    refine ⟨Nat.zero_le _, fun q hq => ?_⟩
    have hLq : L ≠ q := fun e => by
      subst e
      rw [upd_same] at hq
      cases hq
    have hq0 : H q = none := by
      cases e : H q with
      | none => rfl
      | some o =>
        rw [upd_ne (Ne.symm hLq), e] at hq
        cases hq
    have hLd : L ≠ d := (Go.refl hd).at_ne hL
    have hqd : q ≠ d := (Go.refl hd).at_ne hq0
    have hlL : l ≠ L := ne_of_none hl hL
    have hlq : l ≠ q := ne_of_none hl hq0
    obtain ⟨HA, eA⟩ : ∃ X, upd (upd H L (.lst xs)) q (.lst []) = X := ⟨_, rfl⟩
    have gA : Go d H HA := by
      rw [← eA]
      exact (Go.own ((Go.refl hd).new hL) hq0 hqd)
    have hAl : HA l = some (.lst xs) := gA.keep l _ hld hl
    have hAL : HA L = some (.lst xs) := by
      rw [← eA, upd_ne hLq, upd_same]
    have hAq : HA q = some (.lst []) := by
      rw [← eA, upd_same]
    rw [eA]
    walk_at "rr"
    have hs := line1000
    refine ⟨_, xs.length, rfl, .inl ⟨_, SqL.of hAl, rfl⟩, ?_⟩
    refine ⟨_, rfl, by omega, by omega, ?_⟩
    rw [Int.toNat_natCast]
    refine for_range (lo := 0) (n := xs.length) (fun i σ H' => ∃ (v4 : Option V) (left found : List V), σ = [some (.ref d), some (.ref l), some (.ref L), some (.ref q), v4] ∧ H' L = some (.lst left) ∧ H' q = some (.lst found) ∧ (found ++ left).Perm xs ∧ found.length = i ∧ Go d H H')
      ⟨_, xs, [], rfl, hAL, hAq, List.Perm.refl _, rfl, gA⟩ ?_ ?_
    · rintro i σ H' hi ⟨v4, left, found, rfl, h1, h2, hp, hfl, gg⟩
      have hlen := hp.length_eq
      rw [List.length_append] at hlen
      walk_at "rr"
      refine ⟨.inl ⟨rfl, _, SqL.of h2⟩, ?_⟩
      walk_at "rr"
      refine ⟨.inl ⟨rfl, _, SqL.of h1⟩, ?_⟩
      walk_at "rr"
      refine ⟨_, left.length, rfl, .inl ⟨_, SqL.of h1, rfl⟩, ?_⟩
      walk_at "rr"
      refine roll_go gg.dice (by omega) (by omega) fun j H2 j0 j1 g2 => ?_
      have h1' := g2.keep L _ hLd h1
      have h2' := g2.keep q _ hqd h2
      have hj : j.toNat < left.length := by omega
      walk_at "rr"
      refine ⟨L, left, j, j.toNat, left[j.toNat], rfl, rfl, h1', by omega, by omega, seqIndex_of j0 (by omega), List.getElem?_eq_getElem hj, ?_⟩
      walk_at "rr"
      refine ⟨q, found, left[j.toNat], rfl, rfl, by rw [upd_ne hLq.symm]; exact h2', by omega, ?_⟩
      walk_at "rr"
      refine ⟨_, left.eraseIdx j.toNat, found ++ [left[j.toNat]], rfl, by rw [upd_ne hLq, upd_same], upd_same, ?_, by rw [List.length_append, hfl] <;> rfl, ?_⟩
      · refine List.Perm.trans ?_ hp
        rw [List.append_assoc]
        refine List.Perm.append_left found ?_
        exact (erase_perm left j.toNat left[j.toNat] (List.getElem?_eq_getElem hj))
      · exact ((gg.trans g2).own hL hLd).own hq0 hqd
    · rintro σ H' ⟨v4, left, found, rfl, h1, h2, hp, hfl, gg⟩
      walk_at "rr"
      have hlen := hp.length_eq
      rw [List.length_append] at hlen
      have e : left = [] := List.length_eq_zero_iff.mp (by omega)
      subst e
      rw [List.append_nil] at hp
      exact k q found H' gg hq0 hqd h2 hp
end
/-! ### lists and []; _law_is_word -/
/-- a list == [] -/
theorem op_eqNil {X : Cx} (hu : X.A.units < cLine) : OpR X (compareOp .Eq) (fun x y H Q => ∃ a b xs, x = .ref a ∧ y = .ref b ∧ SqL X.K H a xs ∧ SqL X.K H b [] ∧ Q (.bl xs.isEmpty) H) := by
  intro pins s σ H x y v u Q I rx ry h
  obtain ⟨a, b, xs, rfl, rfl, ha, hb, q⟩ := h
  cases rx
  cases ry
  obtain ⟨its, r1, p1, _⟩ := I.list ha
  obtain ⟨its2, r2, p2, _⟩ := I.list hb
  cases r2
  cases xs with
  | nil =>
    cases r1
    refine SeqAt.eq_listAt (e := fun _ => true) p1.isList p2.isList rfl hu (fun j h1 _ => absurd h1 (by simp)) ?_
    exact ⟨.bl _, H, I, rfl, q⟩
  | cons x xs =>
    cases r1
    refine SeqAt.eq_list_lengthsAt p1.isList p2.isList (by simp) hu ?_
    exact ⟨.bl _, H, I, rfl, q⟩
/-- a list != [] -/
theorem op_neNil {X : Cx} (hu : X.A.units < cLine) : OpR X (compareOp .NotEq) (fun x y H Q => ∃ a b xs, x = .ref a ∧ y = .ref b ∧ SqL X.K H a xs ∧ SqL X.K H b [] ∧ Q (.bl (!xs.isEmpty)) H) := by
  intro pins s σ H x y v u Q I rx ry h
  obtain ⟨a, b, xs, rfl, rfl, ha, hb, q⟩ := h
  cases rx
  cases ry
  obtain ⟨its, r1, p1, _⟩ := I.list ha
  obtain ⟨its2, r2, p2, _⟩ := I.list hb
  cases r2
  cases xs with
  | nil =>
    cases r1
    exact SeqAt.RcNeAt.lists (e := fun _ => true) p1.isList p2.isList rfl hu (fun j h1 _ => absurd h1 (by simp)) X.prog X.w _ _ ⟨.bl _, H, I, rfl, q⟩
  | cons x xs =>
    cases r1
    exact SeqAt.RcNeAt.lists_lengths p1.isList p2.isList (by simp) hu X.prog X.w _ _ ⟨.bl _, H, I, rfl, q⟩
structure spWord (vs : List V) (H : Hp) (Q : VK) (E : XK) : Prop where
  h : ∃ (v : V) (t : String), Kd H v t ∧ vs = [v] ∧ ∀ H', Same H H' → Q (.bl (isNameV v)) H'
theorem filt1 {α : Type} {p : α → Bool} {c : α} (h : p c = true) : [c].filter p = [c] := by simp [List.filter, h]
theorem filt0 {α : Type} {p : α → Bool} {c : α} (h : ¬ p c = true) : [c].filter p = [] := by simp [List.filter, h]
theorem filter_isEmpty {α : Type} (p : α → Bool) : ∀ l : List α, (l.filter fun c => !p c).isEmpty = l.all p
  | [] => rfl
  | c :: l => by
    rw [List.filter_cons, List.all_cons]
    cases e : p c with
    | true =>
      rw [if_neg (by decide), Bool.true_and]
      exact filter_isEmpty p l
    | false => rfl
section
variable {P : Program} {w : World} {K : PySem.W.Frag} {mg : Str → Option Value} {base : Heap}
theorem sc_is_word : FnScope ["value", "sign"] ["value"] (defScope s_law_is_word) := ⟨rfl, rfl, rfl, by decide +kernel, rfl, by decide +kernel, by decide +kernel⟩
theorem ok_law_is_word {f : Addr} {fd : FuncData} (F : Fun K "_law_is_word" "_law_is_word" s_law_is_word f fd) (T : Txt K mg) : FnOk P w K mg base CX0 1 f fd ["value"] spWord := by
  refine F.ok sc_is_word (fun vs H Q E h => ?_) (fun cdv A outer s H vs Q E hr h => ?_)
  · obtain ⟨v, t, _, rfl, _⟩ := h
    rfl
  · obtain ⟨v, t, hk, rfl, k⟩ := h
    have hu := hu_of hr
    refine ⟨_, pss_one (ps_ret (pe_and (pe_callB call_isi (by rfl) T.n_isinstance (by decide +kernel) (pa_cons (pv 0) (pa_cons (pe_bltn (v := .ty "str") (by rfl) T.n_str (by decide +kernel) rfl) pa_nil)))
      (pe_and (pe_chain op_lt op_lt pe_int (pe_callB call_len (by rfl) T.n_len (by decide +kernel) (pa_cons (pv 0) pa_nil)) pe_int)
      (pe_one (pe_cmpR (op_eqNil (Nat.lt_of_succ_lt hu)) (pe_lc (own := [("sign", 1)]) (g := gName 1) rfl sc_is_word.nd (pi_str (pv 0)) (blkOk_by (own := [("sign", 1)]) (N := ["value", "sign"]) (sc := defScope s_law_is_word) (by decide +kernel))
        (fun _ _ _ _ _ => pg_name (i := 1) sc_is_word.nd rfl (Or.inl rfl)) (fun _ _ _ _ _ => pts_one (pt_not (pt_chain op_le_str op_le_str pe_str (pv 1) pe_str))) (fun _ _ _ _ _ => pv 1)) (pe_lst pa_nil) (nomark _)))))), ?_⟩
    walk_at "rr"
    refine ⟨v, _, _, _, _, rfl, .ty _, hk.tyX, hk.isa (by decide), ?_⟩
    walk_at "rr"
    cases hk with
    | int i => exact k _ (Same.refl _)
    | bl b => exact k _ (Same.refl _)
    | non => exact k _ (Same.refl _)
    | lst e => exact k _ (Same.refl _)
    | tup e => exact k _ (Same.refl _)
    | dK e => exact k _ (Same.refl _)
    | str z hz =>
    walk_at "rr"
    have hs := line1000
    have hlen : z.cps.toList.length = z.length := Array.length_toList
    refine ⟨_, z.length, rfl, ⟨by omega, rfl⟩, ?_⟩
    walk_at "rr"
    refine ite2 (fun h1 => ?_) (fun h1 => ?_)
    · have h4 : 1 ≤ z.length := by
        have := of_decide_eq_true h1
        omega
      walk_at "rr"
      refine ite2 (fun h2 => ?_) (fun h2 => ?_)
      · have h3 : z.length ≤ 8 := by
          have := of_decide_eq_true h2
          omega
        walk_at "rr"
        refine fun D hD => lc_str (x := z) (fun i H' => Same H H' ∧ H' D = some (.lst (((z.cps.toList.take i).filter fun c => !azS ⟨#[c]⟩).map fun c => V.str ⟨#[c]⟩))) ⟨same_new hD, upd_same⟩ ?_ ?_
        · rintro i c H' hc ⟨s1, hD'⟩
          have hi : i < z.length := by rw [← hlen]; exact (List.getElem?_eq_some_iff.mp hc).1
          have hll : (((z.cps.toList.take i).filter fun c => !azS ⟨#[c]⟩).map fun c => V.str ⟨#[c]⟩).length < sizeLine := by
            rw [List.length_map]
            have a1 := List.length_filter_le (fun c => !azS ⟨#[c]⟩) (z.cps.toList.take i)
            rw [List.length_take] at a1
            omega
          refine ⟨rfl, ?_⟩
          walk_at "rr"
          have fin : ∀ b : Bool, b = azS ⟨#[c]⟩ → if (!b) = true then ∃ v, ([some (V.str z), some (V.str ⟨#[c]⟩)] : L2.St)[1]? = some (some v) ∧ ∃ acc, H' D = some (.lst acc) ∧ acc.length < sizeLine ∧ (Same H (upd H' D (.lst (acc ++ [v]))) ∧ (upd H' D (.lst (acc ++ [v]))) D = some (.lst (((z.cps.toList.take (i + 1)).filter fun c => !azS ⟨#[c]⟩).map fun c => V.str ⟨#[c]⟩)))
              else Same H H' ∧ H' D = some (.lst (((z.cps.toList.take (i + 1)).filter fun c => !azS ⟨#[c]⟩).map fun c => V.str ⟨#[c]⟩)) := fun b e => by
            subst e
            refine ite2 (fun hb => ?_) (fun hb => ?_)
            · refine ⟨_, rfl, _, hD', hll, same_own s1 hD, ?_⟩
              rw [upd_same, take_more hc, List.filter_append, List.map_append, filt1 (p := fun c => !azS ⟨#[c]⟩) hb]
              rfl
            · refine ⟨s1, ?_⟩
              rw [hD', take_more hc, List.filter_append, filt0 (p := fun c => !azS ⟨#[c]⟩) hb, List.append_nil]
          cases e : (!decide ((⟨#[c]⟩ : Str).cps.toList < ("a" : Str).cps.toList)) with
          | true =>
            walk_at "rr"
            exact fin _ (azS_t e).symm
          | false =>
            refine iteF ⟨_, rfl, ?_⟩
            exact fin _ (azS_ff e).symm
        · rintro H' ⟨s1, hD'⟩
          rw [List.take_length] at hD'
          walk_at "rr"
          refine ⟨Nat.zero_le _, fun p hp => ⟨D, p, _, rfl, rfl, SqL.of ((same_new hp) _ _ hD'), SqL.of upd_same, ?_⟩⟩
          refine q_bl (Q := Q) ?_ (k _ (s1.trans (same_new hp)))
          show _ = (decide (1 ≤ z.length) && decide (z.length ≤ 8) && z.cps.toList.all fun c => azS ⟨#[c]⟩)
          rw [decide_eq_true h4, decide_eq_true h3, Bool.true_and, Bool.true_and, List.isEmpty_map]
          exact filter_isEmpty _ _
      · refine q_bl (Q := Q) ?_ (k H (Same.refl _))
        have h3 : ¬ z.length ≤ 8 := fun h => h2 (decide_eq_true (by omega))
        show _ = (decide (1 ≤ z.length) && decide (z.length ≤ 8) && _)
        rw [decide_eq_false h3, Bool.and_false, Bool.false_and]
    · walk_at "rr"
      refine q_bl (Q := Q) ?_ (k H (Same.refl _))
      have h3 : ¬ 1 ≤ z.length := fun h => h1 (decide_eq_true (by omega))
      show false = (decide (1 ≤ z.length) && decide (z.length ≤ 8) && _)
      rw [decide_eq_false h3, Bool.false_and, Bool.false_and]
end
/-! ### _law_due -/
theorem op_notInA {X : Cx} : OpR X (compareOp .NotIn) (rNotInA X.prog X.w) := by
  intro pins s σ H x y v u Q I rx ry h
  obtain ⟨k, a, ep, kvs, hk, rfl, ha, q⟩ := h
  cases ry
  obtain ⟨hs, hl, ws, hw, hd⟩ := adK.at I ha
  refine wpAny_notIn_of (knd := anyKind X.prog X.w) (hk.is rx) hs hd.mapOf ⟨.bl _, H, I.tok _, ?_, q⟩
  show _ = Value.bool _
  rw [valueAt_some hw]
/-- a comprehension over the keys of such a dict -/
theorem lc_A {P : Program} {w : World} {d : Addr} {ep : Nat} {kvs : List (AnyK × V)} {g : TG} {tt : TT} {te : TE} {vs : List Nat} {σ : L2.St} {H1 : Hp} {D : Addr} {Qd : Hp → Prop} (Pv : Nat → Hp → Prop) (h0 : Pv 0 (upd H1 D (.lst []))) (hl : ∀ i H, i ≤ kvs.length → Pv i H → H d = some (adK P w d ep kvs))
    (hs : ∀ i k v x H, kvs[i]? = some (k, v) → KeyV k x → Pv i H → g x (wipe σ vs) H fun σ2 H2 => wipe σ2 vs = wipe σ vs ∧ tt σ2 H2 fun b H3 =>
      if b = true then te σ2 H3 fun y H4 => ∃ acc, H4 D = some (.lst acc) ∧ acc.length < sizeLine ∧ Pv (i + 1) (upd H4 D (.lst (acc ++ [y]))) else Pv (i + 1) H3) (hd : ∀ H, Pv kvs.length H → Qd H) :
    ∃ W : Nat → Nat → Hp → Prop, (∃ m, W 0 m (upd H1 D (.lst []))) ∧ ∀ i m H, W i m H →
      ((ItA P w d ep kvs).stop i H ∧ Qd H) ∨ ((ItA P w d ep kvs).go i H ∧ ∃ Nx : Hp → Prop, (∀ H', Nx H' → ∃ m', m' < m ∧ W (i + 1) m' H') ∧ ∀ x H', (ItA P w d ep kvs).yld i H x H' → g x (wipe σ vs) H' fun σ2 H2 => wipe σ2 vs = wipe σ vs ∧ tt σ2 H2 fun b H3 =>
        if b = true then te σ2 H3 fun y H4 => ∃ acc, H4 D = some (.lst acc) ∧ acc.length < sizeLine ∧ Nx (upd H4 D (.lst (acc ++ [y]))) else Nx H3) := by
  refine ⟨fun i m H => m = kvs.length - i ∧ i ≤ kvs.length ∧ Pv i H, ⟨kvs.length, by simp, Nat.zero_le _, h0⟩, ?_⟩
  rintro i m H ⟨rfl, hi, p⟩
  by_cases hlt : i < kvs.length
  · refine .inr ⟨⟨hl i H hi p, hlt⟩, Pv (i + 1), fun H' p' => ⟨kvs.length - (i + 1), by omega, rfl, hlt, p'⟩, fun v H' y => ?_⟩
    obtain ⟨e, k, u, hk, hkx⟩ := y
    subst e
    exact hs i k u v _ hk hkx p
  · have e : i = kvs.length := by omega
    subst e
    exact .inl ⟨⟨hl _ H (Nat.le_refl _) p, Nat.le_refl _⟩, hd H p⟩
/-- a comprehension that keeps what is not pk: only whether it is empty is told -/
structure PvF {α : Type} (H0 : Hp) (D : Addr) (l : List α) (pk : α → Bool) (i : Nat) (H' : Hp) : Prop where
  h : Same H0 H' ∧ ∃ acc : List V, H' D = some (.lst acc) ∧ acc.length ≤ i ∧ acc.isEmpty = (l.take i).all pk
theorem PvF.start {α : Type} {H0 : Hp} {D : Addr} {l : List α} {pk : α → Bool} (hD : H0 D = none) : PvF H0 D l pk 0 (upd H0 D (.lst [])) := ⟨same_new hD, [], upd_same, Nat.le_refl _, rfl⟩
theorem PvF.keep {α : Type} {H0 H1 H2 : Hp} {D : Addr} {l : List α} {pk : α → Bool} {i : Nat} {a : α} (h : PvF H0 D l pk i H1) (ha : l[i]? = some a) (hp : pk a = true) (S : Same H1 H2) : PvF H0 D l pk (i + 1) H2 := by
  obtain ⟨s, acc, h1, h2, h3⟩ := h
  refine ⟨s.trans S, acc, S _ _ h1, by omega, ?_⟩
  rw [take_more ha, List.all_append, ← h3, List.all_cons, hp, List.all_nil, Bool.and_true, Bool.and_true]
theorem PvF.put {α : Type} {H0 H1 H2 : Hp} {D : Addr} {l : List α} {pk : α → Bool} {i : Nat} {a : α} {y : V} (h : PvF H0 D l pk i H1) (hD : H0 D = none) (hi : l.length ≤ 1000) (ha : l[i]? = some a) (hp : pk a = false) (S : Same H1 H2) :
    ∃ acc, H2 D = some (.lst acc) ∧ acc.length < sizeLine ∧ PvF H0 D l pk (i + 1) (upd H2 D (.lst (acc ++ [y]))) := by
  obtain ⟨s, acc, h1, h2, h3⟩ := h
  have hs := line1000
  have hil : i < l.length := (List.getElem?_eq_some_iff.mp ha).1
  refine ⟨acc, S _ _ h1, by omega, same_own (s.trans S) hD, acc ++ [y], upd_same, by rw [List.length_append]; exact Nat.succ_le_succ h2, ?_⟩
  rw [take_more ha, List.all_append, List.all_cons, hp, Bool.false_and, Bool.and_false]
  cases acc <;> rfl
theorem PvF.ite {α : Type} {H0 H1 H2 : Hp} {D : Addr} {l : List α} {pk : α → Bool} {i : Nat} {a : α} {y : V} (h : PvF H0 D l pk i H1) (hD : H0 D = none) (hi : l.length ≤ 1000) (ha : l[i]? = some a) {b : Bool} (hb : b = !pk a) (S : Same H1 H2) :
    if b = true then ∃ acc, H2 D = some (.lst acc) ∧ acc.length < sizeLine ∧ PvF H0 D l pk (i + 1) (upd H2 D (.lst (acc ++ [y]))) else PvF H0 D l pk (i + 1) H2 := by
  cases hp : pk a with
  | true =>
    rw [hp] at hb
    subst hb
    exact iteF (h.keep ha hp S)
  | false =>
    rw [hp] at hb
    subst hb
    exact iteT (h.put hD hi ha hp S)
theorem PvF.iteV {α : Type} {H0 H1 H2 : Hp} {D : Addr} {l : List α} {pk : α → Bool} {i j : Nat} {a : α} {y : V} {σ : L2.St} (h : PvF H0 D l pk i H1) (hD : H0 D = none) (hi : l.length ≤ 1000) (ha : l[i]? = some a) {b : Bool} (hb : b = !pk a) (S : Same H1 H2) (hv : σ[j]? = some (some y)) :
    if b = true then tVar j σ H2 fun y H4 => ∃ acc, H4 D = some (.lst acc) ∧ acc.length < sizeLine ∧ PvF H0 D l pk (i + 1) (upd H4 D (.lst (acc ++ [y]))) else PvF H0 D l pk (i + 1) H2 := by
  have z := h.ite (y := y) hD hi ha hb S
  cases b with
  | true =>
    rw [if_pos rfl] at z
    exact iteT ⟨y, hv, z⟩
  | false =>
    rw [if_neg Bool.false_ne_true] at z
    exact iteF z
theorem PvF.done {α : Type} {H0 H1 : Hp} {D : Addr} {l : List α} {pk : α → Bool} (h : PvF H0 D l pk l.length H1) : Same H0 H1 ∧ ∃ acc : List V, H1 D = some (.lst acc) ∧ acc.isEmpty = l.all pk := by
  obtain ⟨s, acc, h1, h2, h3⟩ := h
  rw [List.take_length] at h3
  exact ⟨s, acc, h1, h3⟩
def keyIn (ss : List Str) : AnyK → Bool
  | some (.inr z) => ss.contains z
  | _ => false
theorem inV_key {ss : List Str} {k : AnyK} {x : V} (h : KeyV k x) : inV x (ss.map V.str) = keyIn ss k := by
  unfold inV
  rw [List.any_map]
  cases h with
  | non => exact List.any_eq_false.mpr fun _ _ => Bool.false_ne_true
  | int i => exact List.any_eq_false.mpr fun _ _ => Bool.false_ne_true
  | bl b => exact List.any_eq_false.mpr fun _ _ => Bool.false_ne_true
  | str z =>
    show _ = ss.contains z
    induction ss with
    | nil => rfl
    | cons a l ih =>
      rw [List.any_cons, List.contains_cons, ih]
      show (a == z || _) = (z == a || _)
      rw [Bool.beq_comm]
theorem key_flat {k : AnyK} {x : V} (h : KeyV k x) : flatV x = true := by cases h <;> rfl
theorem strs_flat (ss : List Str) : (ss.map V.str).all flatV = true := by
  rw [List.all_map]
  exact List.all_eq_true.mpr fun _ _ => rfl
def dupV (vals : List V) (v : V) : Bool := decide (1 < vals.countP fun z => eqV z v)
def dueB (ss : List Str) : Option (List (AnyK × V)) → Bool
  | none => false
  | some kvs => kvs.all (fun p => keyIn ss p.1) && ss.all (hasK kvs) && kvs.all (fun p => isNameV p.2) && ((kvs.map (·.2)).filter (dupV (kvs.map (·.2)))).isEmpty
def rIxA (P : Program) (w : World) : R2 := fun x y H Q => ∃ a ep kvs k v, x = .ref a ∧ KeyV k y ∧ H a = some (adK P w a ep kvs) ∧ valA kvs k = some v ∧ Q v H
theorem valA_nd {kvs : List (AnyK × V)} (hn : (kvs.map (·.1)).Nodup) {i : Nat} {k : AnyK} {v : V} (e : kvs[i]? = some (k, v)) : valA kvs k = some v := by
  induction kvs generalizing i with
  | nil => cases e
  | cons p l ih =>
    obtain ⟨n1, n2⟩ := List.nodup_cons.mp hn
    unfold valA
    rw [List.find?_cons]
    cases i with
    | zero =>
      cases e
      rw [decide_eq_true (show k = k from rfl)]
      rfl
    | succ j =>
      have hm : (k, v) ∈ l := List.mem_of_getElem? (i := j) e
      have hne : ¬ p.1 = k := fun z => n1 (List.mem_map.mpr ⟨(k, v), hm, z.symm⟩)
      rw [decide_eq_false hne]
      exact ih n2 e
structure spDue (P : Program) (w : World) (vs : List V) (H : Hp) (Q : VK) (E : XK) : Prop where
  h : ∃ (a : Addr) (ss : List Str) (v : V) (o : Option (List (AnyK × V))), vs = [.ref a, v] ∧ H a = some (.tup (ss.map V.str)) ∧ ss.length ≤ 1000 ∧ Vd P w H v o ∧ ∀ H', Same H H' → Q (.bl (dueB ss o)) H'
section
variable {P : Program} {w : World} {K : PySem.W.Frag} {mg : Str → Option Value} {base : Heap}
theorem sc_due : FnScope ["names", "value", "one", "images"] ["names", "value"] (defScope s_law_due) := ⟨rfl, rfl, rfl, by decide +kernel, rfl, by decide +kernel, by decide +kernel⟩
theorem ok_law_due {f : Addr} {fd : FuncData} (F : Fun K "_law_due" "_law_due" s_law_due f fd) (T : Txt K mg) (DW : Dfn P w K mg base "_law_is_word" 1 ["value"] spWord) : FnOk P w K mg base CX0 2 f fd ["names", "value"] (spDue P w) := by
  refine F.ok sc_due (fun vs H Q E h => ?_) (fun cdv A outer s H vs Q E hr h => ?_)
  · obtain ⟨a, ss, v, o, rfl, _⟩ := h
    rfl
  · obtain ⟨a, ss, v, o, rfl, ha, hl, hv, k⟩ := h
    have hu := Nat.lt_of_succ_lt (hu_of hr)
    refine ⟨_, pss_cons (ps_if (PW.pt (pw_or (pt_not (pt_val (pe_callB call_isiX (by rfl) T.n_isinstance (by decide +kernel) (pa_cons (pv 1) (pa_cons (pe_bltn (v := .ty "dict") (by rfl) T.n_dict (by decide +kernel) rfl) pa_nil)))))
          (pw_or1 (pt_cmpR (op_neNil hu) (pe_lc (own := [("one", 2)]) (g := gName 2) rfl sc_due.nd (pi_keysA (pv 1)) (blkOk_by (own := [("one", 2)]) (N := ["names", "value", "one", "images"]) (sc := defScope s_law_due) (by decide +kernel))
            (fun _ _ _ _ _ => pg_name (i := 2) sc_due.nd rfl (Or.inl rfl)) (fun _ _ _ _ _ => pts_one (pt_cmpR (show OpR _ _ (rIn K true) from op_notIn_seq) (pv 2) (pv 0) (by rfl))) (fun _ _ _ _ _ => pv 2)) (pe_lst pa_nil) (nomark _))))) (pss_one (ps_ret pe_bl)) pss_nil)
      (pss_cons (ps_if (PW.pt (pw_or (pt_cmpR (op_neNil hu) (pe_lc (own := [("one", 2)]) (g := gName 2) rfl sc_due.nd (pi_tup (pv 0)) (blkOk_by (own := [("one", 2)]) (N := ["names", "value", "one", "images"]) (sc := defScope s_law_due) (by decide +kernel))
            (fun _ _ _ _ _ => pg_name (i := 2) sc_due.nd rfl (Or.inl rfl)) (fun _ _ _ _ _ => pts_one (pt_cmpR (show OpR _ _ (rNotInA P w) from op_notInA) (pv 2) (pv 1) (by rfl))) (fun _ _ _ _ _ => pv 2)) (pe_lst pa_nil) (nomark _))
          (pw_or1 (pt_cmpR (op_neNil hu) (pe_lc (own := [("one", 2)]) (g := gName 2) rfl sc_due.nd (pi_keysA (pv 1)) (blkOk_by (own := [("one", 2)]) (N := ["names", "value", "one", "images"]) (sc := defScope s_law_due) (by decide +kernel))
            (fun _ _ _ _ _ => pg_name (i := 2) sc_due.nd rfl (Or.inl rfl)) (fun _ _ _ _ _ => pts_one (pt_not (pt_val (pe_d DW hr (pa_cons (pe_ix (show IxR _ (rIxA P w) from ix_A) (pv 1) (pv 2) (fun _ _ => rfl)) pa_nil))))) (fun _ _ _ _ _ => pv 2)) (pe_lst pa_nil) (nomark _))))) (pss_one (ps_ret pe_bl)) pss_nil)
      (pss_cons (ps_set (i := 3) sc_due.nd rfl (Or.inr rfl) (pe_lc (own := [("one", 2)]) (g := gName 2) (tt := tYes) rfl sc_due.nd (pi_keysA (pv 1)) (blkOk_by (own := [("one", 2)]) (N := ["names", "value", "one", "images"]) (sc := defScope s_law_due) (by decide +kernel))
            (fun _ _ _ _ _ => pg_name (i := 2) sc_due.nd rfl (Or.inl rfl)) (fun _ _ _ _ _ => pts_nil) (fun _ _ _ _ _ => pe_ix (show IxR _ (rIxA P w) from ix_A) (pv 1) (pv 2) (fun _ _ => rfl))))
      (pss_one (ps_ret (pe_cmpR (op_eqNil hu) (pe_lc (own := [("one", 2)]) (g := gName 2) rfl sc_due.nd (pi_list (pv 3)) (blkOk_by (own := [("one", 2)]) (N := ["names", "value", "one", "images"]) (sc := defScope s_law_due) (by decide +kernel))
            (fun _ _ _ _ _ => pg_name (i := 2) sc_due.nd rfl (Or.inl rfl)) (fun _ _ _ _ _ => pts_one (pt_cmpR op_gt (show PE _ _ (tBM K "list" (rCntV K) (tVar 3) (tCons (tVar 2) tNil)) from pe_bm PySem.F.plainAttrs_list PySem.F.slot_list_count PySem.F.type_list_count mt_countV (pv 3) (pa_cons (pv 2) pa_nil)) pe_int (nomark _))) (fun _ _ _ _ _ => pv 2)) (pe_lst pa_nil) (nomark _)))))), ?_⟩
    walk_at "rr"
    cases hv with
    | @kd v t h ht =>
      refine .inl ⟨v, _, _, _, _, rfl, .ty _, h.tyX, h.isa (by decide), ?_⟩
      have e : isa t "dict" = false := by
        cases h <;> first | rfl | exact absurd rfl ht
      rw [e]
      walk_at "rr"
      exact iteT (iteT (k _ (Same.refl _)))
    | @ad b ep kvs e hl2 hk hnd =>
      refine .inr ⟨b, ep, kvs, rfl, e, ?_⟩
      walk_at "rr"
      refine ⟨b, ep, kvs, rfl, e, fun D hD => lc_A (PvF H D kvs fun p => keyIn ss p.1) (.start hD) (fun i H' _ p => p.h.1 _ _ e) ?_ ?_⟩
      · rintro i ky vl x H' hi hx p
        refine ⟨rfl, ?_⟩
        walk_at "rr"
        refine ⟨a, _, rfl, .inr (SqT.of (p.h.1 _ _ ha)), key_flat hx, strs_flat ss, ?_⟩
        rw [inV_key hx]
        walk_at "rr"
        exact p.iteV hD hl2 hi rfl (Same.refl _) rfl
      · rintro H1 p
        obtain ⟨S1, acc, hD1, eA⟩ := p.done
        walk_at "rr"
        refine ⟨Nat.zero_le _, fun q hq => ⟨D, q, _, rfl, rfl, SqL.of ((same_new hq) _ _ hD1), SqL.of upd_same, ?_⟩⟩
        rw [eA]
        have S2 := S1.trans (same_new (o := .lst []) hq)
        obtain ⟨H2, e2⟩ : ∃ X, upd H1 q (.lst []) = X := ⟨_, rfl⟩
        rw [e2] at S2
        rw [e2]
        clear hD1 hq e2
        walk_at "rr"
        refine ite2 (fun h1 => ?_) (fun h1 => ?_)
        · refine q_bl (Q := Q) ?_ (k _ S2)
          have h2 : (kvs.all fun p => keyIn ss p.1) = false := by simpa using h1
          show false = ((kvs.all fun p => keyIn ss p.1) && ss.all (hasK kvs) && kvs.all (fun p => isNameV p.2) && ((kvs.map (·.2)).filter (dupV (kvs.map (·.2)))).isEmpty)
          rw [h2, Bool.false_and, Bool.false_and, Bool.false_and]
        have hA : (kvs.all fun p => keyIn ss p.1) = true := by simpa using h1
        walk_at "rr"
        refine ⟨⟨_, SqT.of (S2 _ _ ha)⟩, fun D hD => lc_tup (K := K) (a := a) (xs := ss.map V.str) (PvF H2 D ss (hasK kvs)) (.start hD) (fun i H' _ p => SqT.of (p.h.1 _ _ (S2 _ _ ha))) ?_ ?_⟩
        · rintro i x H' hi p
          obtain ⟨z, hz, rfl⟩ : ∃ z, ss[i]? = some z ∧ x = V.str z := by
            rw [List.getElem?_map] at hi
            cases hz : ss[i]? with
            | none => rw [hz] at hi; cases hi
            | some z => rw [hz] at hi; cases hi; exact ⟨z, rfl, rfl⟩
          refine ⟨rfl, ?_⟩
          walk_at "rr"
          refine ⟨_, b, ep, kvs, .str z, rfl, p.h.1 _ _ (S2 _ _ e), ?_⟩
          walk_at "rr"
          exact p.iteV hD hl hz rfl (Same.refl _) rfl
        · rintro H3 p
          rw [List.length_map] at p
          obtain ⟨S3, acc, hD1, eA⟩ := p.done
          walk_at "rr"
          refine ⟨Nat.zero_le _, fun q hq => ⟨D, q, _, rfl, rfl, SqL.of ((same_new hq) _ _ hD1), SqL.of upd_same, ?_⟩⟩
          rw [eA]
          have S4 := (S2.trans S3).trans (same_new (o := .lst []) hq)
          obtain ⟨H4, e4⟩ : ∃ X, upd H3 q (.lst []) = X := ⟨_, rfl⟩
          rw [e4] at S4
          rw [e4]
          clear hD1 hq e4
          walk_at "rr"
          refine ite2 (fun h2 => ?_) (fun h2 => ?_)
          · walk_at "rr"
            refine q_bl (Q := Q) ?_ (k _ S4)
            have h3 : ss.all (hasK kvs) = false := by simpa using h2
            show false = ((kvs.all fun p => keyIn ss p.1) && ss.all (hasK kvs) && kvs.all (fun p => isNameV p.2) && ((kvs.map (·.2)).filter (dupV (kvs.map (·.2)))).isEmpty)
            rw [h3, Bool.and_false, Bool.false_and, Bool.false_and]
          have hB : ss.all (hasK kvs) = true := by simpa using h2
          walk_at "rr"
          refine ⟨b, ep, kvs, rfl, S4 _ _ e, fun D hD => lc_A (PvF H4 D kvs fun p => isNameV p.2) (.start hD) (fun i H' _ p => p.h.1 _ _ (S4 _ _ e)) ?_ ?_⟩
          · rintro i ky vl x H' hi hx p
            refine ⟨rfl, ?_⟩
            walk_at "rr"
            obtain ⟨t, ht⟩ := hk (ky, vl) (List.mem_of_getElem? hi)
            refine ⟨b, ep, kvs, ky, vl, rfl, hx, p.h.1 _ _ (S4 _ _ e), valA_nd hnd hi, ?_⟩
            walk_at "rr"
            refine ⟨vl, t, (ht.same S4).same p.h.1, rfl, fun H5 S5 => ?_⟩
            walk_at "rr"
            exact p.iteV hD hl2 hi rfl S5 rfl
          · rintro H5 p
            obtain ⟨S5, acc, hD1, eA⟩ := p.done
            walk_at "rr"
            refine ⟨Nat.zero_le _, fun q hq => ⟨D, q, _, rfl, rfl, SqL.of ((same_new hq) _ _ hD1), SqL.of upd_same, ?_⟩⟩
            rw [eA]
            have S6 := (S4.trans S5).trans (same_new (o := .lst []) hq)
            obtain ⟨H6, e6⟩ : ∃ X, upd H5 q (.lst []) = X := ⟨_, rfl⟩
            rw [e6] at S6
            rw [e6]
            clear hD1 hq e6
            walk_at "rr"
            refine ite2 (fun h3 => ?_) (fun h3 => ?_)
            · refine q_bl (Q := Q) ?_ (k _ S6)
              have h4 : (kvs.all fun p => isNameV p.2) = false := by simpa using h3
              show false = ((kvs.all fun p => keyIn ss p.1) && ss.all (hasK kvs) && kvs.all (fun p => isNameV p.2) && ((kvs.map (·.2)).filter (dupV (kvs.map (·.2)))).isEmpty)
              rw [h4, Bool.and_false, Bool.false_and]
            have hC : (kvs.all fun p => isNameV p.2) = true := by simpa using h3
            walk_at "rr"
            refine ⟨b, ep, kvs, rfl, S6 _ _ e, fun D hD => lc_A (fun i H' => Same H6 H' ∧ H' D = some (.lst ((kvs.take i).map (·.2)))) ⟨same_new hD, upd_same⟩ (fun i H' _ p => p.1 _ _ (S6 _ _ e)) ?_ ?_⟩
            · rintro i ky vl x H' hi hx ⟨s1, h1⟩
              refine ⟨rfl, ?_⟩
              walk_at "rr"
              refine ⟨b, ep, kvs, ky, vl, rfl, hx, s1 _ _ (S6 _ _ e), valA_nd hnd hi, ?_⟩
              have hs := line1000
              refine ⟨_, h1, ?_, same_own s1 hD, ?_⟩
              · rw [List.length_map, List.length_take]
                omega
              · rw [upd_same, take_more hi, List.map_append]
                rfl
            · rintro H7 ⟨S7, h7⟩
              rw [List.take_length] at h7
              obtain ⟨vals, ev⟩ : ∃ X, kvs.map (·.2) = X := ⟨_, rfl⟩
              have hvl : vals.length ≤ 1000 := by
                rw [← ev, List.length_map]
                exact hl2
              have hvn : vals.all isNameV = true := by
                rw [← ev, List.all_map]
                exact hC
              obtain ⟨zs, ez⟩ := names_strs hvn
              rw [ev] at h7
              walk_at "rr"
              refine ⟨⟨_, SqL.of h7⟩, fun D2 hD2 => lc_list (K := K) (a := D) (xs := vals) (PvF H7 D2 vals fun v => !dupV vals v) (.start hD2) (fun i H' _ p => SqL.of (p.h.1 _ _ h7)) ?_ ?_⟩
              · rintro i x H' hi p
                refine ⟨rfl, ?_⟩
                have hf : vals.all flatV = true := by
                  rw [ez]
                  exact strs_flat zs
                walk_at "rr"
                refine ⟨.inl ⟨rfl, _, SqL.of (p.h.1 _ _ h7)⟩, ?_⟩
                walk_at "rr"
                refine ⟨D, vals, x, rfl, rfl, SqL.of (p.h.1 _ _ h7), List.all_eq_true.mp hf _ (List.mem_of_getElem? hi), hf, ?_⟩
                walk_at "rr"
                refine p.iteV hD2 hvl hi ?_ (Same.refl _) rfl
                show decide ((1 : Int) < ((vals.countP fun z => eqV z x : Nat) : Int)) = !!decide (1 < vals.countP fun z => eqV z x)
                rw [Bool.not_not]
                refine decide_eq_decide.mpr ?_
                omega
              · rintro H8 p
                obtain ⟨S8, acc, hD1, eA⟩ := p.done
                walk_at "rr"
                refine ⟨Nat.zero_le _, fun q hq => ⟨D2, q, _, rfl, rfl, SqL.of ((same_new hq) _ _ hD1), SqL.of upd_same, ?_⟩⟩
                refine q_bl (Q := Q) ?_ (k _ (((S6.trans S7).trans S8).trans (same_new hq)))
                show _ = ((kvs.all fun p => keyIn ss p.1) && ss.all (hasK kvs) && kvs.all (fun p => isNameV p.2) && ((kvs.map (·.2)).filter (dupV (kvs.map (·.2)))).isEmpty)
                rw [eA, hA, hB, hC, ev, Bool.true_and, Bool.true_and, Bool.true_and, ← filter_isEmpty]
                congr 1
                congr 1
                funext c
                rw [Bool.not_not]
end
/-! ### both answers are the same -/
theorem sub_len {α : Type} [DecidableEq α] : ∀ (l ss : List α), l.Nodup → (∀ x ∈ l, x ∈ ss) → l.length ≤ ss.length
  | [], ss, _, _ => Nat.zero_le _
  | x :: l, ss, nd, sub => by
    obtain ⟨n1, n2⟩ := List.nodup_cons.mp nd
    have hx : x ∈ ss := sub x List.mem_cons_self
    have p := (List.perm_cons_erase hx).length_eq
    have := sub_len l (ss.erase x) n2 (fun y hy => (List.mem_erase_of_ne (by rintro rfl; exact n1 hy)).mpr (sub y (List.mem_cons_of_mem _ hy)))
    rw [List.length_cons] at p
    rw [List.length_cons]
    omega
theorem sub_back {α : Type} [DecidableEq α] {l ss : List α} (nd : l.Nodup) (ns : ss.Nodup) (sub : ∀ x ∈ l, x ∈ ss) (e : l.length = ss.length) : ∀ x ∈ ss, x ∈ l := by
  intro x hx
  by_cases hxl : x ∈ l
  · exact hxl
  · have h := sub_len (x :: l) ss (List.nodup_cons.mpr ⟨hxl, nd⟩) (fun y hy => by
      rcases List.mem_cons.mp hy with rfl | hy
      · exact hx
      · exact sub y hy)
    rw [List.length_cons] at h
    omega
def kz (z : Str) : AnyK := some (.inr z)
theorem kz_nd {zs : List Str} (h : zs.Nodup) : (zs.map kz).Nodup := by
  unfold List.Nodup at *
  rw [List.pairwise_map]
  exact h.imp fun hne e => hne (Sum.inr.inj (Option.some.inj e))
theorem hasK_mem {kvs : List (AnyK × V)} {z : Str} : hasK kvs z = true ↔ kz z ∈ kvs.map (·.1) := by
  unfold hasK
  rw [List.any_eq_true]
  constructor
  · rintro ⟨p, hp, e⟩
    exact List.mem_map.mpr ⟨p, hp, of_decide_eq_true e⟩
  · intro h
    obtain ⟨p, hp, e⟩ := List.mem_map.mp h
    exact ⟨p, hp, decide_eq_true e⟩
theorem keyIn_mem {ss : List Str} {k : AnyK} : keyIn ss k = true ↔ k ∈ (ZS.nub ss).map kz := by
  constructor
  · intro h
    match k, h with
    | some (.inr z), h =>
      have h : ss.contains z = true := h
      exact List.mem_map.mpr ⟨z, (ZS.nub_mem ss z).mpr (List.contains_iff_mem.mp h), rfl⟩
  · intro h
    obtain ⟨z, hz, rfl⟩ := List.mem_map.mp h
    exact List.contains_iff_mem.mpr ((ZS.nub_mem ss z).mp hz)
theorem keys_same {ss : List Str} {kvs : List (AnyK × V)} (hn : (kvs.map (·.1)).Nodup) (hB : ss.all (hasK kvs) = true) : (kvs.all fun p => keyIn ss p.1) = decide (kvs.length = (ZS.nub ss).length) := by
  have h1 : ∀ x ∈ (ZS.nub ss).map kz, x ∈ kvs.map (·.1) := fun x hx => by
    obtain ⟨z, hz, rfl⟩ := List.mem_map.mp hx
    exact hasK_mem.mp (List.all_eq_true.mp hB z ((ZS.nub_mem ss z).mp hz))
  have n1 := kz_nd (ZS.nub_nodup ss)
  rw [Bool.eq_iff_iff, List.all_eq_true, decide_eq_true_iff]
  constructor
  · intro h
    have h2 : ∀ x ∈ kvs.map (·.1), x ∈ (ZS.nub ss).map kz := fun x hx => by
      obtain ⟨p, hp, rfl⟩ := List.mem_map.mp hx
      exact keyIn_mem.mp (h p hp)
    have a := sub_len _ _ n1 h1
    have b := sub_len _ _ hn h2
    rw [List.length_map, List.length_map] at a b
    omega
  · intro h p hp
    refine keyIn_mem.mpr (sub_back n1 hn h1 (by rw [List.length_map, List.length_map]; exact h.symm) _ (List.mem_map.mpr ⟨p, hp, rfl⟩))
theorem count_strs (z : Str) : ∀ zs : List Str, (zs.map V.str).countP (fun y => eqV y (.str z)) = zs.count z
  | [] => rfl
  | a :: l => by
    rw [List.map_cons, List.countP_cons, count_strs z l, List.count_cons]
    rfl
theorem dups_same (zs : List Str) : ((zs.map V.str).filter (dupV (zs.map V.str))).isEmpty = decide (zs.map V.str).Nodup := by
  rw [Bool.eq_iff_iff, decide_eq_true_iff, nodup_map_str, List.nodup_iff_count]
  rw [List.isEmpty_iff, List.filter_eq_nil_iff]
  constructor
  · intro h a
    by_cases ha : a ∈ zs
    · have := h (.str a) (List.mem_map.mpr ⟨a, ha, rfl⟩)
      unfold dupV at this
      rw [count_strs, decide_eq_true_iff] at this
      omega
    · rw [List.count_eq_zero_of_not_mem ha]
      omega
  · intro h v hv
    obtain ⟨a, ha, rfl⟩ := List.mem_map.mp hv
    unfold dupV
    rw [count_strs, decide_eq_true_iff]
    have := h a
    omega
theorem same_answer {ss : List Str} {kvs : List (AnyK × V)} (hn : (kvs.map (·.1)).Nodup) : namB ss (some kvs) = dueB ss (some kvs) := by
  show (decide (kvs.length = (ZS.nub ss).length) && ss.all (hasK kvs) && diffB (kvs.map (·.2))) = ((kvs.all fun p => keyIn ss p.1) && ss.all (hasK kvs) && kvs.all (fun p => isNameV p.2) && ((kvs.map (·.2)).filter (dupV (kvs.map (·.2)))).isEmpty)
  cases hB : ss.all (hasK kvs) with
  | false => rw [Bool.and_false, Bool.and_false, Bool.false_and, Bool.false_and, Bool.false_and]
  | true =>
    rw [keys_same hn hB, Bool.and_true]
    unfold diffB
    rw [List.all_map]
    cases hC : kvs.all (fun p => isNameV p.2) with
    | false =>
      rw [show kvs.all (isNameV ∘ fun p => p.2) = false from hC, Bool.false_and, Bool.and_false]
      rfl
    | true =>
      rw [show kvs.all (isNameV ∘ fun p => p.2) = true from hC, Bool.true_and, Bool.and_true]
      obtain ⟨zs, ez⟩ := names_strs (xs := kvs.map (·.2)) (by rw [List.all_map]; exact hC)
      rw [ez, dups_same]
theorem vd_same {P : Program} {w : World} {H : Hp} {v : V} {ss : List Str} {o : Option (List (AnyK × V))} (h : Vd P w H v o) : namB ss o = dueB ss o := by
  cases h with
  | kd _ _ => rfl
  | ad _ _ _ hn => exact same_answer hn
/-! ### dicts made out of pairs; what stays when dice roll -/
theorem cutV_drop (xs : List V) (m : Nat) : cutV xs (some (m : Int)) none = xs.drop m := by
  unfold cutV
  rw [HT.sIx_nat, HT.sIx_none]
  by_cases h : m ≤ xs.length
  · rw [Nat.min_eq_left h]
    exact List.take_of_length_le (by rw [List.length_drop]; exact Nat.le_refl _)
  · rw [Nat.min_eq_right (by omega), Nat.sub_self, List.take_zero, List.drop_eq_nil_of_le (by omega)]
theorem Kd.go {d : Addr} {H H' : Hp} {v : V} {t : String} (h : Kd H v t) (hne : ∀ a, v = .ref a → a ≠ d) (g : Go d H H') : Kd H' v t := by
  cases h with
  | non => exact .non
  | bl b => exact .bl b
  | int i => exact .int i
  | str z h => exact .str z h
  | lst q => exact .lst (g.keep _ _ (hne _ rfl) q)
  | tup q => exact .tup (g.keep _ _ (hne _ rfl) q)
  | dK q => exact .dK (g.keep _ _ (hne _ rfl) q)
theorem dice_lst {H : Hp} {d a : Addr} {o : HO} (hd : Dice H d) (h : H a = some o) (hn : ∀ x y z : Int, o ≠ .lst [.int x, .int y, .int z]) : a ≠ d := fun e => by
  obtain ⟨x, y, z, q⟩ := hd
  subst e
  rw [h] at q
  exact hn x y z (Option.some.inj q)
theorem storedA_keys (acc : List (AnyK × V)) (k : AnyK) (v : V) (h : (acc.map (·.1)).Nodup) : ((storedA acc k v).map (·.1)).Nodup := by
  unfold storedA
  split
  · have e : (acc.map fun kv => if kv.1 = k then (kv.1, v) else kv).map (·.1) = acc.map (·.1) := by
      rw [List.map_map]
      refine List.map_congr_left fun p _ => ?_
      show (if p.1 = k then (p.1, v) else p).1 = p.1
      split <;> rfl
    rw [e]
    exact h
  · rename_i hn
    rw [List.map_append, List.nodup_append]
    refine ⟨h, List.nodup_cons.mpr ⟨by simp, List.nodup_nil⟩, fun a ha b hb e => ?_⟩
    subst e
    rcases List.mem_cons.mp hb with rfl | hb
    · obtain ⟨p, hp, e⟩ := List.mem_map.mp ha
      exact hn (List.any_eq_true.mpr ⟨p, hp, decide_eq_true e⟩)
    · cases hb
theorem mergedA_keys : ∀ (more acc : List (AnyK × V)), (acc.map (·.1)).Nodup → ((mergedA acc more).map (·.1)).Nodup
  | [], acc, h => h
  | (k, v) :: more, acc, h => mergedA_keys more (storedA acc k v) (storedA_keys acc k v h)
theorem storedA_vals {acc : List (AnyK × V)} {k : AnyK} {v : V} {R : V → Prop} (h : ∀ p ∈ acc, R p.2) (hv : R v) : ∀ p ∈ storedA acc k v, R p.2 := by
  unfold storedA
  intro p hp
  split at hp
  · obtain ⟨q, hq, rfl⟩ := List.mem_map.mp hp
    split
    · exact hv
    · exact h q hq
  · rcases List.mem_append.mp hp with hp | hp
    · exact h p hp
    · rcases List.mem_cons.mp hp with rfl | hp
      · exact hv
      · cases hp
theorem mergedA_vals {R : V → Prop} : ∀ {more acc : List (AnyK × V)}, (∀ p ∈ acc, R p.2) → (∀ p ∈ more, R p.2) → ∀ p ∈ mergedA acc more, R p.2
  | [], acc, h, _ => h
  | (k, v) :: more, acc, h, hm => mergedA_vals (more := more) (storedA_vals h (hm _ List.mem_cons_self)) fun p hp => hm p (List.mem_cons_of_mem _ hp)
/-- the dict of these pairs is one to ask about -/
theorem Vd.made {P : Program} {w : World} {H : Hp} {p : Addr} {ep : Nat} {kvs : List (AnyK × V)} (h : H p = some (adK P w p ep (mergedA [] kvs))) (hl : kvs.length ≤ 1000) (hk : ∀ q ∈ kvs, ∃ t, Kd H q.2 t) : Vd P w H (.ref p) (some (mergedA [] kvs)) := by
  refine .ad h ?_ (mergedA_vals (R := fun v => ∃ t, Kd H v t) (fun _ z => nomatch z) hk) (mergedA_keys kvs [] List.nodup_nil)
  have := mergedA_len kvs []
  rw [List.length_nil] at this
  omega
theorem paired_imp {α β : Type} {R S : α → β → Prop} (h : ∀ a b, R a b → S a b) : ∀ {xs : List α} {ys : List β}, Paired R xs ys → Paired S xs ys
  | _, _, .nil => .nil
  | _, _, .cons a r => .cons (h _ _ a) (paired_imp h r)
theorem paired_drop {α β : Type} {R : α → β → Prop} : ∀ {xs : List α} {ys : List β} (n : Nat), Paired R xs ys → Paired R (xs.drop n) (ys.drop n)
  | _, _, _, .nil => by rw [List.drop_nil, List.drop_nil]; exact .nil
  | _, _, 0, .cons a r => .cons a r
  | _, _, n + 1, .cons a r => paired_drop n r
theorem paired_app {α β : Type} {R : α → β → Prop} : ∀ {xs xs' : List α} {ys ys' : List β}, Paired R xs ys → Paired R xs' ys' → Paired R (xs ++ xs') (ys ++ ys')
  | _, _, _, _, .nil, h => h
  | _, _, _, _, .cons a r, h => .cons a (paired_app r h)
theorem paired_get {α β : Type} {R : α → β → Prop} : ∀ {xs : List α} {ys : List β} {i : Nat} {y : β}, Paired R xs ys → ys[i]? = some y → ∃ x, xs[i]? = some x ∧ R x y
  | _, _, 0, _, .cons a r, h => by cases h; exact ⟨_, rfl, a⟩
  | _, _, n + 1, _, .cons a r, h => paired_get (i := n) r h
/-- the pair kv stands at p -/
def Pr (H : Hp) (p : Addr) (kv : AnyK × V) : Prop := ∃ x, KeyV kv.1 x ∧ H p = some (.tup [x, kv.2])
theorem Pr.same {H H' : Hp} {p : Addr} {kv : AnyK × V} (h : Pr H p kv) (S : Same H H') : Pr H' p kv := let ⟨x, h1, h2⟩ := h; ⟨x, h1, S _ _ h2⟩
theorem Pr.upd {H : Hp} {p D : Addr} {kv : AnyK × V} {xs : List V} {o : HO} (h : Pr H p kv) (hD : H D = some (.lst xs)) : Pr (L2.upd H D o) p kv := by
  obtain ⟨x, h1, h2⟩ := h
  refine ⟨x, h1, ?_⟩
  rw [upd_ne ?_]
  · exact h2
  · intro e
    subst e
    rw [h2] at hD
    cases hD
abbrev Prs (H : Hp) (ps : List Addr) (kvs : List (AnyK × V)) : Prop := Paired (Pr H) ps kvs
theorem Prs.same {H H' : Hp} {ps : List Addr} {kvs : List (AnyK × V)} (h : Prs H ps kvs) (S : Same H H') : Prs H' ps kvs := paired_imp (fun _ _ r => r.same S) h
theorem Prs.sq {K : PySem.W.Frag} {H : Hp} {ps : List Addr} {kvs : List (AnyK × V)} (h : Prs H ps kvs) : Paired (fun p kv => ∃ x, KeyV kv.1 x ∧ SqT K H p [x, kv.2]) ps kvs := paired_imp (fun _ _ ⟨x, h1, h2⟩ => ⟨x, h1, SqT.of h2⟩) h
structure spBent (P : Program) (w : World) (vs : List V) (H : Hp) (Q : VK) (E : XK) : Prop where
  h : ∃ (d a b : Addr) (ep : Nat) (ss : List Str) (kvs : List (AnyK × V)), vs = [.ref d, .ref a, .ref b] ∧ Dice H d ∧ H a = some (.tup (ss.map V.str)) ∧ H b = some (adK P w b ep kvs) ∧ kvs.length ≤ 100 ∧ (∀ p ∈ kvs, ∃ z u : Str, p = (kz z, V.str u) ∧ u.length ≤ 1000) ∧ (kvs.map (·.1)).Nodup ∧
    ∀ (v : V) (o : Option (List (AnyK × V))) (H' : Hp), Go d H H' → Vd P w H' v o → Q v H'
theorem cut1 (ps : List Addr) : cutV (ps.map V.ref) (some 1) none = (ps.drop 1).map V.ref := by
  rw [List.map_drop]
  exact cutV_drop _ 1
theorem cut2 (ps : List Addr) : cutV (ps.map V.ref) (some 2) none = (ps.drop 2).map V.ref := by
  rw [List.map_drop]
  exact cutV_drop _ 2
theorem or8 {j : Int} {G : Prop} (h0 : 0 ≤ j) (h1 : j < 8) (c0 : j = 0 → G) (c1 : j = 1 → G) (c2 : j = 2 → G) (c3 : j = 3 → G) (c4 : j = 4 → G) (c5 : j = 5 → G) (c6 : j = 6 → G) (c7 : j = 7 → G) : G := by
  have : j = 0 ∨ j = 1 ∨ j = 2 ∨ j = 3 ∨ j = 4 ∨ j = 5 ∨ j = 6 ∨ j = 7 := by omega
  rcases this with e | e | e | e | e | e | e | e
  · exact c0 e
  · exact c1 e
  · exact c2 e
  · exact c3 e
  · exact c4 e
  · exact c5 e
  · exact c6 e
  · exact c7 e
theorem lcase {α : Type} {l : List α} {G : Prop} (h0 : l = [] → G) (h1 : ∀ a r, l = a :: r → G) : G := by
  cases l with
  | nil => exact h0 rfl
  | cons a r => exact h1 a r rfl
theorem same_cat {ps : List Addr} {q : Addr} : ps.map V.ref ++ [V.ref q] = (ps ++ [q]).map V.ref := by
  rw [List.map_append]
  rfl
theorem Prs.go {d : Addr} {H H' : Hp} {ps : List Addr} {kvs : List (AnyK × V)} (h : Prs H ps kvs) (hd : Dice H d) (g : Go d H H') : Prs H' ps kvs :=
  paired_imp (fun _ _ ⟨x, h1, h2⟩ => ⟨x, h1, g.keep _ _ (dice_lst hd h2 fun _ _ _ e => nomatch e) h2⟩) h
theorem two_of {ps : List Addr} (h : 1 < ps.length) : ∃ a b r, ps = a :: b :: r := by
  match ps, h with
  | a :: b :: r, _ => exact ⟨a, b, r, rfl⟩
section
variable {P : Program} {w : World} {K : PySem.W.Frag} {mg : Str → Option Value} {base : Heap}
theorem sc_bent : FnScope ["dice", "names", "value", "way", "odd", "one", "items"] ["dice", "names", "value"] (defScope s_law_bent) := ⟨rfl, rfl, rfl, by decide +kernel, rfl, by decide +kernel, by decide +kernel⟩
theorem ok_law_bent {f : Addr} {fd : FuncData} (F : Fun K "_law_bent" "_law_bent" s_law_bent f fd) (T : Txt K mg) (DR : Dfn P w K mg base "_law_roll" 1 ["dice", "total"] spRoll) (DP : Dfn P w K mg base "_law_pick" 2 ["dice", "items"] spPick) : FnOk P w K mg base CX0 3 f fd ["dice", "names", "value"] (spBent P w) := by
  refine F.ok sc_bent (fun vs H Q E h => ?_) (fun cdv A outer s H vs Q E hr h => ?_)
  · obtain ⟨d, a, b, ep, ss, kvs, rfl, _⟩ := h
    rfl
  · obtain ⟨d, a, b, ep, ss, kvs, rfl, hd, ha, hb, hl, hk, hn, k⟩ := h
    have hu := Nat.lt_of_succ_lt (hu_of hr)
    have hr1 := hr.mono (by decide : 1 ≤ 2)
    refine ⟨_, pss_cons (ps_par (i := 3) (j := 4) rfl sc_bent.nd rfl rfl (by decide) rfl rfl (pa_cons (pe_d DR hr1 (pa_cons (pv 0) (pa_cons pe_int pa_nil)))
          (pa_cons (pe_d DP hr (pa_cons (pv 0) (pa_cons (pe_lst (pa_cons pe_str (pa_cons pe_str (pa_cons pe_non (pa_cons pe_int (pa_cons pe_bl (pa_cons (pe_tup (pa_cons pe_str pa_nil)) (pa_cons pe_str (pa_cons pe_str (pa_cons (pe_lst pa_nil) (pa_cons (pe_op op_pow pe_int pe_int) pa_nil))))))))))) pa_nil))) pa_nil)) (by rfl))
      (pss_cons (ps_setLc (i := 6) (own := [("one", 5)]) (g := gName 5) (tt := tYes) rfl sc_bent.nd rfl rfl (sw_true rfl rfl rfl (by decide +kernel)) (pi_keysA (pv 2)) (blkOk_by (own := [("one", 5)]) (N := ["dice", "names", "value", "way", "odd", "one", "items"]) (sc := defScope s_law_bent) (by decide +kernel))
            (fun _ _ _ _ _ => pg_name (i := 5) sc_bent.nd rfl (Or.inl rfl)) (fun _ _ _ _ _ => pts_nil) (fun _ _ _ _ _ => pe_tup (pa_cons (pv 5) (pa_cons (pe_ix (show IxR _ (rIxA P w) from ix_A) (pv 2) (pv 5) (fun _ _ => rfl)) pa_nil))))
      (pss_cons (ps_if (PW.pt (pw_and (pt_cmpR op_eq (pv 3) pe_int (nomark _)) (pw_and1 (pt_cmpR (op_neNil hu) (pv 6) (pe_lst pa_nil) (nomark _)))))
          (pss_one (ps_ret (pe_callTy (call_dictA rfl) (by rfl) T.n_dict (by decide +kernel) (pa_cons (pe_slice sl_list (pv 6) (po_some pe_int) po_none) pa_nil)))) pss_nil)
      (pss_cons (ps_if (pt_cmpR op_eq (pv 3) pe_int (nomark _))
          (pss_one (ps_ret (pe_callTy (call_dictA rfl) (by rfl) T.n_dict (by decide +kernel) (pa_cons (pe_op op_cat (pv 6) (pe_lst (pa_cons (pe_tup (pa_cons pe_str (pa_cons pe_str pa_nil))) pa_nil))) pa_nil)))) pss_nil)
      (pss_cons (ps_if (PW.pt (pw_and (pt_cmpR op_eq (pv 3) pe_int (nomark _)) (pw_and1 (pt_cmpR (op_neNil hu) (pv 6) (pe_lst pa_nil) (nomark _)))))
          (pss_one (ps_ret (pe_callTy (call_dictA rfl) (by rfl) T.n_dict (by decide +kernel) (pa_cons (pe_op op_cat (pe_slice sl_list (pv 6) (po_some pe_int) po_none) (pe_lst (pa_cons (pe_tup (pa_cons (pe_ix ix_tup (pe_ix ix_list (pv 6) pe_int (fun _ _ => rfl)) pe_int (fun _ _ => rfl)) (pa_cons (pv 4) pa_nil))) pa_nil))) pa_nil)))) pss_nil)
      (pss_cons (ps_if (PW.pt (pw_and (pt_cmpR op_eq (pv 3) pe_int (nomark _)) (pw_and1 (pt_cmpR op_gt (pe_callB call_len (by rfl) T.n_len (by decide +kernel) (pa_cons (pv 6) pa_nil)) pe_int (nomark _)))))
          (pss_one (ps_ret (pe_callTy (call_dictA rfl) (by rfl) T.n_dict (by decide +kernel) (pa_cons (pe_op op_cat (pe_slice sl_list (pv 6) (po_some pe_int) po_none) (pe_lst (pa_cons (pe_tup (pa_cons (pe_ix ix_tup (pe_ix ix_list (pv 6) pe_int (fun _ _ => rfl)) pe_int (fun _ _ => rfl)) (pa_cons pe_str pa_nil))) (pa_cons (pe_tup (pa_cons (pe_ix ix_tup (pe_ix ix_list (pv 6) pe_int (fun _ _ => rfl)) pe_int (fun _ _ => rfl)) (pa_cons pe_str pa_nil))) pa_nil)))) pa_nil)))) pss_nil)
      (pss_cons (ps_if (PW.pt (pw_and (pt_cmpR op_eq (pv 3) pe_int (nomark _)) (pw_and1 (pt_cmpR (op_neNil hu) (pv 6) (pe_lst pa_nil) (nomark _)))))
          (pss_one (ps_ret (pe_callTy (call_dictA rfl) (by rfl) T.n_dict (by decide +kernel) (pa_cons (pe_op op_cat (pe_slice sl_list (pv 6) (po_some pe_int) po_none) (pe_lst (pa_cons (pe_tup (pa_cons (pe_d DP hr (pa_cons (pv 0) (pa_cons (pe_lst (pa_cons pe_non (pa_cons pe_int (pa_cons pe_str (pa_cons pe_str (pa_cons pe_bl pa_nil)))))) pa_nil))) (pa_cons (pe_ix ix_tup (pe_ix ix_list (pv 6) pe_int (fun _ _ => rfl)) pe_int (fun _ _ => rfl)) pa_nil))) pa_nil))) pa_nil)))) pss_nil)
      (pss_one (ps_ret (pe_d DP hr (pa_cons (pv 0) (pa_cons (pe_lst (pa_cons (pv 6) (pa_cons (pe_callTy call_tuple_of (by rfl) T.n_tuple (by decide +kernel) (pa_cons (pv 6) pa_nil)) (pa_cons pe_non (pa_cons pe_int (pa_cons pe_str (pa_cons (pv 1) (pa_cons pe_dnewA (pa_cons (pv 2) (pa_cons (pv 2) pa_nil)))))))))) pa_nil))))))))))), ?_⟩
    walk_at "rr"
    refine roll_go hd (by decide) (by decide) fun j H1 j0 j1 g1 => ?_
    walk_at "rr"
    refine ⟨by decide, fun p1 hp1 => ?_⟩
    walk_at "rr"
    refine ⟨by decide, fun p2 hp2 => ?_⟩
    walk_at "rr"
    refine ⟨⟨by decide, by decide, by decide⟩, ?_⟩
    walk_at "rr"
    refine ⟨show (10 : Nat) ≤ sizeLine by decide, fun q0 hq0 => ?_⟩
    walk_at "rr"
    have n1 := g1.at_ne hp1
    have g1a := g1.new (o := .tup [.str "a"]) hp1
    have n2 := g1a.at_ne hp2
    have g2 := g1a.new (o := .lst []) hp2
    refine pick_new g2.dice hq0 (by simp) (show (10 : Nat) ≤ 1000 by decide) fun odd H2 hodd g3 => ?_
    have g4 := g2.trans g3
    have kodd : ∃ t, Kd H2 odd t := by
      have h1 : H2 p1 = some (.tup [.str "a"]) := g3.keep _ _ n1 (by rw [upd_ne (ne_of_none upd_same hp2), upd_same])
      have h2 : H2 p2 = some (.lst []) := g3.keep _ _ n2 upd_same
      simp only [List.mem_cons, List.not_mem_nil, or_false] at hodd
      rcases hodd with rfl | rfl | rfl | rfl | rfl | rfl | rfl | rfl | rfl | rfl
      · exact ⟨_, .str _ (by decide)⟩
      · exact ⟨_, .str _ (by decide)⟩
      · exact ⟨_, .non⟩
      · exact ⟨_, .int _⟩
      · exact ⟨_, .bl _⟩
      · exact ⟨_, .tup h1⟩
      · exact ⟨_, .str _ (by decide)⟩
      · exact ⟨_, .str _ (by decide)⟩
      · exact ⟨_, .lst h2⟩
      · exact ⟨_, .int _⟩
    clear hodd g3 g2 g1a hq0 hp2 hp1 n1 n2 g1
    have nb : b ≠ d := dice_lst hd hb fun _ _ _ e => nomatch e
    have na : a ≠ d := dice_lst hd ha fun _ _ _ e => nomatch e
    have hb2 := g4.keep _ _ nb hb
    have ha2 := g4.keep _ _ na ha
    walk_at "rr"
    refine ⟨b, ep, kvs, rfl, hb2, fun D hD => lc_A (fun i H' => Same H2 H' ∧ ∃ ps : List Addr, ps.length = i ∧ H' D = some (.lst (ps.map V.ref)) ∧ Prs H' ps (kvs.take i)) ⟨same_new hD, [], rfl, upd_same, .nil⟩ (fun i H' _ p => p.1 _ _ hb2) ?_ ?_⟩
    · rintro i ky vl x H' hi hx ⟨s1, ps, hps, h1, hpr⟩
      have hil : i < kvs.length := (List.getElem?_eq_some_iff.mp hi).1
      refine ⟨rfl, ?_⟩
      walk_at "rr"
      refine ⟨b, ep, kvs, ky, vl, rfl, hx, s1 _ _ hb2, valA_nd hn hi, ?_⟩
      walk_at "rr"
      refine ⟨show (2 : Nat) ≤ sizeLine by decide, fun q hq => ?_⟩
      have hs := line1000
      have hDq : D ≠ q := ne_of_none h1 hq
      refine ⟨_, by rw [upd_ne hDq]; exact h1, by rw [List.length_map]; omega, ?_, ps ++ [q], by rw [List.length_append, hps] <;> rfl, by rw [upd_same, List.map_append] <;> rfl, ?_⟩
      · exact same_own (s1.trans (same_new hq)) hD
      · rw [take_more hi]
        refine paired_app (paired_imp (R := Pr (upd H' q (.tup [x, vl]))) (fun p kv r => r.upd (by rw [upd_ne hDq]; exact h1)) (hpr.same (same_new hq))) (.cons ⟨x, hx, ?_⟩ .nil)
        · rw [upd_ne (Ne.symm hDq), upd_same]
    · rintro H3 ⟨S3, ps, hps, h1, hpr⟩
      rw [List.take_length] at hpr
      have g5 := g4.same S3
      have ha3 := S3 _ _ ha2
      have hb3 := S3 _ _ hb2
      have kodd3 : ∃ t, Kd H3 odd t := let ⟨t, z⟩ := kodd; ⟨t, z.same S3⟩
      have nD : D ≠ d := g4.at_ne hD
      clear S3 g4 kodd ha2 hb2
      have hs := line1000
      have hpl := Paired.length hpr
      have kv3 : ∀ {H5 : Hp}, ∀ p ∈ kvs, ∃ t, Kd H5 p.2 t := fun p hp => by
        obtain ⟨z, u, rfl, hu⟩ := hk p hp
        exact ⟨_, .str u hu⟩
      walk_at "rr"
      refine ⟨rfl, ?_⟩
      walk_at "rr"
      refine or8 j0 j1 (fun e => ?c0) (fun e => ?c1) (fun e => ?c2) (fun e => ?c3) (fun e => ?c4) (fun e => ?c5) (fun e => ?c6) (fun e => ?c7)
      case' c0 =>
        subst e
        refine ifT (by decide +kernel) ?_
        walk_at "rr"
        refine ⟨Nat.zero_le _, fun q hq => ⟨D, q, _, rfl, rfl, SqL.of ((same_new hq) _ _ h1), SqL.of upd_same, ?_⟩⟩
        have S4 : Same H3 (upd H3 q (.lst [])) := same_new hq
        obtain ⟨H4, e4⟩ : ∃ X, upd H3 q (.lst []) = X := ⟨_, rfl⟩
        rw [e4] at S4
        rw [e4]
        clear e4 hq
        walk_at "rr"
        refine lcase (l := ps) (fun e => ?c0a) (fun p0 ps' e => ?c0b)
      case c0b =>
        subst e
        refine ifT rfl ?_
        walk_at "rr"
        refine ⟨D, _, rfl, SqL.of (S4 _ _ h1), fun q1 hq1 => ?_⟩
        rw [cut1]
        walk_at "rr"
        have S5 := S4.trans (same_new (o := .lst (((p0 :: ps').drop 1).map V.ref)) hq1)
        refine ⟨q1, ps', kvs.drop 1, rfl, SqL.of upd_same, Prs.sq (paired_drop 1 (Prs.same hpr S5)), by rw [List.length_drop]; omega, fun p ep' hp => ?_⟩
        exact k _ _ _ (((g5.same S5)).new hp) (Vd.made upd_same (by rw [List.length_drop]; omega) fun q hq => kv3 q (List.mem_of_mem_drop hq))
      case' c0a =>
        refine ifF (by rw [e]; rfl) ?_
        walk_at "rr"
        refine ⟨rfl, ?_⟩
        walk_at "rr"
        refine ⟨rfl, ?_⟩
        walk_at "rr"
        refine ⟨rfl, ?_⟩
        walk_at "rr"
        refine ⟨rfl, ?_⟩
        walk_at "rr"
      case c1 =>
        subst e
        refine ifF (by decide +kernel) ?_
        walk_at "rr"
        refine ⟨rfl, ?_⟩
        walk_at "rr"
        refine ⟨show (2 : Nat) ≤ sizeLine by decide, fun t1 ht1 => ?_⟩
        walk_at "rr"
        refine ⟨show (1 : Nat) ≤ sizeLine by decide, fun l1 hl1 => ?_⟩
        walk_at "rr"
        have S5 := (same_new (o := .tup [.str "other", .str "more"]) ht1).trans (same_new (o := .lst [.ref t1]) hl1)
        refine ⟨D, l1, ps.map V.ref, [V.ref t1], rfl, rfl, S5 _ _ h1, upd_same, by rw [List.length_map]; simp; omega, fun q1 hq1 => ?_⟩
        rw [same_cat]
        walk_at "rr"
        have S6 := S5.trans (same_new (o := .lst ((ps ++ [t1]).map V.ref)) hq1)
        have hlen : (kvs ++ [(kz "other", V.str "more")]).length ≤ 1000 := by
          rw [List.length_append]
          exact Nat.le_trans (Nat.add_le_add_right hl 1) (by decide)
        refine ⟨q1, ps ++ [t1], kvs ++ [(kz "other", .str "more")], rfl, SqL.of upd_same, Prs.sq (paired_app (Prs.same hpr S6) (.cons ⟨.str "other", .str _, (same_new hq1) _ _ ((same_new hl1) _ _ upd_same)⟩ .nil)), hlen, fun p ep' hp => ?_⟩
        exact k _ _ _ (((g5.same S6)).new hp) (Vd.made upd_same hlen fun q hq => by
          rcases List.mem_append.mp hq with hq | hq
          · exact kv3 q hq
          · rcases List.mem_cons.mp hq with rfl | hq
            · exact ⟨_, .str _ (by decide)⟩
            · cases hq)
      case' c2 =>
        subst e
        refine ifF (by decide +kernel) ?_
        walk_at "rr"
        refine ⟨rfl, ?_⟩
        walk_at "rr"
        refine ⟨rfl, ?_⟩
        walk_at "rr"
        refine ⟨Nat.zero_le _, fun q hq => ⟨D, q, _, rfl, rfl, SqL.of ((same_new hq) _ _ h1), SqL.of upd_same, ?_⟩⟩
        have S4 : Same H3 (upd H3 q (.lst [])) := same_new hq
        obtain ⟨H4, e4⟩ : ∃ X, upd H3 q (.lst []) = X := ⟨_, rfl⟩
        rw [e4] at S4
        rw [e4]
        clear e4 hq
        walk_at "rr"
        refine lcase (l := ps) (fun e => ?c2a) (fun p0 ps' e => ?c2b)
      case c2b =>
        subst e
        refine ifT rfl ?_
        walk_at "rr"
        cases hpr with
        | @cons _ kv0 _ kvs' a0 r0 =>
        obtain ⟨x0, hx0, hp0⟩ := id a0
        refine ⟨D, _, rfl, SqL.of (S4 _ _ h1), fun q1 hq1 => ?_⟩
        rw [cut1]
        have S5 := S4.trans (same_new (o := .lst (((p0 :: ps').drop 1).map V.ref)) hq1)
        walk_at "rr"
        refine ⟨D, _, 0, _, rfl, rfl, SqL.of (S5 _ _ h1), by exact atI_nat (j := 0) rfl, ?_⟩
        walk_at "rr"
        refine ⟨p0, _, 0, x0, rfl, rfl, SqT.of (S5 _ _ hp0), by exact atI_nat (j := 0) rfl, ?_⟩
        walk_at "rr"
        refine ⟨show (2 : Nat) ≤ sizeLine by decide, fun t1 ht1 => ?_⟩
        walk_at "rr"
        refine ⟨show (1 : Nat) ≤ sizeLine by decide, fun l1 hl1 => ?_⟩
        walk_at "rr"
        have S6 := (same_new (o := .tup [x0, odd]) ht1).trans (same_new (o := .lst [.ref t1]) hl1)
        refine ⟨q1, l1, ps'.map V.ref, [V.ref t1], rfl, rfl, S6 _ _ upd_same, upd_same, by rw [List.length_map]; simp at hpl ⊢; simp at hl; omega, fun q2 hq2 => ?_⟩
        rw [same_cat]
        walk_at "rr"
        have S7 := (S5.trans S6).trans (same_new (o := .lst ((ps' ++ [t1]).map V.ref)) hq2)
        have hlen : (kvs' ++ [(kv0.1, odd)]).length ≤ 1000 := by
          rw [List.length_append]
          rw [List.length_cons] at hl
          show kvs'.length + 1 ≤ 1000
          omega
        refine ⟨q2, ps' ++ [t1], kvs' ++ [(kv0.1, odd)], rfl, SqL.of upd_same, Prs.sq (paired_app (Prs.same r0 S7) (.cons ⟨x0, hx0, (same_new hq2) _ _ ((same_new hl1) _ _ upd_same)⟩ .nil)), hlen, fun p ep' hp => ?_⟩
        exact k _ _ _ (((g5.same S7)).new hp) (Vd.made upd_same hlen fun q hq => by
          rcases List.mem_append.mp hq with hq | hq
          · exact kv3 q (List.mem_cons_of_mem _ hq)
          · rcases List.mem_cons.mp hq with rfl | hq
            · obtain ⟨t, z⟩ := kodd3
              exact ⟨t, (z.same S7).same (same_new hp)⟩
            · cases hq)
      case' c2a =>
        refine ifF (by rw [e]; rfl) ?_
        walk_at "rr"
        refine ⟨rfl, ?_⟩
        walk_at "rr"
        refine ⟨rfl, ?_⟩
        walk_at "rr"
      case' c3 =>
        subst e
        refine ifF (by decide +kernel) ?_
        walk_at "rr"
        refine ⟨rfl, ?_⟩
        walk_at "rr"
        refine ⟨rfl, ?_⟩
        walk_at "rr"
        refine ⟨rfl, ?_⟩
        walk_at "rr"
        refine ⟨_, ps.length, rfl, .inl ⟨_, SqL.of h1, by rw [List.length_map]⟩, ?_⟩
        walk_at "rr"
        refine Or.elim (Nat.lt_or_ge 1 ps.length) (fun e => ?c3b) (fun e => ?c3a)
      case c3b =>
        refine ifT (decide_eq_true (by omega)) ?_
        walk_at "rr"
        obtain ⟨p0, p1, ps', rfl⟩ := two_of e
        cases hpr with
        | @cons _ kv0 _ kvs' a0 r0 =>
        cases r0 with
        | @cons _ kv1 _ kvs' a1 r0 =>
        obtain ⟨x0, hx0, hp0⟩ := id a0
        obtain ⟨x1, hx1, hp1⟩ := id a1
        refine ⟨D, _, rfl, SqL.of h1, fun q1 hq1 => ?_⟩
        rw [cut2]
        have S5 := same_new (o := .lst (((p0 :: p1 :: ps').drop 2).map V.ref)) hq1
        walk_at "rr"
        refine ⟨D, _, 0, _, rfl, rfl, SqL.of (S5 _ _ h1), by exact atI_nat (j := 0) rfl, ?_⟩
        walk_at "rr"
        refine ⟨p0, _, 0, x0, rfl, rfl, SqT.of (S5 _ _ hp0), by exact atI_nat (j := 0) rfl, ?_⟩
        walk_at "rr"
        refine ⟨show (2 : Nat) ≤ sizeLine by decide, fun t1 ht1 => ?_⟩
        have S6 := S5.trans (same_new (o := .tup [x0, .str "same"]) ht1)
        walk_at "rr"
        refine ⟨D, _, 1, _, rfl, rfl, SqL.of (S6 _ _ h1), by exact atI_nat (j := 1) rfl, ?_⟩
        walk_at "rr"
        refine ⟨p1, _, 0, x1, rfl, rfl, SqT.of (S6 _ _ hp1), by exact atI_nat (j := 0) rfl, ?_⟩
        walk_at "rr"
        refine ⟨show (2 : Nat) ≤ sizeLine by decide, fun t2 ht2 => ?_⟩
        walk_at "rr"
        refine ⟨show (2 : Nat) ≤ sizeLine by decide, fun l1 hl1 => ?_⟩
        walk_at "rr"
        have S7 := (same_new (o := .tup [x1, .str "same"]) ht2).trans (same_new (o := .lst [.ref t1, .ref t2]) hl1)
        have S8 := (same_new (o := .tup [x0, .str "same"]) ht1).trans S7
        rw [List.length_cons, List.length_cons] at hl
        refine ⟨q1, l1, ps'.map V.ref, [V.ref t1, V.ref t2], rfl, rfl, S8 _ _ upd_same, upd_same, by rw [List.length_map]; simp at hpl ⊢; omega, fun q2 hq2 => ?_⟩
        have ec : ps'.map V.ref ++ [V.ref t1, V.ref t2] = (ps' ++ [t1, t2]).map V.ref := by
          rw [List.map_append]
          rfl
        rw [ec]
        walk_at "rr"
        have S9 := (S5.trans S8).trans (same_new (o := .lst ((ps' ++ [t1, t2]).map V.ref)) hq2)
        have hlen : (kvs' ++ [(kv0.1, V.str "same"), (kv1.1, V.str "same")]).length ≤ 1000 := by
          rw [List.length_append]
          show kvs'.length + 2 ≤ 1000
          omega
        refine ⟨q2, ps' ++ [t1, t2], kvs' ++ [(kv0.1, V.str "same"), (kv1.1, V.str "same")], rfl, SqL.of upd_same, Prs.sq (paired_app (Prs.same r0 S9) (.cons ⟨x0, hx0, (same_new hq2) _ _ (S7 _ _ upd_same)⟩ (.cons ⟨x1, hx1, (same_new hq2) _ _ ((same_new hl1) _ _ upd_same)⟩ .nil))), hlen, fun p ep' hp => ?_⟩
        exact k _ _ _ (((g5.same S9)).new hp) (Vd.made upd_same hlen fun q hq => by
          rcases List.mem_append.mp hq with hq | hq
          · exact kv3 q (List.mem_cons_of_mem _ (List.mem_cons_of_mem _ hq))
          · rcases List.mem_cons.mp hq with rfl | hq
            · exact ⟨_, .str _ (by decide)⟩
            · rcases List.mem_cons.mp hq with rfl | hq
              · exact ⟨_, .str _ (by decide)⟩
              · cases hq)
      case' c3a =>
        have S4 : Same H3 H3 := Same.refl _
        refine ifF (decide_eq_false (by omega)) ?_
        walk_at "rr"
        refine ⟨rfl, ?_⟩
        walk_at "rr"
      case' c4 =>
        subst e
        refine ifF (by decide +kernel) ?_
        walk_at "rr"
        refine ⟨rfl, ?_⟩
        walk_at "rr"
        refine ⟨rfl, ?_⟩
        walk_at "rr"
        refine ⟨rfl, ?_⟩
        walk_at "rr"
        refine ⟨rfl, ?_⟩
        walk_at "rr"
        refine ⟨Nat.zero_le _, fun q hq => ⟨D, q, _, rfl, rfl, SqL.of ((same_new hq) _ _ h1), SqL.of upd_same, ?_⟩⟩
        have S4 : Same H3 (upd H3 q (.lst [])) := same_new hq
        obtain ⟨H4, e4⟩ : ∃ X, upd H3 q (.lst []) = X := ⟨_, rfl⟩
        rw [e4] at S4
        rw [e4]
        clear e4 hq
        walk_at "rr"
        refine lcase (l := ps) (fun e => ?c4a) (fun p0 ps' e => ?c4b)
      case c4b =>
        subst e
        refine ifT rfl ?_
        walk_at "rr"
        cases hpr with
        | @cons _ kv0 _ kvs' a0 r0 =>
        refine ⟨D, _, rfl, SqL.of (S4 _ _ h1), fun q1 hq1 => ?_⟩
        rw [cut1]
        have S5 := S4.trans (same_new (o := .lst (((p0 :: ps').drop 1).map V.ref)) hq1)
        have g6 := g5.same S5
        have nq1 := (g5.same S4).at_ne hq1
        walk_at "rr"
        refine ⟨show (5 : Nat) ≤ sizeLine by decide, fun q0 hq0 => ?_⟩
        walk_at "rr"
        refine pick_new g6.dice hq0 (by simp) (show (5 : Nat) ≤ 1000 by decide) fun y H6 hy g7 => ?_
        have ky : ∃ key, KeyV key y := by
          simp only [List.mem_cons, List.not_mem_nil, or_false] at hy
          rcases hy with rfl | rfl | rfl | rfl | rfl
          · exact ⟨_, .non⟩
          · exact ⟨_, .int _⟩
          · exact ⟨_, .str _⟩
          · exact ⟨_, .str _⟩
          · exact ⟨_, .bl _⟩
        obtain ⟨key, hkey⟩ := ky
        have r6 := Prs.go (Prs.same r0 S5) g6.dice g7
        obtain ⟨x0, hx0, hp0⟩ := a0.same S5
        have hp6 := g7.keep _ _ (dice_lst g6.dice hp0 fun _ _ _ e => nomatch e) hp0
        have h16 := g7.keep _ _ nD (S5 _ _ h1)
        have hq6 := g7.keep _ _ nq1 upd_same
        walk_at "rr"
        refine ⟨D, _, 0, _, rfl, rfl, SqL.of h16, by exact atI_nat (j := 0) rfl, ?_⟩
        walk_at "rr"
        refine ⟨p0, _, 1, kv0.2, rfl, rfl, SqT.of hp6, by exact atI_nat (j := 1) rfl, ?_⟩
        walk_at "rr"
        refine ⟨show (2 : Nat) ≤ sizeLine by decide, fun t1 ht1 => ?_⟩
        walk_at "rr"
        refine ⟨show (1 : Nat) ≤ sizeLine by decide, fun l1 hl1 => ?_⟩
        walk_at "rr"
        have S7 := (same_new (o := .tup [y, kv0.2]) ht1).trans (same_new (o := .lst [.ref t1]) hl1)
        rw [List.length_cons] at hl
        refine ⟨q1, l1, ps'.map V.ref, [V.ref t1], rfl, rfl, S7 _ _ hq6, upd_same, by rw [List.length_map]; simp at hpl ⊢; omega, fun q2 hq2 => ?_⟩
        rw [same_cat]
        walk_at "rr"
        have S8 := S7.trans (same_new (o := .lst ((ps' ++ [t1]).map V.ref)) hq2)
        have hlen : (kvs' ++ [(key, kv0.2)]).length ≤ 1000 := by
          rw [List.length_append]
          show kvs'.length + 1 ≤ 1000
          omega
        refine ⟨q2, ps' ++ [t1], kvs' ++ [(key, kv0.2)], rfl, SqL.of upd_same, Prs.sq (paired_app (Prs.same r6 S8) (.cons ⟨y, hkey, (same_new hq2) _ _ ((same_new hl1) _ _ upd_same)⟩ .nil)), hlen, fun p ep' hp => ?_⟩
        exact k _ _ _ ((((g6.trans g7).same S8)).new hp) (Vd.made upd_same hlen fun q hq => by
          rcases List.mem_append.mp hq with hq | hq
          · exact kv3 q (List.mem_cons_of_mem _ hq)
          · rcases List.mem_cons.mp hq with rfl | hq
            · exact kv3 kv0 List.mem_cons_self
            · cases hq)
      case' c4a =>
        refine ifF (by rw [e]; rfl) ?_
        walk_at "rr"
      case' c5 =>
        subst e
        have S4 : Same H3 H3 := Same.refl _
        refine ifF (by decide +kernel) ?_
        walk_at "rr"
        refine ⟨rfl, ?_⟩
        walk_at "rr"
        refine ⟨rfl, ?_⟩
        walk_at "rr"
        refine ⟨rfl, ?_⟩
        walk_at "rr"
        refine ⟨rfl, ?_⟩
        walk_at "rr"
      case' c6 =>
        subst e
        have S4 : Same H3 H3 := Same.refl _
        refine ifF (by decide +kernel) ?_
        walk_at "rr"
        refine ⟨rfl, ?_⟩
        walk_at "rr"
        refine ⟨rfl, ?_⟩
        walk_at "rr"
        refine ⟨rfl, ?_⟩
        walk_at "rr"
        refine ⟨rfl, ?_⟩
        walk_at "rr"
      case' c7 =>
        subst e
        have S4 : Same H3 H3 := Same.refl _
        refine ifF (by decide +kernel) ?_
        walk_at "rr"
        refine ⟨rfl, ?_⟩
        walk_at "rr"
        refine ⟨rfl, ?_⟩
        walk_at "rr"
        refine ⟨rfl, ?_⟩
        walk_at "rr"
        refine ⟨rfl, ?_⟩
        walk_at "rr"
      all_goals
        refine ⟨D, _, rfl, .inl ⟨SqL.of (S4 _ _ h1), fun t1 ht1 => ?_⟩⟩
        walk_at "rr"
        refine fun e0 epe he0 => ?_
        walk_at "rr"
        refine ⟨show (9 : Nat) ≤ sizeLine by decide, fun q0 hq0 => ?_⟩
        walk_at "rr"
        have S5 := (S4.trans (same_new (o := .tup (ps.map V.ref)) ht1)).trans (same_new (o := adK P w e0 epe []) he0)
        have gA := g5.same S5
        have nt1 := (g5.same S4).at_ne ht1
        have ne0 := (g5.same (S4.trans (same_new (o := .tup (ps.map V.ref)) ht1))).at_ne he0
        refine pick_new gA.dice hq0 (by simp) (show (9 : Nat) ≤ 1000 by decide) fun y H6 hy g7 => ?_
        have gB := gA.trans g7
        have hbv : Vd P w H6 (.ref b) (some kvs) := .ad (g7.keep _ _ nb (S5 _ _ hb3)) (Nat.le_trans hl (by decide)) kv3 hn
        simp only [List.mem_cons, List.not_mem_nil, or_false] at hy
        rcases hy with rfl | rfl | rfl | rfl | rfl | rfl | rfl | rfl | rfl
        · exact k _ _ _ gB (.kd (.lst (g7.keep _ _ nD (S5 _ _ h1))) (by decide))
        · exact k _ _ _ gB (.kd (.tup (g7.keep _ _ nt1 ((same_new he0) _ _ upd_same))) (by decide))
        · exact k _ _ _ gB (.kd .non (by decide))
        · exact k _ _ _ gB (.kd (.int _) (by decide))
        · exact k _ _ _ gB (.kd (.str _ (by decide)) (by decide))
        · exact k _ _ _ gB (.kd (.tup (g7.keep _ _ na (S5 _ _ ha3))) (by decide))
        · exact k _ _ _ gB (.ad (g7.keep _ _ ne0 upd_same) (Nat.zero_le _) (fun _ z => nomatch z) List.nodup_nil)
        · exact k _ _ _ gB hbv
        · exact k _ _ _ gB hbv
end
/-! ### law -/
theorem mergedA_nd : ∀ (more acc : List (AnyK × V)), (acc.map (·.1) ++ more.map (·.1)).Nodup → mergedA acc more = acc ++ more
  | [], acc, _ => by rw [List.append_nil]; rfl
  | (k, v) :: more, acc, h => by
    have hk : ¬ (acc.any fun kv => decide (kv.1 = k)) = true := by
      intro e
      obtain ⟨p, hp, e⟩ := List.any_eq_true.mp e
      have e := of_decide_eq_true e
      rw [List.nodup_append] at h
      exact h.2.2 p.1 (List.mem_map.mpr ⟨p, hp, rfl⟩) k List.mem_cons_self e
    have e1 : storedA acc k v = acc ++ [(k, v)] := by
      unfold storedA
      rw [if_neg hk]
    show mergedA (storedA acc k v) more = _
    rw [e1, mergedA_nd more (acc ++ [(k, v)]) (by rw [List.map_append, List.append_assoc]; exact h), List.append_assoc]
    rfl
theorem merged_same {kvs : List (AnyK × V)} (h : (kvs.map (·.1)).Nodup) : mergedA [] kvs = kvs := mergedA_nd kvs [] h
/-- a naming that is one -/
theorem good_naming {ss zs : List Str} {kvs : List (AnyK × V)} (hz : zs.Perm (ZS.nub ss)) (hk : kvs.map (·.1) = zs.map kz) (hv : (kvs.map (·.2)).Nodup) (hn : kvs.all (fun p => isNameV p.2) = true) : namB ss (some kvs) = true := by
  show (decide (kvs.length = (ZS.nub ss).length) && ss.all (hasK kvs) && diffB (kvs.map (·.2))) = true
  have h1 : kvs.length = (ZS.nub ss).length := by
    have := congrArg List.length hk
    rw [List.length_map, List.length_map, hz.length_eq] at this
    exact this
  have h2 : ss.all (hasK kvs) = true := List.all_eq_true.mpr fun z hzz => by
    rw [hasK_mem, hk]
    exact List.mem_map.mpr ⟨z, hz.mem_iff.mpr ((ZS.nub_mem ss z).mpr hzz), rfl⟩
  rw [decide_eq_true h1, h2]
  show diffB _ = true
  unfold diffB
  rw [decide_eq_true hv, Bool.and_true, List.all_map]
  exact hn
def poolS : List Str := ["a", "b", "zz", "zzzzzzzz", "q", "place", "tie"]
def pool9 : List Str := poolS ++ (["other", "same"] : List Str)
theorem pool_words : pool9.all isWordS = true := by decide +kernel
theorem pool_nd : (pool9.map V.str).Nodup := nodup_map_str.mpr (by decide +kernel)
theorem in_pool {y : V} (h : y ∈ poolS.map V.str) : ∃ z, z ∈ poolS ∧ y = .str z := by
  obtain ⟨z, hz, rfl⟩ := List.mem_map.mp h
  exact ⟨z, hz, rfl⟩
theorem word_len {z : Str} (h : isWordS z = true) : z.length ≤ 1000 := by
  unfold isWordS at h
  rw [Bool.and_eq_true, Bool.and_eq_true] at h
  have := of_decide_eq_true h.1.2
  omega
/-- what the law passes for names, none of it a tuple of names -/
inductive Odd (d : Addr) (H : Hp) : V → Prop
  | flat {v : V} {t : String} (h : ∀ H', Kd H' v t) (hr : ∀ a, v ≠ .ref a) (hs : ∀ H', areNames H' v = false) : Odd d H v
  | lst {a : Addr} {xs : List V} (e : H a = some (.lst xs)) (n : a ≠ d) : Odd d H (.ref a)
  | dK {a : Addr} {kvs : List (Key × V)} (e : H a = some (.dK kvs)) (n : a ≠ d) : Odd d H (.ref a)
  | tup {a : Addr} {xs : List V} (e : H a = some (.tup xs)) (n : a ≠ d) (hl : xs.length ≤ 1000) (hx : ∀ x ∈ xs, ∃ t, ∀ H', Kd H' x t) (hn : xs.all isNameV = false) : Odd d H (.ref a)
  | tupt {a b : Addr} {ys : List V} (e : H a = some (.tup [.ref b])) (n : a ≠ d) (e2 : H b = some (.tup ys)) (n2 : b ≠ d) : Odd d H (.ref a)
theorem Odd.keep {d : Addr} {H H' : Hp} {v : V} (h : Odd d H v) (k : ∀ b o, b ≠ d → H b = some o → H' b = some o) : Odd d H' v := by
  cases h with
  | flat h hr hs => exact .flat h hr hs
  | lst e n => exact .lst (k _ _ n e) n
  | dK e n => exact .dK (k _ _ n e) n
  | tup e n hl hx hn => exact .tup (k _ _ n e) n hl hx hn
  | tupt e n e2 n2 => exact .tupt (k _ _ n e) n (k _ _ n2 e2) n2
theorem Odd.same {d : Addr} {H H' : Hp} {v : V} (h : Odd d H v) (S : Same H H') : Odd d H' v := h.keep fun b o _ e => S b o e
theorem Odd.go {d : Addr} {H H' : Hp} {v : V} (h : Odd d H v) (g : Go d H H') : Odd d H' v := h.keep g.keep
theorem Odd.ok {d : Addr} {H : Hp} {v : V} (h : Odd d H v) : ∃ t, Kd H v t ∧ (∀ a xs, v = .ref a → H a = some (.tup xs) → xs.length ≤ 1000 ∧ ∀ x ∈ xs, ∃ t, Kd H x t) ∧ areNames H v = false := by
  cases h with
  | flat h hr hs => exact ⟨_, h H, fun a xs e => absurd e (hr a), hs H⟩
  | @lst a xs e n =>
    refine ⟨_, .lst e, fun b ys e1 e2 => ?_, ?_⟩
    · cases e1
      rw [e] at e2
      cases e2
    · show (match H a with | some (.tup xs) => xs.all isNameV | _ => false) = false
      rw [e]
  | @dK a kvs e n =>
    refine ⟨_, .dK e, fun b ys e1 e2 => ?_, ?_⟩
    · cases e1
      rw [e] at e2
      cases e2
    · show (match H a with | some (.tup xs) => xs.all isNameV | _ => false) = false
      rw [e]
  | @tup a xs e n hl hx hn =>
    refine ⟨_, .tup e, fun b ys e1 e2 => ?_, ?_⟩
    · cases e1
      rw [e] at e2
      cases e2
      exact ⟨hl, fun x hx' => let ⟨t, z⟩ := hx x hx'; ⟨t, z H⟩⟩
    · show (match H a with | some (.tup xs) => xs.all isNameV | _ => false) = false
      rw [e]
      exact hn
  | @tupt a b ys e n e2 n2 =>
    refine ⟨_, .tup e, fun c zs e1 e3 => ?_, ?_⟩
    · cases e1
      rw [e] at e3
      cases e3
      refine ⟨show (1 : Nat) ≤ 1000 by decide, fun x hx => ?_⟩
      rcases List.mem_cons.mp hx with rfl | hx
      · exact ⟨_, .tup e2⟩
      · cases hx
    · show (match H a with | some (.tup xs) => xs.all isNameV | _ => false) = false
      rw [e]
      rfl
theorem one_str {z : Str} (h : z.length ≤ 1000) : ∀ x ∈ [V.str z], ∃ t, ∀ H', Kd H' x t := fun x hx => by
  rcases List.mem_cons.mp hx with rfl | hx
  · exact ⟨_, fun _ => .str z h⟩
  · cases hx
theorem ask1 : namB ["a", "b"] (some (mergedA [] [(kz "a", V.str "b"), (kz "b", V.str "a")])) = true := by decide +kernel
theorem ask2 : namB [] (some []) = true := by decide +kernel
theorem ask3 : namB ["a", "a"] (some (mergedA [] [(kz "a", V.str "q")])) = true := by decide +kernel
theorem ask4 : namB ["a"] (some []) = false := by decide +kernel
theorem ask5 : namB [] (some (mergedA [] [(kz "a", V.str "b")])) = false := by decide +kernel
structure spLaw (K : PySem.W.Frag) (vs : List V) (H : Hp) (Q : VK) (E : XK) : Prop where
  h : ∃ (a : Addr) (ns : List Int), SqL K H a (ns.map V.int) ∧ vs = [.ref a] ∧ ns.length ≤ 63 ∧ ∀ H', Q (.bl true) H'
theorem Go.old {d : Addr} {H H1 H2 : Hp} (s : Same H H1) (hd : H d = none) (g : Go d H1 H2) : Same H H2 := fun b o e => g.keep b o (ne_of_none e hd) (s b o e)
section
variable {P : Program} {w : World} {K : PySem.W.Frag} {mg : Str → Option Value} {base : Heap}
theorem sc_law : FnScope ["script", "spot", "dice", "turn", "pool", "step", "names", "images", "name", "value", "bent", "odd", "told"] ["script"] (defScope s_law) := ⟨rfl, rfl, rfl, by decide +kernel, rfl, by decide +kernel, by decide +kernel⟩
theorem ok_law {f : Addr} {fd : FuncData} (F : Fun K "law" "law" s_law f fd) (T : Txt K mg) (DD : Dfn P w K mg base "_law_dice" 1 ["script", "spot"] (spDice K)) (DR : Dfn P w K mg base "_law_roll" 1 ["dice", "total"] spRoll) (DP : Dfn P w K mg base "_law_pick" 2 ["dice", "items"] spPick)
    (DM : Dfn P w K mg base "_law_mixed" 2 ["dice", "items"] spMixed) (DN : Dfn P w K mg base "is_naming" 4 ["names", "value"] (spNaming P w)) (DU : Dfn P w K mg base "_law_due" 2 ["names", "value"] (spDue P w)) (DB : Dfn P w K mg base "_law_bent" 3 ["dice", "names", "value"] (spBent P w))
    (DF : Dfn P w K mg base "_law_is_refused" 5 ["names", "value"] spRef) :
    FnOk P w K mg base CX0 6 f fd ["script"] (spLaw K) := by
  refine F.ok sc_law (fun vs H Q E h => ?_) (fun cdv A outer s H vs Q E hr h => ?_)
  · obtain ⟨a, ns, _, rfl, _⟩ := h
    rfl
  · obtain ⟨a, ns, hS, rfl, hlen, k⟩ := h
    have hr1 : Room 1 _ := hr.mono (by decide)
    have hr2 : Room 2 _ := hr.mono (by decide)
    have hr3 : Room 3 _ := hr.mono (by decide)
    have hr4 : Room 4 _ := hr.mono (by decide)
    refine ⟨_, pss_cons (ps_for PassesOwn.never rfl (pi_range1 (by rfl) T.n_range (pa_cons (pe_callB (call_max2 rfl) (by rfl) T.n_max (by decide +kernel) (pa_cons pe_int (pa_cons (pe_callB (call_min2 rfl) (by rfl) T.n_min (by decide +kernel) (pa_cons pe_int (pa_cons (pe_callB call_len (by rfl) T.n_len (by decide +kernel) (pa_cons (pv 0) pa_nil)) pa_nil))) pa_nil))) pa_nil)) (pg_name (i := 1) sc_law.nd rfl (Or.inl rfl))
        (pss_cons (ps_set (i := 2) sc_law.nd rfl (Or.inr rfl) (pe_d DD hr1 (pa_cons (pv 0) (pa_cons (pv 1) pa_nil))))
        (pss_cons (ps_for PassesOwn.never rfl (pi_range1 (by rfl) T.n_range (pa_cons pe_int pa_nil)) (pg_name (i := 3) sc_law.nd rfl (Or.inl rfl))
          (pss_cons (ps_set (i := 4) sc_law.nd rfl (Or.inr rfl) (pe_lst (pa_cons pe_str (pa_cons pe_str (pa_cons pe_str (pa_cons pe_str (pa_cons pe_str (pa_cons pe_str (pa_cons pe_str pa_nil)))))))))
          (pss_cons (ps_set (i := 6) sc_law.nd rfl (Or.inl rfl) (pe_callTy call_tuple_of (by rfl) T.n_tuple (by decide +kernel) (pa_cons (pe_lc (own := [("step", 5)]) (g := gName 5) (tt := tYes) rfl sc_law.nd (pi_range1 (by rfl) T.n_range (pa_cons (pe_d DR hr1 (pa_cons (pv 2) (pa_cons pe_int pa_nil))) pa_nil)) (blkOk_by (own := [("step", 5)]) (N := ["script", "spot", "dice", "turn", "pool", "step", "names", "images", "name", "value", "bent", "odd", "told"]) (sc := defScope s_law) (by decide +kernel))
            (fun _ _ _ _ _ => pg_name (i := 5) sc_law.nd rfl (Or.inl rfl)) (fun _ _ _ _ _ => pts_nil) (fun _ _ _ _ _ => pe_d DP hr2 (pa_cons (pv 2) (pa_cons (pv 4) pa_nil)))) pa_nil)))
          (pss_cons (ps_set (i := 7) sc_law.nd rfl (Or.inr rfl) (pe_d DM hr2 (pa_cons (pv 2) (pa_cons (pe_op op_cat (pv 4) (pe_lst (pa_cons pe_str (pa_cons pe_str pa_nil)))) pa_nil))))
          (pss_cons (ps_set (i := 9) sc_law.nd rfl (Or.inl rfl) (pe_callTy (call_dictA rfl) (by rfl) T.n_dict (by decide +kernel) (pa_cons (pe_lc (own := [("name", 8)]) (g := gName 8) (tt := tYes) rfl sc_law.nd (pi_list (ZS.pe_sortTx rfl T.n_sorted T.n_set (pv 6))) (blkOk_by (own := [("name", 8)]) (N := ["script", "spot", "dice", "turn", "pool", "step", "names", "images", "name", "value", "bent", "odd", "told"]) (sc := defScope s_law) (by decide +kernel))
            (fun _ _ _ _ _ => pg_name (i := 8) sc_law.nd rfl (Or.inl rfl)) (fun _ _ _ _ _ => pts_nil) (fun _ _ _ _ _ => pe_tup (pa_cons (pv 8) (pa_cons (show PE _ _ (tBM0 K "list" rPop (tVar 7)) from pe_bm0 PySem.F.plainAttrs_list PySem.F.slot_list_pop PySem.F.type_list_pop mt_pop (pv 7)) pa_nil)))) pa_nil)))
          (pss_cons (ps_if (pt_not (pt_val (pe_d DN hr4 (pa_cons (pv 6) (pa_cons (pv 9) pa_nil))))) (pss_one (ps_ret pe_bl)) pss_nil)
          (pss_one (ps_for PassesOwn.never rfl (pi_range1 (by rfl) T.n_range (pa_cons pe_int pa_nil)) (pg_name (i := 5) sc_law.nd rfl (Or.inl rfl))
            (pss_cons (ps_set (i := 10) sc_law.nd rfl (Or.inl rfl) (pe_d DB hr3 (pa_cons (pv 2) (pa_cons (pv 6) (pa_cons (pv 9) pa_nil)))))
            (pss_one (ps_if (pt_cmpR op_ne (pe_d DN hr4 (pa_cons (pv 6) (pa_cons (pv 10) pa_nil))) (pe_d DU hr2 (pa_cons (pv 6) (pa_cons (pv 10) pa_nil))) (nomark _)) (pss_one (ps_ret pe_bl)) pss_nil)))))))))))
        (pss_cons (ps_set (i := 11) sc_law.nd rfl (Or.inl rfl) (pe_d DP hr2 (pa_cons (pv 2) (pa_cons (pe_lst (pa_cons pe_non (pa_cons pe_int (pa_cons pe_str (pa_cons (pe_lst (pa_cons pe_str pa_nil)) (pa_cons (pe_tup (pa_cons pe_str pa_nil)) (pa_cons (pe_tup (pa_cons pe_non pa_nil)) (pa_cons (pe_disp (pps_cons pe_str pe_int pps_nil) (by rfl) (by rfl) (fun z => by cases z) (by decide))
            (pa_cons (pe_tup (pa_cons pe_str (pa_cons pe_int pa_nil))) (pa_cons (pe_tup (pa_cons pe_str pa_nil)) (pa_cons (pe_tup (pa_cons pe_str pa_nil)) (pa_cons (pe_tup (pa_cons (pe_tup (pa_cons pe_str pa_nil)) pa_nil)) (pa_cons pe_bl pa_nil))))))))))))) pa_nil))))
        (pss_one (ps_if (PW.pt (pw_or (pt_not (pt_val (pe_d DF hr (pa_cons (pv 11) (pa_cons pe_dnewK pa_nil))))) (pw_or1 (pt_not (pt_val (pe_d DF hr (pa_cons (pv 11) (pa_cons (pe_d DP hr2 (pa_cons (pv 2) (pa_cons (pe_lst (pa_cons pe_non (pa_cons pe_int (pa_cons (pe_disp (pps_cons pe_str pe_str pps_nil) (by rfl) (by rfl) (fun z => by cases z) (by decide)) pa_nil)))) pa_nil))) pa_nil)))))))) (pss_one (ps_ret pe_bl)) pss_nil))))))
      (pss_cons (ps_set (i := 12) sc_law.nd rfl (Or.inl rfl) (pe_lst (pa_cons (pe_d DN hr4 (pa_cons (pe_tup (pa_cons pe_str (pa_cons pe_str pa_nil))) (pa_cons (pe_dispA (pps_cons pe_str pe_str (pps_cons pe_str pe_str pps_nil)) (by rfl) (by rfl) (fun z => by cases z) (by decide)) pa_nil)))
          (pa_cons (pe_d DN hr4 (pa_cons (pe_tup pa_nil) (pa_cons pe_dnewA pa_nil))) (pa_cons (pe_d DN hr4 (pa_cons (pe_tup (pa_cons pe_str (pa_cons pe_str pa_nil))) (pa_cons (pe_dispA (pps_cons pe_str pe_str pps_nil) (by rfl) (by rfl) (fun z => by cases z) (by decide)) pa_nil))) pa_nil)))))
      (pss_one (ps_ret (pe_cmpR (op_eqD hr.units) (pe_op op_cat (pv 12) (pe_lst (pa_cons (pe_d DN hr4 (pa_cons (pe_tup (pa_cons pe_str pa_nil)) (pa_cons pe_dnewA pa_nil)))
          (pa_cons (pe_d DN hr4 (pa_cons (pe_tup pa_nil) (pa_cons (pe_dispA (pps_cons pe_str pe_str pps_nil) (by rfl) (by rfl) (fun z => by cases z) (by decide)) pa_nil))) pa_nil)))) (pe_lst (pa_cons pe_bl (pa_cons pe_bl (pa_cons pe_bl (pa_cons pe_bl (pa_cons pe_bl pa_nil)))))) (nomark _))))), ?_⟩
    have hl := line1000
    walk_at "rr"
    refine ⟨_, _, rfl, .inl ⟨_, hS, rfl⟩, ?_⟩
    walk_at "rr"
    rw [List.length_map]
    refine ⟨by split <;> (try split) <;> omega, by split <;> (try split) <;> omega, ?_⟩
    generalize (if (if (ns.length : Int) < 8 then (ns.length : Int) else 8) > 1 then (if (ns.length : Int) < 8 then (ns.length : Int) else 8) else 1).toNat = m
    refine for_range (lo := 0) (n := m) (fun i σ H' => ∃ v1 v2 v3 v4 v5 v6 v7 v8 v9 v10 v11 : Option V, σ = [some (.ref a), v1, v2, v3, v4, v5, v6, v7, v8, v9, v10, v11, none] ∧ Same H H') ⟨_, _, _, _, _, _, _, _, _, _, _, rfl, Same.refl _⟩ ?_ ?_
    · rintro i σ H1 hi ⟨v1, v2, v3, v4, v5, v6, v7, v8, v9, v10, v11, rfl, s1⟩
      walk_at "rr"
      refine ⟨a, ns, i, s1.seq hS, by show [V.ref a, V.int (0 + (i : Int))] = _; rw [Int.zero_add], fun d x y z hd0 => ?_⟩
      have gd : Dice (upd H1 d (.lst [.int x, .int y, .int z])) d := ⟨x, y, z, upd_same⟩
      obtain ⟨HD, eD⟩ : ∃ X, upd H1 d (.lst [.int x, .int y, .int z]) = X := ⟨_, rfl⟩
      have sD : Same H HD := by
        rw [← eD]
        exact s1.trans (same_new hd0)
      have hd1 : H d = none := s1.free hd0
      rw [eD] at gd
      rw [eD]
      clear eD
      walk_at "rr"
      refine ⟨by decide, by decide, ?_⟩
      refine for_range (lo := 0) (n := 6) (fun j σ H' => ∃ v3 v4 v5 v6 v7 v8 v9 v10 : Option V, σ = [some (.ref a), some (.int (0 + (i : Int))), some (.ref d), v3, v4, v5, v6, v7, v8, v9, v10, v11, none] ∧ Go d HD H') ⟨_, _, _, _, _, _, _, _, rfl, Go.refl gd⟩ ?_ ?_
      · rintro j σ H2 hj ⟨v3, v4, v5, v6, v7, v8, v9, v10, rfl, g2⟩
        walk_at "rr"
        refine ⟨show (7 : Nat) ≤ sizeLine by decide, fun pl hpl => ?_⟩
        have npl := g2.at_ne hpl
        have g3 := g2.new (o := .lst (poolS.map V.str)) hpl
        obtain ⟨H3, e3⟩ : ∃ X, upd H2 pl (.lst [V.str "a", V.str "b", V.str "zz", V.str "zzzzzzzz", V.str "q", V.str "place", V.str "tie"]) = X := ⟨_, rfl⟩
        have h3 : H3 pl = some (.lst (poolS.map V.str)) := by
          rw [← e3, upd_same]
          rfl
        have g3 : Go d HD H3 := by
          rw [← e3]
          exact g3
        rw [e3]
        clear e3 hpl g2
        walk_at "rr"
        refine roll_go g3.dice (by decide) (by decide) fun r H4 r0 r1 g4 => ?_
        walk_at "rr"
        refine ⟨by omega, by omega, ?_⟩
        have g5 := g3.trans g4
        have h5 := g4.keep _ _ npl h3
        refine fun D hD => lc_range (lo := 0) (n := r.toNat) (fun i H' => Go d H4 H' ∧ ∃ zs : List Str, zs.length = i ∧ (∀ z ∈ zs, z ∈ poolS) ∧ H' D = some (.lst (zs.map V.str))) ⟨(Go.refl g4.dice).new hD, [], rfl, (fun _ z => nomatch z), upd_same⟩ ?_ ?_
        · rintro i2 H' hi2 ⟨g6, zs, hz1, hz2, hz3⟩
          refine ⟨rfl, ?_⟩
          walk_at "rr"
          refine pick_at g6.dice (g6.keep _ _ npl h5) npl (by decide) (by decide) fun y H'' hy g7 => ?_
          obtain ⟨z, hz, rfl⟩ := in_pool hy
          have hDd := (Go.refl g4.dice).at_ne hD
          have h7 := g7.keep _ _ hDd hz3
          refine ⟨_, h7, by rw [List.length_map]; omega, (g6.trans g7).own hD hDd, zs ++ [z], by rw [List.length_append, hz1] <;> rfl, fun z' hz' => ?_, by rw [upd_same, List.map_append] <;> rfl⟩
          rcases List.mem_append.mp hz' with q | q
          · exact hz2 _ q
          · rcases List.mem_cons.mp q with rfl | q
            · exact hz
            · cases q
        rintro H6 ⟨g6, ss, hz1, hz2, hz3⟩
        have g7 := g5.trans g6
        have h7 := g6.keep _ _ npl h5
        have hsl : ss.length ≤ 4 := by omega
        clear g6 h5 g5 g4 g3 h3
        walk_at "rr"
        refine ⟨D, _, rfl, .inl ⟨SqL.of hz3, fun nm hnm => ?_⟩⟩
        have nnm := g7.at_ne hnm
        have g8 := g7.new (o := .tup (ss.map V.str)) hnm
        have h8 := (same_new (o := .tup (ss.map V.str)) hnm) _ _ h7
        obtain ⟨H8, e8⟩ : ∃ X, upd H6 nm (.tup (ss.map V.str)) = X := ⟨_, rfl⟩
        have m8 : H8 nm = some (.tup (ss.map V.str)) := by
          rw [← e8, upd_same]
        rw [e8] at g8 h8
        rw [e8]
        clear e8 hnm hz3 g7 h7
        walk_at "rr"
        refine ⟨show (2 : Nat) ≤ sizeLine by decide, fun l2 hl2 => ?_⟩
        have g9 := g8.new (o := .lst [.str "other", .str "same"]) hl2
        refine ⟨pl, l2, poolS.map V.str, _, rfl, rfl, (same_new hl2) _ _ h8, upd_same, (show 7 + 2 ≤ sizeLine by decide), fun p9 hp9 => ?_⟩
        have np9 := g9.at_ne hp9
        have g10 := g9.new (o := .lst (pool9.map V.str)) hp9
        walk_at "rr"
        refine ⟨d, p9, pool9.map V.str, g10.dice, rfl, upd_same, (show 9 ≤ 1000 by decide), np9, fun q ys H11 g11 hq0 hqd hq hperm => ?_⟩
        have m11 := g11.keep _ _ nnm ((same_new hp9) _ _ ((same_new hl2) _ _ m8))
        have g12 := g10.trans g11
        have hqD : HD q = none := g10.free hq0
        have hqn : q ≠ nm := fun e => by
          rw [← e] at m8
          rw [(same_new hp9) _ _ ((same_new hl2) _ _ m8)] at hq0
          cases hq0
        clear g11 hq0 g10 hp9 g9 hl2 g8 m8 h8
        walk_at "rr"
        refine ⟨nm, ss, rfl, .inr (SqT.of m11), by omega, fun zs pz hzs hsort hpz => ⟨pz, rfl, ⟨_, SqL.of upd_same⟩, fun D2 hD2 => ?_⟩⟩
        have hzl : zs.length ≤ 4 := by
          rw [hzs.length_eq]
          exact Nat.le_trans (ZS.nub_le ss) hsl
        have hqz : q ≠ pz := ne_of_none hq hpz
        have g13 := g12.new (o := .lst (zs.map V.str)) hpz
        have m13 := (same_new (o := .lst (zs.map V.str)) hpz) _ _ m11
        have q13 := (same_new (o := .lst (zs.map V.str)) hpz) _ _ hq
        have z13 : (upd H11 pz (.lst (zs.map V.str))) pz = some (.lst (zs.map V.str)) := upd_same
        obtain ⟨H13, e13⟩ : ∃ X, upd H11 pz (.lst (zs.map V.str)) = X := ⟨_, rfl⟩
        rw [e13] at g13 m13 q13 z13 hD2
        rw [e13]
        clear e13 g12 m11 hq hpz
        have hqD2 : q ≠ D2 := ne_of_none q13 hD2
        have hzD2 : pz ≠ D2 := ne_of_none z13 hD2
        have hyl : ys.length = 9 := hperm.length_eq
        refine lc_list (K := K) (a := pz) (xs := zs.map V.str) (fun i H' => (∀ b o, b ≠ q → H13 b = some o → H' b = some o) ∧ ∃ (ps : List Addr) (kvs : List (AnyK × V)) (left : List V), ps.length = i ∧ H' D2 = some (.lst (ps.map V.ref)) ∧ Prs H' ps kvs ∧ kvs.map (·.1) = (zs.take i).map kz ∧ H' q = some (.lst left) ∧ left.length + i = 9 ∧ (left ++ kvs.map (·.2)).Perm ys)
          ⟨fun b o _ e => (same_new hD2) _ _ e, [], [], ys, rfl, upd_same, .nil, rfl, (same_new hD2) _ _ q13, hyl, by rw [List.map_nil, List.append_nil]⟩ (fun i H' _ p => SqL.of (p.1 _ _ hqz.symm z13)) ?_ ?_
        · rintro i3 x H' hi3 ⟨kp, ps, kvs, left, c1, c2, c3, c4, c5, c6, c7⟩
          obtain ⟨zz, hz, rfl⟩ : ∃ z, zs[i3]? = some z ∧ x = V.str z := by
            rw [List.getElem?_map] at hi3
            cases hz : zs[i3]? with
            | none => rw [hz] at hi3; cases hi3
            | some z => rw [hz] at hi3; cases hi3; exact ⟨z, rfl, rfl⟩
          have hil : i3 < zs.length := (List.getElem?_eq_some_iff.mp hz).1
          refine ⟨rfl, ?_⟩
          walk_at "rr"
          refine ⟨.inl ⟨rfl, _, SqL.of c5⟩, ?_⟩
          have hne : left ≠ [] := fun e => by
            rw [e, List.length_nil] at c6
            omega
          refine ⟨q, left, left.getLast hne, rfl, rfl, c5, by rw [← List.getLast?_eq_getElem?]; exact List.getLast?_eq_some_getLast hne, ?_⟩
          walk_at "rr"
          refine ⟨show (2 : Nat) ≤ sizeLine by decide, fun t1 ht1 => ?_⟩
          have e1 : t1 ≠ q := fun e => by
            rw [e, upd_same] at ht1
            cases ht1
          have e2 : t1 ≠ D2 := fun e => by
            rw [e, upd_ne hqD2.symm, c2] at ht1
            cases ht1
          have ht0 : H' t1 = none := by
            rw [upd_ne e1] at ht1
            exact ht1
          refine ⟨ps.map V.ref, by rw [upd_ne e2.symm, upd_ne hqD2.symm]; exact c2, by rw [List.length_map]; omega, fun b o hb e => ?_, ps ++ [t1], kvs ++ [(kz zz, left.getLast hne)], left.dropLast, ?_, ?_, ?_, ?_, ?_, ?_, ?_⟩
          · rw [upd_ne (ne_of_none e hD2), upd_ne (ne_of_none (kp b o hb e) ht0), upd_ne hb]
            exact kp b o hb e
          · rw [List.length_append, c1]
            rfl
          · rw [upd_same, List.map_append]
            rfl
          · refine paired_app (paired_imp (R := Pr H') (fun p kv r => ?_) c3) (.cons ⟨.str zz, .str _, ?_⟩ .nil)
            · exact ((r.upd c5).same (same_new ht1)).upd (by rw [upd_ne e2.symm, upd_ne hqD2.symm]; exact c2)
            · rw [upd_ne e2, upd_same]
          · rw [take_more hz, List.map_append, List.map_append, c4]
            rfl
          · rw [upd_ne hqD2, upd_ne e1.symm, upd_same]
          · rw [List.length_dropLast]
            omega
          · refine List.Perm.trans ?_ c7
            rw [List.map_append, ← List.append_assoc]
            refine List.Perm.trans ?_ (List.Perm.append_right _ (List.Perm.of_eq (List.dropLast_concat_getLast hne)))
            rw [List.append_assoc, List.append_assoc]
            exact List.Perm.append_left _ List.perm_append_comm
        rintro H14 ⟨kp, ps, kvs, left, c1, c2, c3, c4, c5, c6, c7⟩
        rw [List.length_map] at c1 c4 c6
        rw [List.take_length] at c4
        walk_at "rr"
        have ckl : kvs.length ≤ 4 := by
          have := congrArg List.length c4
          rw [List.length_map, List.length_map] at this
          omega
        have hkn : (kvs.map (·.1)).Nodup := by
          rw [c4]
          exact kz_nd (hzs.nodup_iff.mpr (ZS.nub_nodup ss))
        have hall : (left ++ kvs.map (·.2)).Perm (pool9.map V.str) := c7.trans hperm
        have hvn : (kvs.map (·.2)).Nodup := (List.nodup_append.mp (hall.nodup_iff.mpr pool_nd)).2.1
        have hvt : ∀ p ∈ kvs, ∃ u, u ∈ pool9 ∧ p.2 = V.str u := fun p hp => by
          obtain ⟨u, hu, e⟩ := List.mem_map.mp (hall.mem_iff.mp (List.mem_append_right left (List.mem_map.mpr ⟨p, hp, rfl⟩)))
          exact ⟨u, hu, e.symm⟩
        have hkv : ∀ p ∈ kvs, ∃ z u : Str, p = (kz z, V.str u) ∧ u.length ≤ 1000 := fun p hp => by
          obtain ⟨u, hu, e⟩ := hvt p hp
          have h1 : p.1 ∈ zs.map kz := by
            rw [← c4]
            exact List.mem_map.mpr ⟨p, hp, rfl⟩
          obtain ⟨z, _, ez⟩ := List.mem_map.mp h1
          exact ⟨z, u, by rw [ez, ← e], word_len (List.all_eq_true.mp pool_words u hu)⟩
        have hnk : kvs.all (fun p => isNameV p.2) = true := List.all_eq_true.mpr fun p hp => by
          obtain ⟨u, hu, e⟩ := hvt p hp
          rw [e]
          exact List.all_eq_true.mp pool_words u hu
        have hsn : (ss.map V.str).all isNameV = true := by
          rw [List.all_map]
          exact List.all_eq_true.mpr fun z hz => List.all_eq_true.mp pool_words z (List.mem_append_left _ (hz2 z hz))
        have good := good_naming hzs c4 hvn hnk
        have hdq : d ≠ q := hqd.symm
        have g14 : Go d HD H14 := ⟨fun b o hb e => kp b o (ne_of_none e hqD) (g13.keep b o hb e), by
          obtain ⟨x, y, z, e⟩ := g13.dice
          exact ⟨x, y, z, kp d _ hdq e⟩⟩
        have m14 := kp nm _ hqn.symm m13
        refine ⟨D2, ps, kvs, rfl, SqL.of c2, Prs.sq c3, by omega, fun vd ep hvd => ?_⟩
        rw [merged_same hkn]
        have g15 := g14.new (o := adK P w vd ep kvs) hvd
        have m15 := (same_new (o := adK P w vd ep kvs) hvd) _ _ m14
        have nvd := g14.at_ne hvd
        have w15 : upd H14 vd (adK P w vd ep kvs) vd = some (adK P w vd ep kvs) := upd_same
        obtain ⟨H15, e15⟩ : ∃ X, upd H14 vd (adK P w vd ep kvs) = X := ⟨_, rfl⟩
        rw [e15] at g15 m15 w15
        have e15' : upd H14 vd (adK (cxOf CX0 P w K mg base ["script", "spot", "dice", "turn", "pool", "step", "names", "images", "name", "value", "bent", "odd", "told"] "law" (defScope s_law) f cdv A outer s H E).nox.prog (cxOf CX0 P w K mg base ["script", "spot", "dice", "turn", "pool", "step", "names", "images", "name", "value", "bent", "odd", "told"] "law" (defScope s_law) f cdv A outer s H E).nox.w vd ep kvs) = H15 := e15
        rw [e15']
        clear e15 e15' hvd g14 m14 kp c1 c2 c3 c5 c6 c7 hall
        walk_at "rr"
        refine ⟨nm, ss, .ref vd, some kvs, rfl, m15, hsn, by omega, .ad w15 (by omega) (fun p hp => by obtain ⟨z, u, rfl, hu⟩ := hkv p hp; exact ⟨_, .str u hu⟩) hkn, fun H16 S16 => ?_⟩
        rw [good]
        walk_at "rr"
        refine ⟨by decide, by decide, ?_⟩
        have g16 := g15.same S16
        have m16 := S16 _ _ m15
        have w16 := S16 _ _ w15
        refine for_range (lo := 0) (n := 3) (fun j2 σ H' => ∃ v5 v8 v10 : Option V, σ = [some (.ref a), some (.int (0 + (i : Int))), some (.ref d), some (.int (0 + (j : Int))), some (.ref pl), v5, some (.ref nm), some (.ref q), v8, some (.ref vd), v10, v11, none] ∧ Go d H16 H') ⟨_, _, _, rfl, Go.refl g16.dice⟩ ?_ ?_
        · rintro j2 σ H17 hj2 ⟨v5, v8, v10, rfl, g17⟩
          walk_at "rr"
          refine ⟨d, nm, vd, ep, ss, kvs, rfl, g17.dice, g17.keep _ _ nnm m16, g17.keep _ _ nvd w16, by omega, hkv, hkn, fun bv o H18 g18 hv => ?_⟩
          have g19 := g17.trans g18
          have m18 := g19.keep _ _ nnm m16
          walk_at "rr"
          refine ⟨nm, ss, bv, o, rfl, m18, hsn, by omega, hv, fun H19 S19 => ?_⟩
          walk_at "rr"
          refine ⟨nm, ss, bv, o, rfl, S19 _ _ m18, by omega, hv.same S19, fun H20 S20 => ?_⟩
          rw [vd_same hv]
          walk_at "rr"
          refine ⟨rfl, ?_⟩
          walk_at "rr"
          refine ifF (by simp) ?_
          exact ⟨_, _, _, rfl, g19.same (S19.trans S20)⟩
        · rintro σ H17 ⟨v5, v8, v10, rfl, g17⟩
          exact ⟨_, _, _, _, _, _, _, _, rfl, g16.trans g17⟩
      · rintro σ H2 ⟨v3, v4, v5, v6, v7, v8, v9, v10, rfl, g2⟩
        walk_at "rr"
        refine ⟨show (1 : Nat) ≤ sizeLine by decide, fun a1 h1 => ?_⟩
        walk_at "rr"
        refine ⟨show (1 : Nat) ≤ sizeLine by decide, fun a2 h2 => ?_⟩
        walk_at "rr"
        refine ⟨show (1 : Nat) ≤ sizeLine by decide, fun a3 h3 => ?_⟩
        walk_at "rr"
        refine fun a4 h4 => ?_
        walk_at "rr"
        refine ⟨upd_same, [(.inr "a", .int 1)], rfl, by decide, ?_⟩
        walk_at "rr"
        refine ⟨show (2 : Nat) ≤ sizeLine by decide, fun a5 h5 => ?_⟩
        walk_at "rr"
        refine ⟨show (1 : Nat) ≤ sizeLine by decide, fun a6 h6 => ?_⟩
        walk_at "rr"
        refine ⟨show (1 : Nat) ≤ sizeLine by decide, fun a7 h7 => ?_⟩
        walk_at "rr"
        refine ⟨show (1 : Nat) ≤ sizeLine by decide, fun a8 h8 => ?_⟩
        walk_at "rr"
        refine ⟨show (1 : Nat) ≤ sizeLine by decide, fun a9 h9 => ?_⟩
        walk_at "rr"
        refine ⟨show (12 : Nat) ≤ sizeLine by decide, fun l0 hl0 => ?_⟩
        walk_at "rr"
        have s1' := same_new (o := .lst [.str "a"]) h1
        have s2 := same_new (o := .tup [.str "A"]) h2
        have s3 := same_new (o := .tup [.non]) h3
        have s4 := same_own (o := .dK (mergeK [] [(Sum.inr "a", V.int 1)])) (same_new (o := .dK []) h4) h4
        have s5 := same_new (o := .tup [.str "a", .int 0]) h5
        have s6 := same_new (o := .tup [.str ""]) h6
        have s7 := same_new (o := .tup [.str "abcdefghi"]) h7
        have s8 := same_new (o := .tup [.str "a"]) h8
        have s9 := same_new (o := .tup [.ref a8]) h9
        have c8 := s8.trans s9
        have c7 := s7.trans c8
        have c6 := s6.trans c7
        have c5 := s5.trans c6
        have c4 := s4.trans c5
        have c3 := s3.trans c4
        have c2 := s2.trans c3
        have c1 := s1'.trans c2
        have n1 := g2.at_ne h1
        have n2 := (g2.same s1').at_ne h2
        have n3 := (g2.same (s1'.trans s2)).at_ne h3
        have n4 := (g2.same ((s1'.trans s2).trans s3)).at_ne h4
        have n5 := (g2.same (((s1'.trans s2).trans s3).trans s4)).at_ne h5
        have n6 := (g2.same ((((s1'.trans s2).trans s3).trans s4).trans s5)).at_ne h6
        have n7 := (g2.same (((((s1'.trans s2).trans s3).trans s4).trans s5).trans s6)).at_ne h7
        have n8 := (g2.same ((((((s1'.trans s2).trans s3).trans s4).trans s5).trans s6).trans s7)).at_ne h8
        have n9 := (g2.same (((((((s1'.trans s2).trans s3).trans s4).trans s5).trans s6).trans s7).trans s8)).at_ne h9
        have gA := g2.same c1
        refine pick_new gA.dice hl0 (by simp) (show (12 : Nat) ≤ 1000 by decide) fun odd H4 hy g5 => ?_
        have hodd : Odd d H4 odd := by
          refine Odd.go ?_ g5
          simp only [List.mem_cons, List.not_mem_nil, or_false] at hy
          rcases hy with rfl | rfl | rfl | rfl | rfl | rfl | rfl | rfl | rfl | rfl | rfl | rfl
          · exact .flat (fun _ => .non) (fun _ e => nomatch e) (fun _ => rfl)
          · exact .flat (fun _ => .int 0) (fun _ e => nomatch e) (fun _ => rfl)
          · exact .flat (fun _ => .str "a" (by decide)) (fun _ e => nomatch e) (fun _ => rfl)
          · exact .lst (c2 _ _ upd_same) n1
          · exact .tup (c3 _ _ upd_same) n2 (by decide) (one_str (by decide)) (by decide +kernel)
          · exact .tup (c4 _ _ upd_same) n3 (by decide) (fun x hx => by
              rcases List.mem_cons.mp hx with rfl | hx
              · exact ⟨_, fun _ => .non⟩
              · cases hx) rfl
          · exact .dK (c5 _ _ upd_same) n4
          · exact .tup (c6 _ _ upd_same) n5 (by decide) (fun x hx => by
              simp only [List.mem_cons, List.not_mem_nil, or_false] at hx
              rcases hx with rfl | rfl
              · exact ⟨_, fun _ => .str "a" (by decide)⟩
              · exact ⟨_, fun _ => .int 0⟩) (by decide +kernel)
          · exact .tup (c7 _ _ upd_same) n6 (by decide) (one_str (by decide)) (by decide +kernel)
          · exact .tup (c8 _ _ upd_same) n7 (by decide) (one_str (by decide)) (by decide +kernel)
          · exact .tupt upd_same n9 (s9 _ _ upd_same) n8
          · exact .flat (fun _ => .bl true) (fun _ e => nomatch e) (fun _ => rfl)
        have g6 := gA.trans g5
        clear s1' s2 s3 s4 s5 s6 s7 s8 s9 c1 c2 c3 c4 c5 c6 c7 c8 n1 n2 n3 n4 n5 n6 n7 n8 n9 gA g5 hy
        walk_at "rr"
        refine fun e0 he0 => ?_
        walk_at "rr"
        have S7 := same_new (o := .dK []) he0
        have o7 := hodd.same S7
        obtain ⟨t, k1, k2, k3⟩ := o7.ok
        refine ⟨odd, _, t, rfl, k1, k2, k3, fun H8 S8 => ?_⟩
        have o8 := o7.same S8
        have g8 := g6.same (S7.trans S8)
        walk_at "rr"
        refine fun p5 h5 => ?_
        walk_at "rr"
        refine ⟨upd_same, [(.inr "a", .str "b")], rfl, by decide, ?_⟩
        have S9 := same_own (o := .dK (mergeK [] [(Sum.inr "a", V.str "b")])) (same_new (o := .dK []) h5) h5
        have g9 := g8.same S9
        walk_at "rr"
        refine ⟨show (3 : Nat) ≤ sizeLine by decide, fun l1 hl1 => ?_⟩
        walk_at "rr"
        refine pick_new g9.dice hl1 (by simp) (show (3 : Nat) ≤ 1000 by decide) fun y H10 _ g10 => ?_
        have o10 := (o8.same S9).go g10
        obtain ⟨t, k1, k2, k3⟩ := o10.ok
        walk_at "rr"
        refine ⟨odd, y, t, rfl, k1, k2, k3, fun H11 S11 => ?_⟩
        have g11 := (g9.trans g10).same S11
        walk_at "rr"
        exact ⟨_, _, _, _, _, _, _, _, _, _, _, rfl, Go.old sD hd1 g11⟩
    · rintro σ H1 ⟨v1, v2, v3, v4, v5, v6, v7, v8, v9, v10, v11, rfl, s1⟩
      walk_at "rr"
      refine ⟨show (2 : Nat) ≤ sizeLine by decide, fun t1 ht1 => ?_⟩
      walk_at "rr"
      refine fun p1 hp1 => ?_
      walk_at "rr"
      refine ⟨upd_same, [("a", .str "b"), ("b", .str "a")], rfl, by decide, fun ep1 => ?_⟩
      walk_at "rr"
      refine ⟨t1, ["a", "b"], .ref p1, some (mergedA [] [(kz "a", V.str "b"), (kz "b", V.str "a")]), rfl, same_own (same_new hp1) hp1 _ _ upd_same, by decide +kernel, by decide, Vd.made upd_same (by decide) (fun q hq => by
        simp only [List.mem_cons, List.not_mem_nil, or_false] at hq
        rcases hq with rfl | rfl <;> exact ⟨_, .str _ (by decide)⟩), fun H2 S2 => ?_⟩
      rw [ask1]
      walk_at "rr"
      refine ⟨Nat.zero_le _, fun t2 ht2 => ?_⟩
      walk_at "rr"
      refine fun p2 ep2 hp2 => ?_
      walk_at "rr"
      refine ⟨t2, [], .ref p2, some [], rfl, same_new hp2 _ _ upd_same, rfl, by decide, .ad upd_same (Nat.zero_le _) (fun _ z => nomatch z) List.nodup_nil, fun H3 S3 => ?_⟩
      rw [ask2]
      walk_at "rr"
      refine ⟨show (2 : Nat) ≤ sizeLine by decide, fun t3 ht3 => ?_⟩
      walk_at "rr"
      refine fun p3 hp3 => ?_
      walk_at "rr"
      refine ⟨upd_same, [("a", .str "q")], rfl, by decide, fun ep3 => ?_⟩
      walk_at "rr"
      refine ⟨t3, ["a", "a"], .ref p3, some (mergedA [] [(kz "a", V.str "q")]), rfl, same_own (same_new hp3) hp3 _ _ upd_same, by decide +kernel, by decide, Vd.made upd_same (by decide) (fun q hq => by
        simp only [List.mem_cons, List.not_mem_nil, or_false] at hq
        rcases hq with rfl <;> exact ⟨_, .str _ (by decide)⟩), fun H4 S4 => ?_⟩
      rw [ask3]
      walk_at "rr"
      refine ⟨show (3 : Nat) ≤ sizeLine by decide, fun p6 hp6 => ?_⟩
      walk_at "rr"
      refine ⟨show (1 : Nat) ≤ sizeLine by decide, fun t7 ht7 => ?_⟩
      walk_at "rr"
      refine fun p7 ep7 hp7 => ?_
      walk_at "rr"
      refine ⟨t7, ["a"], .ref p7, some [], rfl, same_new hp7 _ _ upd_same, by decide +kernel, by decide, .ad upd_same (Nat.zero_le _) (fun _ z => nomatch z) List.nodup_nil, fun H8 S8 => ?_⟩
      rw [ask4]
      have f8 := S8 _ _ (same_new (o := adK P w p7 ep7 []) hp7 _ _ (same_new (o := .tup [.str "a"]) ht7 _ _ (upd_same (H := H4) (a := p6) (o := .lst [.bl true, .bl true, .bl true]))))
      walk_at "rr"
      refine ⟨Nat.zero_le _, fun t9 ht9 => ?_⟩
      walk_at "rr"
      refine fun p9 hp9 => ?_
      walk_at "rr"
      refine ⟨upd_same, [("a", .str "b")], rfl, by decide, fun ep9 => ?_⟩
      walk_at "rr"
      refine ⟨t9, [], .ref p9, some (mergedA [] [(kz "a", V.str "b")]), rfl, same_own (same_new hp9) hp9 _ _ upd_same, rfl, by decide, Vd.made upd_same (by decide) (fun q hq => by
        simp only [List.mem_cons, List.not_mem_nil, or_false] at hq
        rcases hq with rfl <;> exact ⟨_, .str _ (by decide)⟩), fun H10 S10 => ?_⟩
      rw [ask5]
      have f10 := S10 _ _ (same_own (o := adK P w p9 ep9 (mergedA [] [(kz "a", V.str "b")])) (same_new (o := .dK []) hp9) hp9 _ _ (same_new (o := .tup []) ht9 _ _ f8))
      walk_at "rr"
      refine ⟨show (2 : Nat) ≤ sizeLine by decide, fun p11 hp11 => ?_⟩
      walk_at "rr"
      refine ⟨_, _, _, _, rfl, rfl, same_new hp11 _ _ f10, upd_same, (show 3 + 2 ≤ sizeLine by decide), fun p12 hp12 => ?_⟩
      walk_at "rr"
      refine ⟨show (5 : Nat) ≤ sizeLine by decide, fun p13 hp13 => ?_⟩
      have f13 := (same_new (o := .lst [V.bl true, .bl true, .bl true, .bl false, .bl false]) hp13) p12 _ upd_same
      walk_at "rr"
      refine ⟨_, _, .lst (SqL.of f13) (.cons (.bl _) (.cons (.bl _) (.cons (.bl _) (.cons (.bl _) (.cons (.bl _) .nil))))),
        .lst (SqL.of upd_same) (.cons (.bl _) (.cons (.bl _) (.cons (.bl _) (.cons (.bl _) (.cons (.bl _) .nil))))), by decide +kernel, by decide +kernel, ?_⟩
      exact q_bl (Q := Q) (by decide +kernel) (k _)
end
/-! ### the end -/
theorem all_mk {l : PySem.W.OpenLaw} {w : World} {K : PySem.W.Frag} {h : Heap} {mg : Str → Option Value} {fa cIP f0 f1 f2 f3 f4 f5 f6 f7 f8 f9 f10 f11 f12 : Addr} (X : K.In h) (G : h.Ns mainGlobals mg) (hfa : mg "law" = some (.ref fa))
    {od0 an0 od1 an1 od2 an2 od3 an3 od4 an4 od5 an5 od6 an6 od7 an7 od8 an8 od9 an9 od10 an10 od11 an11 od12 an12 : Option Addr} {sl0 sl1 sl2 sl3 sl4 sl5 sl6 sl7 sl8 sl9 sl10 sl11 sl12 : Array (Option Value)} {oc0 kV0 dc0 pm0 cd0 ct0 oc1 kV1 dc1 pm1 cd1 ct1 oc2 kV2 dc2 pm2 cd2 ct2 oc3 kV3 dc3 pm3 cd3 ct3 oc4 kV4 dc4 pm4 cd4 ct4 oc5 kV5 dc5 pm5 cd5 ct5 oc6 kV6 dc6 pm6 cd6 ct6 oc7 kV7 dc7 pm7 cd7 ct7 oc8 kV8 dc8 pm8 cd8 ct8 oc9 kV9 dc9 pm9 cd9 ct9 oc10 kV10 dc10 pm10 cd10 ct10 oc11 kV11 dc11 pm11 cd11 ct11 oc12 kV12 dc12 pm12 cd12 ct12 : Value} {t_ML : Tok}
    (g_IP : PySem.W.nsIn K mainGlobals "InvalidPlace" = some (some (.ref cIP)))
    (pk_IP : PySem.W.keepIn K (.ref cIP) = true)
    (pq_IP : PySem.W.excIn K cIP [.type "ValueError", .type "Exception", .type "BaseException", .type "object"] "ValueError.__new__" = true)
    (ps_IP : PySem.W.subIn K (.ref cIP) (.type "BaseException") = some true)
    (pt_IP : PySem.W.typeIn K (.ref cIP) = some (.type "type"))
    (px_IP : PySem.W.exmOne K (.ref cIP) (.ref cIP) = some true)
    (a0 : PySem.W.nsIn K mainGlobals "is_name" = some (some (.ref f0)))
    (l0 : K.lookup f0 = some ⟨oc0, od0, .func (PySem.W.fnOf "is_name" "is_name" (defArgs s_is_name) (defBody s_is_name) (defScope s_is_name) .none kV0 dc0 pm0 an0 cd0 ct0), sl0⟩)
    (c0 : PySem.W.codeIn K cd0 "is_name" = true)
    (k0 : PySem.W.keepIn K (.ref f0) = true)
    (a1 : PySem.W.nsIn K mainGlobals "are_names" = some (some (.ref f1)))
    (l1 : K.lookup f1 = some ⟨oc1, od1, .func (PySem.W.fnOf "are_names" "are_names" (defArgs s_are_names) (defBody s_are_names) (defScope s_are_names) .none kV1 dc1 pm1 an1 cd1 ct1), sl1⟩)
    (c1 : PySem.W.codeIn K cd1 "are_names" = true)
    (k1 : PySem.W.keepIn K (.ref f1) = true)
    (a2 : PySem.W.nsIn K mainGlobals "are_different_names" = some (some (.ref f2)))
    (l2 : K.lookup f2 = some ⟨oc2, od2, .func (PySem.W.fnOf "are_different_names" "are_different_names" (defArgs s_are_different_names) (defBody s_are_different_names) (defScope s_are_different_names) .none kV2 dc2 pm2 an2 cd2 ct2), sl2⟩)
    (c2 : PySem.W.codeIn K cd2 "are_different_names" = true)
    (k2 : PySem.W.keepIn K (.ref f2) = true)
    (a3 : PySem.W.nsIn K mainGlobals "is_naming" = some (some (.ref f3)))
    (l3 : K.lookup f3 = some ⟨oc3, od3, .func (PySem.W.fnOf "is_naming" "is_naming" (defArgs s_is_naming) (defBody s_is_naming) (defScope s_is_naming) .none kV3 dc3 pm3 an3 cd3 ct3), sl3⟩)
    (c3 : PySem.W.codeIn K cd3 "is_naming" = true)
    (k3 : PySem.W.keepIn K (.ref f3) = true)
    (a4 : PySem.W.nsIn K mainGlobals "_law_dice" = some (some (.ref f4)))
    (l4 : K.lookup f4 = some ⟨oc4, od4, .func (PySem.W.fnOf "_law_dice" "_law_dice" (defArgs s_law_dice) (defBody s_law_dice) (defScope s_law_dice) .none kV4 dc4 pm4 an4 cd4 ct4), sl4⟩)
    (c4 : PySem.W.codeIn K cd4 "_law_dice" = true)
    (k4 : PySem.W.keepIn K (.ref f4) = true)
    (a5 : PySem.W.nsIn K mainGlobals "_law_roll" = some (some (.ref f5)))
    (l5 : K.lookup f5 = some ⟨oc5, od5, .func (PySem.W.fnOf "_law_roll" "_law_roll" (defArgs s_law_roll) (defBody s_law_roll) (defScope s_law_roll) .none kV5 dc5 pm5 an5 cd5 ct5), sl5⟩)
    (c5 : PySem.W.codeIn K cd5 "_law_roll" = true)
    (k5 : PySem.W.keepIn K (.ref f5) = true)
    (a6 : PySem.W.nsIn K mainGlobals "_law_pick" = some (some (.ref f6)))
    (l6 : K.lookup f6 = some ⟨oc6, od6, .func (PySem.W.fnOf "_law_pick" "_law_pick" (defArgs s_law_pick) (defBody s_law_pick) (defScope s_law_pick) .none kV6 dc6 pm6 an6 cd6 ct6), sl6⟩)
    (c6 : PySem.W.codeIn K cd6 "_law_pick" = true)
    (k6 : PySem.W.keepIn K (.ref f6) = true)
    (a7 : PySem.W.nsIn K mainGlobals "_law_mixed" = some (some (.ref f7)))
    (l7 : K.lookup f7 = some ⟨oc7, od7, .func (PySem.W.fnOf "_law_mixed" "_law_mixed" (defArgs s_law_mixed) (defBody s_law_mixed) (defScope s_law_mixed) .none kV7 dc7 pm7 an7 cd7 ct7), sl7⟩)
    (c7 : PySem.W.codeIn K cd7 "_law_mixed" = true)
    (k7 : PySem.W.keepIn K (.ref f7) = true)
    (a8 : PySem.W.nsIn K mainGlobals "_law_is_word" = some (some (.ref f8)))
    (l8 : K.lookup f8 = some ⟨oc8, od8, .func (PySem.W.fnOf "_law_is_word" "_law_is_word" (defArgs s_law_is_word) (defBody s_law_is_word) (defScope s_law_is_word) .none kV8 dc8 pm8 an8 cd8 ct8), sl8⟩)
    (c8 : PySem.W.codeIn K cd8 "_law_is_word" = true)
    (k8 : PySem.W.keepIn K (.ref f8) = true)
    (a9 : PySem.W.nsIn K mainGlobals "_law_due" = some (some (.ref f9)))
    (l9 : K.lookup f9 = some ⟨oc9, od9, .func (PySem.W.fnOf "_law_due" "_law_due" (defArgs s_law_due) (defBody s_law_due) (defScope s_law_due) .none kV9 dc9 pm9 an9 cd9 ct9), sl9⟩)
    (c9 : PySem.W.codeIn K cd9 "_law_due" = true)
    (k9 : PySem.W.keepIn K (.ref f9) = true)
    (a10 : PySem.W.nsIn K mainGlobals "_law_is_refused" = some (some (.ref f10)))
    (l10 : K.lookup f10 = some ⟨oc10, od10, .func (PySem.W.fnOf "_law_is_refused" "_law_is_refused" (defArgs s_law_is_refused) (defBody s_law_is_refused) (defScope s_law_is_refused) .none kV10 dc10 pm10 an10 cd10 ct10), sl10⟩)
    (c10 : PySem.W.codeIn K cd10 "_law_is_refused" = true)
    (k10 : PySem.W.keepIn K (.ref f10) = true)
    (a11 : PySem.W.nsIn K mainGlobals "_law_bent" = some (some (.ref f11)))
    (l11 : K.lookup f11 = some ⟨oc11, od11, .func (PySem.W.fnOf "_law_bent" "_law_bent" (defArgs s_law_bent) (defBody s_law_bent) (defScope s_law_bent) .none kV11 dc11 pm11 an11 cd11 ct11), sl11⟩)
    (c11 : PySem.W.codeIn K cd11 "_law_bent" = true)
    (k11 : PySem.W.keepIn K (.ref f11) = true)
    (a12 : PySem.W.nsIn K mainGlobals "law" = some (some (.ref f12)))
    (l12 : K.lookup f12 = some ⟨oc12, od12, .func (PySem.W.fnOf "law" "law" (defArgs s_law) (defBody s_law) (defScope s_law) .none kV12 dc12 pm12 an12 cd12 ct12), sl12⟩)
    (c12 : PySem.W.codeIn K cd12 "law" = true)
    (k12 : PySem.W.keepIn K (.ref f12) = true)
    (z_isinstance : PySem.W.nsIn K mainGlobals "isinstance" = some none)
    (z_str : PySem.W.nsIn K mainGlobals "str" = some none)
    (z_len : PySem.W.nsIn K mainGlobals "len" = some none)
    (z_all : PySem.W.nsIn K mainGlobals "all" = some none)
    (z_tuple : PySem.W.nsIn K mainGlobals "tuple" = some none)
    (z_set : PySem.W.nsIn K mainGlobals "set" = some none)
    (z_dict : PySem.W.nsIn K mainGlobals "dict" = some none)
    (z_int : PySem.W.nsIn K mainGlobals "int" = some none)
    (z_abs : PySem.W.nsIn K mainGlobals "abs" = some none)
    (z_max : PySem.W.nsIn K mainGlobals "max" = some none)
    (z_min : PySem.W.nsIn K mainGlobals "min" = some none)
    (z_range : PySem.W.nsIn K mainGlobals "range" = some none)
    (z_list : PySem.W.nsIn K mainGlobals "list" = some none)
    (z_sorted : PySem.W.nsIn K mainGlobals "sorted" = some none)
    (y_ML : PySem.W.nsIn K mainGlobals "MAX_LETTERS" = some (some (.int 8 t_ML)))
    : ∃ fd : FuncData, (∀ (s : Shared) (v : Value), BindsTo s fd ⟨[v], []⟩ [("script", v)]) ∧ ∀ base : Heap, K.In base → base.Ns mainGlobals mg → FnOk l.prog w K mg base CX0 6 fa fd ["script"] (spLaw K) := by
  have e := hfa.symm.trans (PySem.W.mg_of X G a12)
  cases e
  have T : Txt K mg := { n_isinstance := PySem.W.mg_none_of X G z_isinstance, n_str := PySem.W.mg_none_of X G z_str, n_len := PySem.W.mg_none_of X G z_len, n_all := PySem.W.mg_none_of X G z_all, n_tuple := PySem.W.mg_none_of X G z_tuple, n_set := PySem.W.mg_none_of X G z_set, n_dict := PySem.W.mg_none_of X G z_dict, n_int := PySem.W.mg_none_of X G z_int, n_abs := PySem.W.mg_none_of X G z_abs, n_max := PySem.W.mg_none_of X G z_max, n_min := PySem.W.mg_none_of X G z_min, n_range := PySem.W.mg_none_of X G z_range, n_list := PySem.W.mg_none_of X G z_list, n_sorted := PySem.W.mg_none_of X G z_sorted, c_MAX_LETTERS := ⟨_, PySem.W.mg_of X G y_ML⟩, p_IP := ⟨cIP, PySem.W.mg_of X G g_IP, pk_IP, pq_IP, ps_IP, pt_IP, px_IP⟩ }
  have F0 := fun_mk (st := s_is_name) l0 c0 k0
  have b0 := F0.binds (ps := ["value"]) fun _ _ _ _ _ _ us hl => match us, hl with | [_], _ => rfl
  have F1 := fun_mk (st := s_are_names) l1 c1 k1
  have b1 := F1.binds (ps := ["value"]) fun _ _ _ _ _ _ us hl => match us, hl with | [_], _ => rfl
  have F2 := fun_mk (st := s_are_different_names) l2 c2 k2
  have b2 := F2.binds (ps := ["value"]) fun _ _ _ _ _ _ us hl => match us, hl with | [_], _ => rfl
  have F3 := fun_mk (st := s_is_naming) l3 c3 k3
  have b3 := F3.binds (ps := ["names", "value"]) fun _ _ _ _ _ _ us hl => match us, hl with | [_, _], _ => rfl
  have F4 := fun_mk (st := s_law_dice) l4 c4 k4
  have b4 := F4.binds (ps := ["script", "spot"]) fun _ _ _ _ _ _ us hl => match us, hl with | [_, _], _ => rfl
  have F5 := fun_mk (st := s_law_roll) l5 c5 k5
  have b5 := F5.binds (ps := ["dice", "total"]) fun _ _ _ _ _ _ us hl => match us, hl with | [_, _], _ => rfl
  have F6 := fun_mk (st := s_law_pick) l6 c6 k6
  have b6 := F6.binds (ps := ["dice", "items"]) fun _ _ _ _ _ _ us hl => match us, hl with | [_, _], _ => rfl
  have F7 := fun_mk (st := s_law_mixed) l7 c7 k7
  have b7 := F7.binds (ps := ["dice", "items"]) fun _ _ _ _ _ _ us hl => match us, hl with | [_, _], _ => rfl
  have F8 := fun_mk (st := s_law_is_word) l8 c8 k8
  have b8 := F8.binds (ps := ["value"]) fun _ _ _ _ _ _ us hl => match us, hl with | [_], _ => rfl
  have F9 := fun_mk (st := s_law_due) l9 c9 k9
  have b9 := F9.binds (ps := ["names", "value"]) fun _ _ _ _ _ _ us hl => match us, hl with | [_, _], _ => rfl
  have F10 := fun_mk (st := s_law_is_refused) l10 c10 k10
  have b10 := F10.binds (ps := ["names", "value"]) fun _ _ _ _ _ _ us hl => match us, hl with | [_, _], _ => rfl
  have F11 := fun_mk (st := s_law_bent) l11 c11 k11
  have b11 := F11.binds (ps := ["dice", "names", "value"]) fun _ _ _ _ _ _ us hl => match us, hl with | [_, _, _], _ => rfl
  have F12 := fun_mk (st := s_law) l12 c12 k12
  refine ⟨PySem.W.fnOf "law" "law" (defArgs s_law) (defBody s_law) (defScope s_law) .none kV12 dc12 pm12 an12 cd12 ct12, fun s v => .of_eq rfl, fun base _ _ => ?_⟩
  have D0 := Dfn.mk (PySem.W.mg_of X G a0) k0 b0 (ok_is_name (P := l.prog) (w := w) (base := base) F0 T )
  have D1 := Dfn.mk (PySem.W.mg_of X G a1) k1 b1 (ok_are_names (P := l.prog) (w := w) (base := base) F1 T D0)
  have D2 := Dfn.mk (PySem.W.mg_of X G a2) k2 b2 (ok_are_different_names (P := l.prog) (w := w) (base := base) F2 T D1)
  have D3 := Dfn.mk (PySem.W.mg_of X G a3) k3 b3 (ok_is_naming (P := l.prog) (w := w) (base := base) F3 T D1 D2)
  have DX3 := DfnX.mk ⟨_, _, PySem.W.mg_of X G a3, k3, b3, okx_is_naming (P := l.prog) (w := w) (base := base) F3 T D1 D2⟩
  have D4 := Dfn.mk (PySem.W.mg_of X G a4) k4 b4 (ok_law_dice (P := l.prog) (w := w) (base := base) F4 T )
  have D5 := Dfn.mk (PySem.W.mg_of X G a5) k5 b5 (ok_law_roll (P := l.prog) (w := w) (base := base) F5 T )
  have D6 := Dfn.mk (PySem.W.mg_of X G a6) k6 b6 (ok_law_pick (P := l.prog) (w := w) (base := base) F6 T D5)
  have D7 := Dfn.mk (PySem.W.mg_of X G a7) k7 b7 (ok_law_mixed (P := l.prog) (w := w) (base := base) F7 T D5)
  have D8 := Dfn.mk (PySem.W.mg_of X G a8) k8 b8 (ok_law_is_word (P := l.prog) (w := w) (base := base) F8 T )
  have D9 := Dfn.mk (PySem.W.mg_of X G a9) k9 b9 (ok_law_due (P := l.prog) (w := w) (base := base) F9 T D8)
  have D10 := Dfn.mk (PySem.W.mg_of X G a10) k10 b10 (ok_law_is_refused (P := l.prog) (w := w) (base := base) F10 T DX3)
  have D11 := Dfn.mk (PySem.W.mg_of X G a11) k11 b11 (ok_law_bent (P := l.prog) (w := w) (base := base) F11 T D5 D6)
  exact ok_law F12 T D4 D5 D6 D7 D3 D9 D11 D10
end K2
open PySem PySem.W PyProof.Rows
set_option maxRecDepth 100000 in
set_option maxHeartbeats 0 in
theorem PySem.Challenge.cw_wheelgrown_k02_whole_namings_holds : PySem.Challenge.rw_wheelgrown_k02_whole_namings.Holds := by
  w_on; o_law; k_head; (case hw => w_witness2)
  k_fill
  refine L2.walk_of (l := PySem.Challenge.rw_wheelgrown_k02_whole_namings) (n := 63) (k := 6) (x := "script") (CX := fun _ => L2.CX0) (sp := fun w => K2.spLaw _) rfl (by decide) rfl ⟨rfl, by decide, by decide⟩ (fun w h Y => PySem.W.kIn_of Y) ?F (fun _ _ a ns hl _ hS => ⟨a, ns, hS, rfl, hl, fun _ => rfl⟩) fun _ _ _ _ _ z => z
  case F =>
    intro w mg fa h KX G hmg
    refine' K2.all_mk KX G hmg ?h_g_IP ?h_pk_IP ?h_pq_IP ?h_ps_IP ?h_pt_IP ?h_px_IP ?h_a0 ?h_l0 ?h_c0 ?h_k0 ?h_a1 ?h_l1 ?h_c1 ?h_k1 ?h_a2 ?h_l2 ?h_c2 ?h_k2 ?h_a3 ?h_l3 ?h_c3 ?h_k3 ?h_a4 ?h_l4 ?h_c4 ?h_k4 ?h_a5 ?h_l5 ?h_c5 ?h_k5 ?h_a6 ?h_l6 ?h_c6 ?h_k6 ?h_a7 ?h_l7 ?h_c7 ?h_k7 ?h_a8 ?h_l8 ?h_c8 ?h_k8 ?h_a9 ?h_l9 ?h_c9 ?h_k9 ?h_a10 ?h_l10 ?h_c10 ?h_k10 ?h_a11 ?h_l11 ?h_c11 ?h_k11 ?h_a12 ?h_l12 ?h_c12 ?h_k12 ?h_z_isinstance ?h_z_str ?h_z_len ?h_z_all ?h_z_tuple ?h_z_set ?h_z_dict ?h_z_int ?h_z_abs ?h_z_max ?h_z_min ?h_z_range ?h_z_list ?h_z_sorted ?h_y_ML
    (case h_g_IP => k_is)
    (case h_pk_IP => k_is)
    (case h_pq_IP => k_exc)
    (case h_ps_IP => k_is)
    (case h_pt_IP => k_is)
    (case h_px_IP => (first | rfl | decide +kernel | k_is))
    (case h_a0 => k_is)
    (case h_l0 => k_is)
    (case h_c0 => k_is)
    (case h_k0 => k_is)
    (case h_a1 => k_is)
    (case h_l1 => k_is)
    (case h_c1 => k_is)
    (case h_k1 => k_is)
    (case h_a2 => k_is)
    (case h_l2 => k_is)
    (case h_c2 => k_is)
    (case h_k2 => k_is)
    (case h_a3 => k_is)
    (case h_l3 => k_is)
    (case h_c3 => k_is)
    (case h_k3 => k_is)
    (case h_a4 => k_is)
    (case h_l4 => k_is)
    (case h_c4 => k_is)
    (case h_k4 => k_is)
    (case h_a5 => k_is)
    (case h_l5 => k_is)
    (case h_c5 => k_is)
    (case h_k5 => k_is)
    (case h_a6 => k_is)
    (case h_l6 => k_is)
    (case h_c6 => k_is)
    (case h_k6 => k_is)
    (case h_a7 => k_is)
    (case h_l7 => k_is)
    (case h_c7 => k_is)
    (case h_k7 => k_is)
    (case h_a8 => k_is)
    (case h_l8 => k_is)
    (case h_c8 => k_is)
    (case h_k8 => k_is)
    (case h_a9 => k_is)
    (case h_l9 => k_is)
    (case h_c9 => k_is)
    (case h_k9 => k_is)
    (case h_a10 => k_is)
    (case h_l10 => k_is)
    (case h_c10 => k_is)
    (case h_k10 => k_is)
    (case h_a11 => k_is)
    (case h_l11 => k_is)
    (case h_c11 => k_is)
    (case h_k11 => k_is)
    (case h_a12 => k_is)
    (case h_l12 => k_is)
    (case h_c12 => k_is)
    (case h_k12 => k_is)
    (case h_z_isinstance => k_is)
    (case h_z_str => k_is)
    (case h_z_len => k_is)
    (case h_z_all => k_is)
    (case h_z_tuple => k_is)
    (case h_z_set => k_is)
    (case h_z_dict => k_is)
    (case h_z_int => k_is)
    (case h_z_abs => k_is)
    (case h_z_max => k_is)
    (case h_z_min => k_is)
    (case h_z_range => k_is)
    (case h_z_list => k_is)
    (case h_z_sorted => k_is)
    (case h_y_ML => k_is)
#print axioms PySem.Challenge.cw_wheelgrown_k02_whole_namings_holds
