import PyProof.Rows.All
import Wide.All
import OpenK.AllK
import Wide.FinOn
import HandS.ForMost
import HandS.ForExc
import HandS.TryOnly
import HandS.IsInst
import HandS.Wide
import HandS.Conv
import HandS.SetFor
import HandS.Set
import HandS.SetTxt0
import HandS.Strs
import HandS.TupSets
import HandS.SortOrd
import HandS.Style
import HandS.Deep
import HandS.Zip
import HandS.TupAny
import HandS.Lambda
import HandS.EndOwn
import HandS.ExcValue
import KE.KDictList
import KE.KSortTup
import KE.LtSeq
import PyProof.EqKinds
import PyProof.Rows.SortShellAny
import PySem.Challenge.RW_wheelgrown_k05_which_webs_there_are
set_option Elab.async false
set_option linter.all false
set_option maxRecDepth 100000
set_option maxHeartbeats 2000000
/-! The law k05, by hand: a promise for each def. -/
/-! ## Sets of anything, filled from a list or a tuple: what stands at the set's address is a letter Z, from turn to turn -/
namespace ZS
open PySem PySem.Spec PyProof.Rows L2
section
variable {P : Program} {w : World} {A : Around} {R : Result → Shared → Prop} {I S : Addr} {fp wr : List Addr} {G : Array GenState → Array GenState → Prop} {n : Nat} {Pv : Nat → Value → Prop} {St : Nat → Shared → Prop} {Z : Nat → Heap → Prop}
/-- what one add asks and leaves -/
def Adds (P : Program) (w : World) (S : Addr) (n : Nat) (Pv : Nat → Value → Prop) (Ok : Heap → Prop) (Z : Nat → Heap → Prop) : Prop := ∀ (A : Around) (E : Value → Shared → Prop) (i : Nat) (v : Value) (s : Shared) (Q : Bool → Shared → Prop), i < n → Pv i v → Ok s.heap → Z i s.heap →
  (∀ b h' tk, Heap.SameBut S s.heap h' → s.toks ≤ tk → Z (i + 1) h' → Q b { s with heap := h', toks := tk }) → wpAny (model P w) A (setAdd S v) Q E s
theorem fill (W : WalksS P w A.in1 I fp wr G n Pv St) (hS : S ∉ fp) (hZ : ∀ i h h', (∀ o, h.get? S = some o → h'.get? S = some o) → Z i h → Z i h') {Ok : Heap → Prop} (hO : ∀ h h', (∀ b o, b ≠ S → b ∉ wr → h.get? b = some o → h'.get? b = some o) → Ok h → Ok h') (ad : Adds P w S n Pv Ok Z) :
    ∀ (k i : Nat) (s : Shared), n - i = k → i ≤ n → St i s → Ok s.heap → Z i s.heap → (∀ s', Moved (S :: wr) G s s' → Z n s'.heap → R (.ok (.ret .none)) s') → codeAny (model P w) A (.builtin "set.update.loop" ⟨[.ref S, .ref I], []⟩) R s
  | 0, i, s, hk, hi, st, ok, z, fin => by
    obtain rfl : i = n := by omega
    have hw : S ∉ wr := fun q => hS (W.sub _ q)
    refine codeAny_builtin F.entry_set_update_loop ?_; rw [Around.under_plainId F.plain_set_update_loop _]; show wpAny _ A.in1 (pyNext (.ref I) >>= _) _ _ s
    refine wpAny_bind (W.done s _ _ st fun s1 m => wpAny_pure (fin s1 ?_ (hZ _ _ _ (fun o e => m.heap S o hw e) z)))
    exact ⟨fun b o hb e => m.heap b o (fun q => hb (List.mem_cons_of_mem _ q)) e, m.gens, m.drawn, m.os, m.toks⟩
  | k + 1, i, s, hk, hi, st, ok, z, fin => by
    have hw : S ∉ wr := fun q => hS (W.sub _ q)
    have hlt : i < n := by omega
    refine codeAny_builtin F.entry_set_update_loop ?_; rw [Around.under_plainId F.plain_set_update_loop _]; show wpAny _ A.in1 (pyNext (.ref I) >>= _) _ _ s
    refine wpAny_bind (W.item i s _ _ hlt st fun v s1 hv st1 m => ?_)
    have z1 : Z i s1.heap := hZ _ _ _ (fun o e => m.heap S o hw e) z
    show wpAny _ A.in1 (holding [v] (setAdd S v) >>= _) _ _ s1
    refine wpAny_bind (wpAny_holding (ad _ _ i v s1 _ hlt hv (hO _ _ (fun b o _ hb e => m.heap b o hb e) ok) z1 fun b h' tk sb ht z2 => wpAny_pure ⟨plainId_quiet F.plain_set_update_loop _, ?_⟩))
    have keep : ∀ c o, c ≠ S → s1.heap.get? c = some o → h'.get? c = some o := fun c o hc e => by rw [sb.2 c hc]; exact e
    refine fill W hS hZ hO ad k (i + 1) _ (by omega) hlt (W.frame _ s1 _ _ st1 ht fun c hc o e => keep c o (fun q => hS (q ▸ hc)) e) (hO _ _ (fun c o hc hb e => keep c o hc (m.heap c o hb e)) ok) z2 fun s2 m2 z3 => fin s2 ?_ z3
    exact ⟨fun c o hc e => m2.heap c o hc (keep c o (fun q => hc (q ▸ List.mem_cons_self)) (m.heap c o (fun q => hc (List.mem_cons_of_mem _ q)) e)), W.gtrans _ _ _ m.gens m2.gens, m2.drawn.trans m.drawn, m2.os.trans m.os, Nat.le_trans m.toks (Nat.le_trans ht m2.toks)⟩
end
/-- the empty set that a call of set makes first -/
abbrev fresh (w : World) : Obj := { cls := .type "set", dict := none, data := .set #[] 0 (.fresh 0 0 (!w.params.followText "set-order")) }
section
variable {P : Program} {w : World} {A : Around} {E : Value → Shared → Prop} {s : Shared} {Z : Nat → Heap → Prop}
set_option maxHeartbeats 6400000 in
/-- set(x), x a list or a tuple (T) of the items at l -/
theorem call_set {T : String} {l : Addr} {items : Array Value} (hh : A.handled = none) (hl : (T = "list" ∧ s.heap.IsList l items) ∨ (T = "tuple" ∧ s.heap.IsTuple l items))
    (hZ : ∀ i h h', (∀ o, h.get? s.heap.objs.size = some o → h'.get? s.heap.objs.size = some o) → Z i h → Z i h')
    (z0 : ∀ h, h.get? s.heap.objs.size = some (fresh w) → Z 0 h) {Q : Value → Shared → Prop}
    (ad : Adds P w s.heap.objs.size items.size (fun i v => items[i]? = some v) (fun h' => ∀ b o, s.heap.get? b = some o → h'.get? b = some o) Z)
    (h : ∀ (h' : Heap) (tk : Nat), Z items.size h' → (∀ b o, s.heap.get? b = some o → h'.get? b = some o) → Q (.ref s.heap.objs.size) { s with heap := h', toks := tk }) :
    wpAny (model P w) A (call (.type "set") [.ref l]) Q E s := by
  have hlS : l < s.heap.objs.size := by
    rcases hl with ⟨_, o, ho, _⟩ | ⟨_, o, ho, _⟩ <;> exact Heap.lt_size ho
  obtain ⟨c, tl, hmro⟩ := PySem.F.called_set.mro
  have made := PySem.F.called_set.made
  have sub := PySem.F.called_set.sub
  refine wpAny_call (codeAny_of_tree (show wpAny _ _ (callAny (.type "set") _) _ _ _ from ?_))
  refine wpAny_pure ⟨Code.quiet_builtin _ (by decide +kernel), codeAny_builtin PySem.F.entry_type_call ?_⟩
  rw [Around.under_plain (weight_type_call_type "set" [.ref l] []) rfl]
  have g1 := PySem.F.called_set.notType
  have g2 := PySem.F.called_set.canCreate
  have g3 := PySem.F.typeCall_set_1 (.ref l)
  repeat (any_goals (first | assumption | wp_step))
  refine codeAny_mono (code_set_led1 (P := P) (.ref l) (E := E) (Q₁ := fun obj s₁ => obj = .ref s.heap.objs.size ∧ s₁ = { s with heap := s.heap.push (fresh w) }) ⟨rfl, rfl⟩) fun r s₁ hr => ?_
  cases r with
  | error e => exact hr
  | ok fl =>
    cases fl with
    | ret obj =>
      obtain ⟨rfl, rfl⟩ := hr
      have atS : (s.heap.push (fresh w)).get? s.heap.objs.size = some (fresh w) := Heap.get?_push_size _ rfl
      have tyS : Shared.TypeIs { s with heap := s.heap.push (fresh w) } (.ref s.heap.objs.size) "set" := ⟨_, atS, rfl⟩
      have li := PySem.F.called_set.init.lookup
      have bi := PySem.F.called_set.init.bind (.ref s.heap.objs.size)
      repeat (any_goals (first | assumption | wp_step))
      refine codeAny_mono (codeAny_call_builtin (R := wants (fun r s₂ => r = .none ∧ ∃ h' tk, s₂ = { s with heap := h', toks := tk } ∧ Z items.size h' ∧ (∀ b o, s.heap.get? b = some o → h'.get? b = some o)) E) PySem.F.called_set.init.plain PySem.F.entry_set_init (check_set_init_1 tyS ?_)) fun r₂ s₂ hr₂ => ?_
      · have hh3 : A.in1.in1.in1.handled = none := by simp [hh]
        have neI : l ≠ (s.heap.push (fresh w)).objs.size := by
          rw [Heap.size_push]
          exact Nat.ne_of_lt (Nat.lt_succ_of_lt hlS)
        have outS : s.heap.objs.size ∉ [(s.heap.push (fresh w)).objs.size, l] := by
          rw [Heap.size_push]
          simp only [List.mem_cons, List.not_mem_nil, or_false, not_or]
          exact ⟨Nat.ne_of_lt (Nat.lt_succ_self _), Nat.ne_of_gt hlS⟩
        have fin : ∀ s' : Shared, Moved (s.heap.objs.size :: [(s.heap.push (fresh w)).objs.size]) (fun a b => b = a) { s with heap := s.heap.push (fresh w) } s' → Z items.size s'.heap →
            ∃ h' tk, s' = { s with heap := h', toks := tk } ∧ Z items.size h' ∧ (∀ b o, s.heap.get? b = some o → h'.get? b = some o) := fun s' m z => by
          obtain ⟨h', g', d', tk', os'⟩ := s'
          cases (show g' = s.gens from m.gens)
          cases (show d' = s.drawn from m.drawn)
          cases (show os' = s.os from m.os)
          refine ⟨h', tk', rfl, z, fun b o e => m.heap b o ?_ (Heap.get?_push_of_some _ e)⟩
          have lt := Heap.lt_size e
          rw [Heap.size_push]
          simp only [List.mem_cons, List.not_mem_nil, or_false, not_or]
          exact ⟨Nat.ne_of_lt lt, Nat.ne_of_lt (Nat.lt_succ_of_lt lt)⟩
        have okS : ∀ h h' : Heap, (∀ b o, b ≠ s.heap.objs.size → b ∉ [(s.heap.push (fresh w)).objs.size] → h.get? b = some o → h'.get? b = some o) → (∀ b o, s.heap.get? b = some o → h.get? b = some o) → ∀ b o, s.heap.get? b = some o → h'.get? b = some o := fun h h' k q b o e => by
          have lt := Heap.lt_size e
          refine k b o (Nat.ne_of_lt lt) ?_ (q b o e)
          rw [Heap.size_push, List.mem_singleton]
          exact Nat.ne_of_lt (Nat.lt_succ_of_lt lt)
        have ne1 : (Value.type "list" == Value.type "dict") = false := by decide
        have ne2 : (Value.type "tuple" == Value.type "dict") = false := by decide
        have a1 := PySem.F.sub_list_set
        have a2 := PySem.F.sub_list_frozenset
        have a3 := F.sub_tuple_set
        have a4 := F.sub_tuple_frozenset
        rcases hl with ⟨rfl, hl⟩ | ⟨rfl, hl⟩
        · obtain ⟨⟨ocls, odict, odata, oslots⟩, ho, hcl, nl, hdl⟩ := hl
          simp only at hcl hdl
          subst hcl hdl
          have ho' : (s.heap.push (fresh w)).get? l = some { cls := .type "list", dict := odict, data := .seq items nl, slots := oslots } := Heap.get?_push_of_some _ ho
          have l1 : (s.heap.push (fresh w)).IsList l items := ⟨_, ho', rfl, nl, rfl⟩
          unfold Builtin.«set.__init__» noKeywords Builtin.Frozenset.updateFrom
          generalize hPI : pyIter = PI
          wp_walk
          subst hPI
          refine wpAny_pyIter_list l1 (wpAny_bind (wpAny_runValue (fill ((Walks.list hh3 _ l neI items).toS) outS hZ okS ad (items.size - 0) 0 _ (by omega) (Nat.zero_le _) ⟨⟨_, Heap.get?_push_size _ rfl, rfl, rfl⟩, l1.push _⟩ (fun b o e => Heap.get?_push_of_some _ (Heap.get?_push_of_some _ e)) (z0 _ (Heap.get?_push_of_some _ atS)) fun s' m z => ?_)))
          obtain ⟨h', tk, rfl, z2, kp⟩ := fin s' ⟨fun b o hb e => m.heap b o hb (Heap.get?_push_of_some _ e), m.gens, m.drawn, m.os, m.toks⟩ z
          exact wpAny_pure (wpAny_pure ⟨rfl, h', tk, rfl, z2, kp⟩)
        · obtain ⟨⟨ocls, odict, odata, oslots⟩, ho, hcl, nl, hdl⟩ := hl
          simp only at hcl hdl
          subst hcl hdl
          have ho' : (s.heap.push (fresh w)).get? l = some { cls := .type "tuple", dict := odict, data := .seq items nl, slots := oslots } := Heap.get?_push_of_some _ ho
          have l1 : (s.heap.push (fresh w)).IsTuple l items := ⟨_, ho', rfl, nl, rfl⟩
          unfold Builtin.«set.__init__» noKeywords Builtin.Frozenset.updateFrom
          generalize hPI : pyIter = PI
          wp_walk
          subst hPI
          refine wpAny_pyIter_tuple l1 (wpAny_bind (wpAny_runValue (fill ((Walks.tuple hh3 _ l neI items).toS) outS hZ okS ad (items.size - 0) 0 _ (by omega) (Nat.zero_le _) ⟨⟨_, Heap.get?_push_size _ rfl, rfl, rfl⟩, l1.push _⟩ (fun b o e => Heap.get?_push_of_some _ (Heap.get?_push_of_some _ e)) (z0 _ (Heap.get?_push_of_some _ atS)) fun s' m z => ?_)))
          obtain ⟨h', tk, rfl, z2, kp⟩ := fin s' ⟨fun b o hb e => m.heap b o hb (Heap.get?_push_of_some _ e), m.gens, m.drawn, m.os, m.toks⟩ z
          exact wpAny_pure (wpAny_pure ⟨rfl, h', tk, rfl, z2, kp⟩)
      · cases r₂ with
        | error e => exact hr₂
        | ok fl₂ =>
          cases fl₂ with
          | ret r =>
            obtain ⟨rfl, h', tk, rfl, z, kp⟩ := hr₂
            repeat (any_goals (first | assumption | wp_step))
            exact h _ _ z kp
          | _ => exact hr₂.elim
    | _ => exact hr.elim
end
end ZS
/-! ## Sets of texts -/
namespace ZS
open PySem PySem.Spec PyProof.Rows L2 PySem.Froz
/-- the texts of a list, each once, those met first first -/
def put (acc : List Str) (x : Str) : List Str := if x ∈ acc then acc else x :: acc
def nub (xs : List Str) : List Str := xs.foldl put []
theorem nub_snoc (xs : List Str) (x : Str) : nub (xs ++ [x]) = if x ∈ nub xs then nub xs else x :: nub xs := by
  unfold nub
  rw [List.foldl_append]
  rfl
theorem put_mem (acc : List Str) (x y : Str) : y ∈ put acc x ↔ y ∈ acc ∨ y = x := by
  unfold put
  split
  · rename_i h
    exact ⟨.inl, fun q => q.elim id fun e => e ▸ h⟩
  · rw [List.mem_cons]
    exact Or.comm
theorem puts_mem : ∀ (xs acc : List Str) (y : Str), y ∈ xs.foldl put acc ↔ y ∈ acc ∨ y ∈ xs
  | [], acc, y => by simp
  | x :: xs, acc, y => by
    rw [List.foldl_cons, puts_mem xs, put_mem, List.mem_cons, or_assoc]
theorem nub_mem (xs : List Str) (x : Str) : x ∈ nub xs ↔ x ∈ xs := by
  unfold nub
  rw [puts_mem]
  simp
theorem puts_nodup : ∀ (xs acc : List Str), acc.Nodup → (xs.foldl put acc).Nodup
  | [], _, h => h
  | x :: xs, acc, h => by
    refine puts_nodup xs (put acc x) ?_
    unfold put
    split
    · exact h
    · rename_i q
      exact List.nodup_cons.mpr ⟨q, h⟩
theorem nub_nodup (xs : List Str) : (nub xs).Nodup := puts_nodup xs [] List.nodup_nil
theorem puts_le : ∀ (xs acc : List Str), (xs.foldl put acc).length ≤ acc.length + xs.length
  | [], _ => Nat.le_refl _
  | x :: xs, acc => by
    refine Nat.le_trans (puts_le xs (put acc x)) ?_
    unfold put
    split
    · rw [List.length_cons]
      omega
    · rw [List.length_cons, List.length_cons]
      omega
theorem nub_le (xs : List Str) : (nub xs).length ≤ xs.length := by
  have := puts_le xs []
  rw [List.length_nil, Nat.zero_add] at this
  exact this
/-- the set of the texts l stands at a, in a table that can be walked -/
structure TxSet (P : Program) (w : World) (l : List Str) (a : Addr) (h : Heap) : Prop where
  ex : ∃ D : SD, h.get? a = some (sObj "set" D) ∧ TxOk P w D l ∧ Ris D.2.2.place.toList ∧ (w.params.followText "set-order" = true ∨ D.2.2.led = true)
section
variable {P : Program} {w : World} {A : Around} {E : Value → Shared → Prop} {s : Shared}
theorem TxSet.keep {l : List Str} {a : Addr} {h h' : Heap} (z : TxSet P w l a h) (k : ∀ o, h.get? a = some o → h'.get? a = some o) : TxSet P w l a h' := by
  obtain ⟨D, e, r⟩ := z.ex
  exact ⟨D, k _ e, r⟩
theorem TxSet.empty {a : Addr} {h : Heap} (e : h.get? a = some (fresh w)) : TxSet P w [] a h :=
  ⟨(#[], 0, _), e, TxOk.nil rfl, List.Pairwise.nil, by
    show _ ∨ (!w.params.followText "set-order") = true
    cases w.params.followText "set-order"
    · exact .inr rfl
    · exact .inl rfl⟩
theorem tail_ris {ep : Nat} {es : Array (Int × Value)} {t : SetTable} {b : Bool} (r : Ris t.place.toList) : Ris (tailTx ep es t b).2.2.place.toList ∧ (tailTx ep es t b).2.2.led = t.led := by
  unfold tailTx
  split
  · exact ⟨relayAll_ris t es _, relayAll_led t es _⟩
  · exact ⟨r, rfl⟩
theorem add_ris {v : Int} {u : Value} {D : SD} (r : Ris D.2.2.place.toList) : Ris (addTx v u D).2.2.place.toList ∧ (addTx v u D).2.2.led = D.2.2.led := by
  have r1 := layNew_ris D.2.2 D.1 v u r
  have l1 := layNew_led D.2.2 D.1 v u
  unfold addTx
  split
  · obtain ⟨a, b⟩ := tail_ris (ep := D.2.1) (es := (layNew D.2.2 D.1 v u).1) (b := (layNew D.2.2 D.1 v u).2.2.1) (t := { (layNew D.2.2 D.1 v u).2.1 with plain := false }) r1
    exact ⟨a, b.trans l1⟩
  · obtain ⟨a, b⟩ := tail_ris (ep := D.2.1) (es := (layNew D.2.2 D.1 v u).1) (b := (layNew D.2.2 D.1 v u).2.2.1) (t := (layNew D.2.2 D.1 v u).2.1) r1
    exact ⟨a, b.trans l1⟩
/-- a text that is in is found -/
theorem add_old {a : Addr} {D : SD} {l : List Str} {k : Str} {u : Tok} {Q : Bool → Shared → Prop} (ho : s.heap.get? a = some (sObj "set" D)) (F : TxOk P w D l) (hk : k ∈ l) (hb : l.length < scanBound) (h : Q false s) : wpAny (model P w) A (setAddHashed a (.str k u) (hashStr w k)) Q E s := by
  obtain ⟨es, ep, t⟩ := D
  have hd : (sObj "set" (es, ep, t)).data = .set es ep t := rfl
  have hb0 : es.size < scanBound := by
    have := F.sz
    show (es, ep, t).1.size < _
    omega
  obtain ⟨e, he, ek⟩ := (F.mem k).mp hk
  have fnd : ∃ j, List.findIdx? (fun e => (strKind P w).is k e.2) es.toList = some j := by
    cases q : List.findIdx? (fun e => (strKind P w).is k e.2) es.toList with
    | some j => exact ⟨j, rfl⟩
    | none =>
      have c := List.findIdx?_eq_none_iff.mp q e he
      rw [ek] at c
      cases c
  obtain ⟨j, fj⟩ := fnd
  unfold setAddHashed setAddHashedIn
  refine wpAny_holding (wpAny_bind (wpAny_setState_of ho hd F.fit ?_)); dsimp only; rw [byScan_of rfl hb0 F.el]; simp only [↓reduceIte]; unfold setAddByScan
  refine wpAny_bind (wpAny_bind (wpAny_rule (wpAny_bind (wpAny_setScan_of (knd := strKind P w) (k := k) (is_str k u) ho hd F.fit F.el ?_)))); rw [fj]; dsimp only; exact wpAny_pure (wpAny_pure h)
/-- the adds of a list's texts, in their order -/
theorem adds {S : Addr} {items : Array Value} {xs : List Str} (hi : StrsAre items.toList xs) (hn : xs.length + 1 < scanBound) {Ok : Heap → Prop} : Adds P w S items.size (fun i v => items[i]? = some v) Ok (fun i => TxSet P w (nub (xs.take i)) S) := by
  intro A E i v s Q hlt hv _ z hQ
  have hi2 : items.toList[i]? = some v := by rw [Array.getElem?_toList]; exact hv
  have hx : i < xs.length := by
    rw [← StrsAre.len_eq hi, Array.length_toList]
    exact hlt
  obtain ⟨t, rfl⟩ : ∃ t, v = .str xs[i] t := by
    obtain ⟨t, e⟩ := SS.strs_at hi i v hi2
    refine ⟨t, ?_⟩
    rw [e, List.getD_eq_getElem?_getD, List.getElem?_eq_getElem hx] <;> rfl
  have step : nub (xs.take (i + 1)) = if xs[i] ∈ nub (xs.take i) then nub (xs.take i) else xs[i] :: nub (xs.take i) := by
    rw [List.take_succ_eq_append_getElem hx, nub_snoc]
  have le : (nub (xs.take i)).length ≤ i := Nat.le_trans (nub_le _) (by rw [List.length_take]; exact Nat.min_le_left _ _)
  obtain ⟨D, ho, F, r, l⟩ := z.ex
  unfold setAdd
  refine wpAny_holding (wpAny_bind ((strKind P w).pyHash (k := xs[i]) (is_str _ t) ?_))
  by_cases c : xs[i] ∈ nub (xs.take i)
  · refine add_old (s := { s with toks := s.toks + 1 }) ho F c (by omega) ?_
    refine hQ _ _ _ (Heap.SameBut.refl S s.heap) (Nat.le_succ _) ?_
    show TxSet P w (nub (xs.take (i + 1))) S s.heap
    rw [step, if_pos c]
    exact z
  · refine add_x (s := { s with toks := s.toks + 1 }) ho F c (by omega) ?_
    obtain ⟨r2, l2⟩ := add_ris (v := hashStr w xs[i]) (u := .str xs[i] t) r
    refine hQ _ _ _ (Heap.SameBut.update _ _ _) (Nat.le_succ _) ?_
    show TxSet P w (nub (xs.take (i + 1))) S _
    rw [step, if_neg c]
    exact ⟨_, get_upd _ ho rfl, add_ok t F, r2, by rw [l2]; exact l⟩
end
end ZS
namespace ZS
open PySem PySem.Spec PyProof.Rows L2 PySem.Froz
theorem perm_of_in : ∀ (l ss : List Str), l.Nodup → (∀ x ∈ l, x ∈ ss) → l.length = ss.length → ss.Perm l
  | [], ss, _, _, e => by
    rw [List.length_eq_zero_iff.mp e.symm]
  | x :: l, ss, nd, sub, e => by
    obtain ⟨n1, n2⟩ := List.nodup_cons.mp nd
    have hx : x ∈ ss := sub x List.mem_cons_self
    have p := List.perm_cons_erase hx
    refine p.trans ((perm_of_in l (ss.erase x) n2 (fun y hy => (List.mem_erase_of_ne (by rintro rfl; exact n1 hy)).mpr (sub y (List.mem_cons_of_mem _ hy))) ?_).cons x)
    have := p.length_eq
    rw [List.length_cons] at this e
    omega
theorem str_of_is {P : Program} {w : World} {k : Str} {v : Value} (h : (strKind P w).is k v = true) : ∃ t, v = .str k t := by
  have h' : Value.isStrOf k v = true := h
  cases v <;> simp only [Value.isStrOf, Bool.false_eq_true, beq_iff_eq] at h'
  subst h'
  exact ⟨_, rfl⟩
section
variable {P : Program} {w : World} {A : Around} {E : Value → Shared → Prop} {s : Shared}
theorem strs_of {D : SD} {l : List Str} (F : TxOk P w D l) : ∀ (vs : List Value), (∀ v ∈ vs, ∃ e ∈ D.1.toList, e.2 = v) → ∃ ss, StrsAre vs ss
  | [], _ => ⟨[], .nil⟩
  | v :: vs, h => by
    obtain ⟨e, he, ev⟩ := h v List.mem_cons_self
    obtain ⟨⟨k, hk, _⟩, _⟩ := F.el e he
    obtain ⟨t, q⟩ := str_of_is hk
    obtain ⟨ss, r⟩ := strs_of F vs fun u hu => h u (List.mem_cons_of_mem _ hu)
    rw [ev] at q
    subst q
    exact ⟨k :: ss, .cons k t r⟩
theorem strs_mem : ∀ {vs : List Value} {ss : List Str} {k : Str} {t : Tok}, StrsAre vs ss → Value.str k t ∈ vs → k ∈ ss
  | _, _, _, _, .nil, h => by cases h
  | _, _, k, t, .cons z u r, h => by
    rcases List.mem_cons.mp h with e | e
    · cases e
      exact List.mem_cons_self
    · exact List.mem_cons_of_mem _ (strs_mem r e)
/-- sorted(S) of a set of texts -/
theorem sorted_tx {l : List Str} {a : Addr} {Q : Value → Shared → Prop} (z : TxSet P w l a s.heap) (hn : l.Nodup) (hl : l.length ≤ 1000) (hh : A.handled = none)
    (h : ∀ s' p (out : Array Value) (c : Nat) (ys : List Str), (∀ b o, s.heap.get? b = some o → s'.heap.get? b = some o) → s'.gens = s.gens → s'.os = s.os → s.heap.objs.size ≤ p → s'.heap.get? p = some (seqObj "list" out c) → StrsAre out.toList ys → ys.Perm l → sortedS ys = true → Q (.ref p) s') :
    wpAny (model P w) A (call (.builtin "sorted") [.ref a]) Q E s := by
  obtain ⟨D, ho, F, r, led⟩ := z.ex
  have hsz : D.1.size = l.length := F.sz
  have hsc : (1000 : Nat) < scanBound := by decide
  have hli : (1000 : Nat) ≤ sizeLine := by decide
  refine Calls.call_function_entry kind_sorted plain_sorted entry_sorted (args_sorted1 _) ?_; unfold Builtin.«sorted»; refine wpAny_bind (m := checkCount "sorted" 1 1 _) (wpAny_pure ?_)
  refine wpAny_bind (collect_set (A := A.in1) hh ⟨_, ho, rfl, rfl⟩ F.fit (by omega) r led fun s1 vs k1 sz1 gg oo pm => ?_)
  obtain ⟨ss, S⟩ := strs_of F vs fun v hv => List.mem_map.mp (pm.mem_iff.mp hv)
  have lv : vs.length = l.length := by rw [pm.length_eq, List.length_map, Array.length_toList]; exact hsz
  have ps : ss.Perm l := by
    refine perm_of_in l ss hn (fun x hx => ?_) (by rw [← lv]; exact StrsAre.len_eq S)
    obtain ⟨e, he, ke⟩ := (F.mem x).mp hx
    obtain ⟨t, q⟩ := str_of_is ke
    exact strs_mem (t := t) S (pm.mem_iff.mpr (List.mem_map.mpr ⟨e, he, q⟩))
  refine wpAny_bind (wpAny_newList ?_ (by omega))
  have atL : (s1.heap.push (seqObj "list" vs.toArray 0)).get? s1.heap.objs.size = some (seqObj "list" vs.toArray 0) := Heap.get?_push_size _ rfl
  refine wpAny_bind (wpAny_holding (wpAny_call_entry slot_list_sort ⟨_, atL, rfl⟩ entry_list_sort (list_sort_treeKAny strKind_oneLt atL S.keysOf (fun v₁ v₂ rest e => keyKind_strs (by rw [← e]; exact S)) (by omega) fun st' hp hs => ⟨_, rfl, ?_⟩) (args_list_sort _)))
  obtain ⟨ys, y1, y2, y3⟩ := sorted_out_str S hp hs
  obtain ⟨c, hc⟩ := sortedHeap_at (vs := vs) (out := (arrOf st').map (·.2)) atL
  refine wpAny_pure ⟨_, rfl, h _ s1.heap.objs.size _ c ys (fun b u e => ?_) gg oo sz1 hc y1 (y2.trans ps) y3⟩
  have q := k1 b u e
  have lt := Heap.lt_size q
  show (sortedHeap (s1.heap.push (seqObj "list" vs.toArray 0)) s1.heap.objs.size vs ((arrOf st').map (·.2))).get? b = some u
  rw [sortedHeap_old (Nat.ne_of_lt lt) (by rw [size_push']; exact Nat.lt_succ_of_lt lt)]
  exact Heap.get?_push_of_some _ q
/-- set(x) of a list or tuple of texts -/
theorem set_tx {l : Addr} {items : Array Value} {xs : List Str} {Q : Value → Shared → Prop} (hh : A.handled = none) (hl : s.heap.IsList l items ∨ s.heap.IsTuple l items) (hi : StrsAre items.toList xs) (hn : xs.length ≤ 1000)
    (h : ∀ (h' : Heap) (tk : Nat), TxSet P w (nub xs) s.heap.objs.size h' → (∀ b o, s.heap.get? b = some o → h'.get? b = some o) → Q (.ref s.heap.objs.size) { s with heap := h', toks := tk }) : wpAny (model P w) A (call (.type "set") [.ref l]) Q E s := by
  have hsc : (1000 : Nat) + 1 < scanBound := by decide
  have sz : items.size = xs.length := by rw [← StrsAre.len_eq hi, Array.length_toList]
  have hZ : ∀ i h h', (∀ o, h.get? s.heap.objs.size = some o → h'.get? s.heap.objs.size = some o) → TxSet P w (nub (xs.take i)) s.heap.objs.size h → TxSet P w (nub (xs.take i)) s.heap.objs.size h' := fun i h h' k z => z.keep k
  have fin : ∀ h' tk, TxSet P w (nub (xs.take items.size)) s.heap.objs.size h' → (∀ b o, s.heap.get? b = some o → h'.get? b = some o) → Q (.ref s.heap.objs.size) { s with heap := h', toks := tk } := fun h' tk z k => h h' tk (by rw [sz, List.take_length] at z; exact z) k
  rcases hl with hl | hl
  · exact call_set (Z := fun i => TxSet P w (nub (xs.take i)) s.heap.objs.size) (T := "list") hh (.inl ⟨rfl, hl⟩) hZ (fun h e => TxSet.empty e) (adds hi (by omega)) fin
  · exact call_set (Z := fun i => TxSet P w (nub (xs.take i)) s.heap.objs.size) (T := "tuple") hh (.inr ⟨rfl, hl⟩) hZ (fun h e => TxSet.empty e) (adds hi (by omega)) fin
end
section
variable {X : Cx}
/-- len(set(xs)) -/
def tLenTx (K : PySem.W.Frag) (ta : TE) : TE := fun σ H Q => ta σ H fun x H1 => ∃ l, ∃ xs : List Str, x = .ref l ∧ (SqL K H1 l (xs.map V.str) ∨ SqT K H1 l (xs.map V.str)) ∧ xs.length ≤ 1000 ∧ Q (.int (nub xs).length) H1
theorem pe_lenTx {a : Expr} {ta : TE} {p p2 q pos : Pos} (hc : X.calm = true) (hm : X.mg "len" = none) (hm2 : X.mg "set" = none) (ha : PE X a ta) (hg : Gl X "len" := by rfl) (hg2 : Gl X "set" := by rfl)
    (na : starEach [a] X.env = (false, eval a X.env) :: starEach [] X.env := by rfl) : PE X (.Call (.Name "len" p) [.Call (.Name "set" p2) [a] [] q] [] pos) (tLenTx X.K ta) := by
  refine ⟨fun pins s σ H Q I h => Call_ (ld_blt I hg hm boot_len (PyProof.Rows.callWith_builtin1 (PyProof.Rows.args_cons (Call_ (ld_blt I hg2 hm2 boot_set ?_)) rfl) rfl rfl))⟩
  refine PyProof.Rows.callWith_type1 (PyProof.Rows.args_cons (thn (ha.run pins s σ H _ I h) fun v s1 ⟨x, H1, I1, r1, q1⟩ => PyProof.Rows.args_nil ?_) na) na rfl
  obtain ⟨l, xs, rfl, hq, h1, q1⟩ := q1
  cases r1
  have fin : ∀ (h' : Heap) (tk : Nat), TxSet X.prog X.w (nub xs) s1.heap.objs.size h' → (∀ b o, s1.heap.get? b = some o → h'.get? b = some o) →
      wpAny (model X.prog X.w) X.A (spliced (backTo pos (starEach [] X.env))) (fun vs s₂ => wpAny (model X.prog X.w) X.A (call (.builtin "len") (Value.ref s1.heap.objs.size :: vs)) (EP X pins σ Q) X.xe s₂) X.xe { s1 with heap := h', toks := tk } := fun h' tk z k => by
    obtain ⟨D, ho, F, _, _⟩ := z.ex
    have sz : D.1.size = (nub xs).length := F.sz
    have le := nub_le xs
    refine PyProof.Rows.args_nil (call_len_set ho ⟨rfl, rfl, rfl⟩ rfl F.fit (by omega) ⟨.int (nub xs).length, H1, (I1.kept k).tok _, ⟨_, by rw [← sz]⟩, q1⟩)
  rcases hq with hq | hq
  · obtain ⟨its, r, pl, hz⟩ := I1.list hq
    exact set_tx (I1.ok.hd hc) (.inl pl.isList) (by simpa using strsAre_of r) h1 fin
  · obtain ⟨its, r, pl, hz⟩ := I1.tuple hq
    exact set_tx (I1.ok.hd hc) (.inr pl) (by simpa using strsAre_of r) h1 fin
theorem sorted_in {pins : List (Addr × Obj)} {σ : L2.St} {H : Hp} {s : Shared} {Q : VK} {l : List Str} {a : Addr} (J : Inv X pins σ H s) (hc : X.calm = true) (z : TxSet X.prog X.w l a s.heap) (hn : l.Nodup) (hl : l.length ≤ 1000)
    (q : ∀ (ys : List Str) (p : Addr), ys.Perm l → sortedS ys = true → H p = none → Q (.ref p) (upd H p (.lst (ys.map V.str)))) : wpAny (model X.prog X.w) X.A (call (.builtin "sorted") [.ref a]) (EP X pins σ Q) X.xe s := by
  refine sorted_tx z hn hl (J.ok.hd hc) fun s2 p out c ys k2 gg oo hp hob hS hperm hsort => ?_
  have hli : (1000 : Nat) ≤ sizeLine := by decide
  have hlen : (ys.map V.str).length ≤ sizeLine := by rw [List.length_map, hperm.length_eq]; omega
  have fr : H p = none := J.hok.fresh hp
  have J2 : Inv X pins σ (upd H p (.lst (ys.map V.str))) { s with heap := s2.heap, gens := s2.gens, drawn := s2.drawn, toks := s2.toks } :=
    J.call (ch := []) (Un.laid k2 hp fr) (J.hok.laid k2 hp ⟨hlen, out.toList, c, vals_of_strs hS, hob⟩) (by rw [gg]; exact J.bare) (fun _ z => nomatch z)
  have e : s2 = { s with heap := s2.heap, gens := s2.gens, drawn := s2.drawn, toks := s2.toks } := by
    cases s2; cases s; cases oo; rfl
  rw [e]
  exact ⟨.ref p, _, J2, rfl, q ys p hperm hsort fr⟩
/-- sorted(set(xs)) -/
def tSortTx (K : PySem.W.Frag) (ta : TE) : TE := fun σ H Q => ta σ H fun x H1 => ∃ l, ∃ xs : List Str, x = .ref l ∧ (SqL K H1 l (xs.map V.str) ∨ SqT K H1 l (xs.map V.str)) ∧ xs.length ≤ 1000 ∧
  ∀ (ys : List Str) (p : Addr), ys.Perm (nub xs) → sortedS ys = true → H1 p = none → Q (.ref p) (upd H1 p (.lst (ys.map V.str)))
theorem pe_sortTx {a : Expr} {ta : TE} {p p2 q pos : Pos} (hc : X.calm = true) (hm : X.mg "sorted" = none) (hm2 : X.mg "set" = none) (ha : PE X a ta) (hg : Gl X "sorted" := by rfl) (hg2 : Gl X "set" := by rfl)
    (na : starEach [a] X.env = (false, eval a X.env) :: starEach [] X.env := by rfl) : PE X (.Call (.Name "sorted" p) [.Call (.Name "set" p2) [a] [] q] [] pos) (tSortTx X.K ta) := by
  refine ⟨fun pins s σ H Q I h => Call_ (ld_blt I hg hm (show bootBuiltins "sorted" = some (.builtin "sorted") by decide +kernel) (PyProof.Rows.callWith_builtin1 (PyProof.Rows.args_cons (Call_ (ld_blt I hg2 hm2 boot_set ?_)) rfl) rfl rfl))⟩
  refine PyProof.Rows.callWith_type1 (PyProof.Rows.args_cons (thn (ha.run pins s σ H _ I h) fun v s1 ⟨x, H1, I1, r1, q1⟩ => PyProof.Rows.args_nil ?_) na) na rfl
  obtain ⟨l, xs, rfl, hq, h1, q1⟩ := q1
  cases r1
  have fin : ∀ (h' : Heap) (tk : Nat), TxSet X.prog X.w (nub xs) s1.heap.objs.size h' → (∀ b o, s1.heap.get? b = some o → h'.get? b = some o) →
      wpAny (model X.prog X.w) X.A (spliced (backTo pos (starEach [] X.env))) (fun vs s₂ => wpAny (model X.prog X.w) X.A (call (.builtin "sorted") (Value.ref s1.heap.objs.size :: vs)) (EP X pins σ Q) X.xe s₂) X.xe { s1 with heap := h', toks := tk } := fun h' tk z k => by
    have le := nub_le xs
    exact PyProof.Rows.args_nil (sorted_in (I1.kept k) hc z (nub_nodup xs) (by omega) q1)
  rcases hq with hq | hq
  · obtain ⟨its, r, pl, hz⟩ := I1.list hq
    exact set_tx (I1.ok.hd hc) (.inl pl.isList) (by simpa using strsAre_of r) h1 fin
  · obtain ⟨its, r, pl, hz⟩ := I1.tuple hq
    exact set_tx (I1.ok.hd hc) (.inr pl) (by simpa using strsAre_of r) h1 fin
end
end ZS
/-! Sets of objects that are told from one another by keys: tuples of texts, and whatever else hashes by value. -/
namespace RS
open PySem PySem.Spec PyProof.Rows L2
/-- objects at addresses, each with a key -/
structure HK (P : Program) (w : World) (κ : Type) [DecidableEq κ] where
  is : Heap → κ → Addr → Prop
  hash : κ → Int
  keep : ∀ {h h' : Heap} {k : κ} {b : Addr}, is h k b → (∀ o, h.get? b = some o → h'.get? b = some o) → is h' k b
  noSet : ∀ {h : Heap} {k : κ} {b : Addr} {o : Obj} {es : Array (Int × Value)} {ep : Nat} {t : SetTable}, is h k b → h.get? b = some o → o.data = .set es ep t → False
  eqB : ∀ {A : Around} {E : Value → Shared → Prop} {s : Shared} {k k' : κ} {a b : Addr} {Q : Bool → Shared → Prop}, A.units < cLine → is s.heap k a → is s.heap k' b → Q (decide (k = k')) s → wpAny (model P w) A (eqBool (.ref a) (.ref b)) Q E s
  quiet : ∀ {A : Around} {E : Value → Shared → Prop} {s : Shared} {k : κ} {a : Addr} {Q : Bool → Shared → Prop}, is s.heap k a → Q true s → wpAny (model P w) A (eqIsQuiet 8 (.ref a)) Q E s
  cls : ∀ {A : Around} {E : Value → Shared → Prop} {s : Shared} {k : κ} {a : Addr} {Q : Bool → Shared → Prop}, is s.heap k a → Q false s → wpAny (model P w) A (ofAClassStatement 8 (.ref a)) Q E s
  byV : ∀ {A : Around} {E : Value → Shared → Prop} {s : Shared} {k : κ} {a : Addr} {Q : Bool → Shared → Prop}, is s.heap k a → (∀ b, Q b s) → wpAny (model P w) A (hashByValue 8 (.ref a)) Q E s
  hsh : ∀ {A : Around} {E : Value → Shared → Prop} {s : Shared} {k : κ} {a : Addr} {Q : Int → Shared → Prop}, A.units < cLine → is s.heap k a → (∀ n, Q (hash k) { s with toks := s.toks + n }) → wpAny (model P w) A (pyHash (.ref a)) Q E s
section
variable {P : Program} {w : World} {κ : Type} [DecidableEq κ] {K : HK P w κ} {A : Around} {E : Value → Shared → Prop} {s : Shared}
/-- the rows of the table -/
def rws (K : HK P w κ) (L : List (Addr × κ)) : List (Int × Value) := L.map fun p => (K.hash p.2, Value.ref p.1)
theorem rws_len (L : List (Addr × κ)) : (rws K L).length = L.length := List.length_map ..
/-- the set at a is of these, its table is in order -/
structure Tb (K : HK P w κ) (h : Heap) (a : Addr) (L : List (Addr × κ)) (es : Array (Int × Value)) (ep : Nat) (t : SetTable) : Prop where
  ob : ∃ o, h.get? a = some o ∧ o.ExactSet ∧ o.data = .set es ep t
  rows : es.toList = rws K L
  tab : TabOk t (L.map fun p => K.hash p.2)
  nd : (L.map (·.2)).Nodup
  el : ∀ p ∈ L, K.is h p.2 p.1
  led : w.params.followText "set-order" = true ∨ t.led = true
  room : L.length * 5 < t.mask * 3
  few : L.length < 64
variable {a : Addr} {L : List (Addr × κ)} {es : Array (Int × Value)} {ep : Nat} {t : SetTable}
theorem size_of_rows (h : es.toList = rws K L) : es.size = L.length := by
  rw [← Array.length_toList, h, rws_len]
theorem fits_of {t : SetTable} {n : Nat} (h1 : t.place.size = n) (h2 : t.dummies = #[]) (h3 : n ≤ t.mask) : t.fits n = true := by
  unfold SetTable.fits SetTable.fill; rw [h2, Bool.and_eq_true, beq_iff_eq, decide_eq_true_eq]
  exact ⟨h1, by show t.place.size + 0 ≤ t.mask; omega⟩
theorem Tb.sz (R : Tb K s.heap a L es ep t) : t.place.size = es.size := by
  rw [R.tab.sz, List.length_map, size_of_rows R.rows]
theorem Tb.fit (R : Tb K s.heap a L es ep t) : t.fits es.size = true := fits_of R.sz R.tab.dm (by have := size_of_rows R.rows; have := R.room; omega)
theorem row_at (h : es.toList = rws K L) {i : Nat} {p : Addr × κ} (hp : L[i]? = some p) : es[i]? = some (K.hash p.2, Value.ref p.1) := by
  rw [← Array.getElem?_toList, h, rws, List.getElem?_map, hp]; rfl
/-- the hash that the table sees at a row -/
def hAt (es : Array (Int × Value)) (i : Nat) : Int := (es[i]?.map (·.1)).getD 0
theorem hAt_row (h : es.toList = rws K L) {i : Nat} {p : Addr × κ} (hp : L[i]? = some p) : hAt es i = K.hash p.2 := by
  unfold hAt; rw [row_at h hp]; rfl
/-- nobody sees the search -/
theorem unseen {k : κ} {b : Addr} (hk : K.is s.heap k b) {ys : List Value} (hy : ∀ y ∈ ys, ∃ k' c, y = Value.ref c ∧ K.is s.heap k' c) {Q : Bool → Shared → Prop} (h : Q false s) : wpAny (model P w) A (searchCouldBeSeen (.ref b) ys) Q E s := by
  unfold searchCouldBeSeen
  refine wpAny_bind (wpAny_forIn_list _ (fun rest r s' => (r.1 = none ∧ s' = s) ∧ ∀ y ∈ rest, ∃ k' c, y = Value.ref c ∧ K.is s.heap k' c) _ ?_ ?_ _ _ ⟨⟨rfl, rfl⟩, hy⟩)
  · rintro v rest r s' ⟨⟨hr, rfl⟩, all⟩
    obtain ⟨k', c, rfl, hc⟩ := all v List.mem_cons_self
    have all' := fun u hu => all u (List.mem_cons_of_mem _ hu)
    dsimp only
    by_cases hv : (b == c || (carriedByValue (.ref b) && carriedByValue (.ref c))) = true
    · exact wp_if_pos hv (wpAny_pure ⟨⟨rfl, rfl⟩, all'⟩)
    · refine wp_if_neg hv (wpAny_bind (K.quiet hk ?_)); simp only [Bool.not_true, Bool.false_eq_true, if_false]
      refine wpAny_bind (K.quiet hc ?_); simp only [Bool.not_true, Bool.false_eq_true, if_false]
      refine wpAny_bind (K.cls hk ?_); simp only [Bool.false_eq_true, if_false]
      refine wpAny_bind (K.cls hc ?_); simp only [Bool.false_eq_true, if_false]
      exact wpAny_pure ⟨⟨rfl, rfl⟩, all'⟩
  · rintro ⟨r1, r2⟩ s' ⟨⟨hr, rfl⟩, _⟩
    cases (show r1 = none from hr)
    exact wpAny_pure h
/-- the n-th step of a key's way -/
abbrev stp (t : SetTable) (h : Int) (n : Nat) : SetTable.Probe := nth t.mask (t.probeStart h) n
theorem stp_way (t : SetTable) (h : Int) (n : Nat) : (stp t h n).j = way t.mask h n := rfl
theorem stp_on (t : SetTable) (h : Int) (c q : Nat) : nth t.mask (stp t h c) q = stp t h (c + q) := (nth_add t.mask c _ q).symm
theorem no_dummy (m : Nat) : ∀ (n : Nat) (p : SetTable.Probe), p.dummy = none → (nth m p n).dummy = none
  | 0, _, h => h
  | n + 1, p, h => no_dummy m n (adv m p) (by unfold adv; split <;> exact h)
/-- the search for a place, from the c-th step on -/
theorem seek (R : Tb K s.heap a L es ep t) {x : Addr} {k : κ} (hx : K.is s.heap k x) (hu : A.units < cLine) {N : Nat} (hN : way t.mask (K.hash k) N ∉ t.place.toList) (hB : ∀ c, c < N → way t.mask (K.hash k) c ∈ t.place.toList) (hf0 : N < 10 * SetTable.turns t.mask)
    {Q : SetFound → Shared → Prop} (yes : k ∈ L.map (·.2) → Q (.there none) s) (no : k ∉ L.map (·.2) → Q (.free (way t.mask (K.hash k) N) false) s) :
    ∀ (f c : Nat) (st : Option SetTable.Probe), st.getD (t.probeStart (K.hash k)) = stp t (K.hash k) c → c ≤ N → N - c < f →
      (∀ (i : Nat) p, L[i]? = some p → p.2 = k → ∃ c', c ≤ c' ∧ c' < N ∧ t.place.toList[i]? = some (way t.mask (K.hash k) c')) → wpAny (model P w) A (setSearchFrom a (.ref x) (K.hash k) true f st) Q E s
  | 0, _, _, _, _, hf, _ => absurd hf (Nat.not_lt_zero _)
  | f + 1, c, st, hst, hc, hf, ahead => by
    obtain ⟨o, ho, hex, hd⟩ := R.ob
    have rowi : ∀ {i : Nat}, i < L.length → ∃ p, L[i]? = some p := fun h => ⟨_, List.getElem?_eq_getElem h⟩
    rw [setSearchFrom_succ]; refine wpAny_bind (wpAny_setState_of ho hd R.fit ?_)
    dsimp only; refine wp_if_neg (by unfold SetTable.gaveWay; rw [mask_odd R.tab.mok]; decide) ?_
    have spec := go_spec t R.tab.ris R.tab.dm (hAt es) (K.hash k) (10 * SetTable.turns t.mask) (N - c) (stp t (K.hash k) c) (no_dummy _ _ _ rfl) (by omega)
      (fun q hq => by rw [stp_on, stp_way]; exact hB (c + q) (by omega)) (by rw [stp_on, stp_way, show c + (N - c) = N by omega]; exact hN)
    rcases spec with ⟨q, i, hq, hi, hh, before, found⟩ | ⟨before, found⟩
    · rw [stp_on, stp_way] at hi
      have pr : t.probe (fun i => (es[i]?.map (·.1)).getD 0) (K.hash k) (st.getD (t.probeStart (K.hash k))) = some (.candidate (way t.mask (K.hash k) (c + q)) i (stp t (K.hash k) (c + (q + 1)))) := by
        rw [hst, ← stp_way, ← stp_on, ← stp_on]; exact found
      rw [pr]
      have hil : i < L.length := by
        have h1 := (List.getElem?_eq_some_iff.mp hi).1
        have h2 := R.tab.sz
        rw [Array.length_toList] at h1; rw [List.length_map] at h2
        omega
      obtain ⟨p, hp⟩ := rowi hil
      have hpl : p ∈ L := List.mem_of_getElem? hp
      have go : wpAny (model P w) A (searchRest a (.ref x) (K.hash k) true f es t (way t.mask (K.hash k) (c + q)) i (stp t (K.hash k) (c + (q + 1)))) Q E s := by
        unfold searchRest; rw [row_at R.rows hp]
        refine wpAny_bind (wpAny_holding (K.eqB hu (R.el p hpl) hx (wpAny_bind (wpAny_setState_of ho hd R.fit ?_)))); dsimp only
        by_cases e : p.2 = k
        · exact wp_if_pos (by simp [e]) (wpAny_pure (yes (List.mem_map.mpr ⟨p, hpl, e⟩)))
        · refine wp_if_neg (by simp [e]) ?_; rw [sameMem]
          have live : t.slot (way t.mask (K.hash k) (c + q)) = .live i := slot_live R.tab.ris hi
          dsimp only; simp only [if_true, live, row_at R.rows hp]
          refine wpAny_bind (wpAny_isSame_ref_self (wpAny_bind (wpAny_pure ?_))); simp only [if_true]
          refine wp_if_neg (by simp [e]) (seek R hx hu hN hB hf0 yes no f (c + (q + 1)) _ rfl (by omega) (by omega) fun i0 p0 h0 k0 => ?_)
          obtain ⟨c', a1, a2, a3⟩ := ahead i0 p0 h0 k0
          refine ⟨c', ?_, a2, a3⟩
          by_cases z1 : c' < c + q
          · refine absurd ((hAt_row R.rows h0).trans (congrArg K.hash k0)) (before (c' - c) i0 (by omega) ?_)
            rw [stp_on, stp_way, show c + (c' - c) = c' by omega]; exact a3
          · by_cases z2 : c' = c + q
            · rw [z2] at a3
              have l0 := slot_live R.tab.ris a3
              rw [live] at l0
              cases l0
              rw [hp] at h0; cases h0
              exact absurd k0 e
            · omega
      by_cases led : t.led = true
      · exact wp_if_neg (by simp [led]) go
      · refine wp_if_pos (by simp [led]) (wpAny_bind (unseen hx (fun y hy => ?_) (wp_if_neg (by decide) go)))
        obtain ⟨e, he, ee⟩ := List.mem_map.mp hy
        have h2 : e ∈ es.toList := by
          have h1 : e ∈ es ∧ e.1 = K.hash k := by simpa using he
          simpa using h1.1
        rw [R.rows] at h2
        obtain ⟨p2, hp2, e2⟩ := List.mem_map.mp h2
        exact ⟨p2.2, p2.1, by rw [← ee, ← e2], R.el p2 hp2⟩
    · have pr : t.probe (fun i => (es[i]?.map (·.1)).getD 0) (K.hash k) (st.getD (t.probeStart (K.hash k))) = some (.empty (way t.mask (K.hash k) N) none) := by
        have e : way t.mask (K.hash k) N = (nth t.mask (stp t (K.hash k) c) (N - c)).j := by rw [stp_on, stp_way, show c + (N - c) = N by omega]
        rw [hst, e]; exact found
      rw [pr]
      refine wpAny_pure (no fun hm => ?_)
      obtain ⟨p0, h0, k0⟩ := List.mem_map.mp hm
      obtain ⟨i0, g0, e0⟩ := List.getElem_of_mem h0
      have h00 : L[i0]? = some p0 := by rw [List.getElem?_eq_getElem g0, e0]
      obtain ⟨c', a1, a2, a3⟩ := ahead i0 p0 h00 k0
      refine before (c' - c) i0 (by omega) ?_ ((hAt_row R.rows h00).trans (congrArg K.hash k0))
      rw [stp_on, stp_way, show c + (c' - c) = c' by omega]; exact a3
end
end RS

namespace RS
open PySem PySem.Spec PyProof.Rows L2
section
variable {P : Program} {w : World} {κ : Type} [DecidableEq κ] {K : HK P w κ} {A : Around} {E : Value → Shared → Prop} {s : Shared}
theorem all_of_range {α : Type} (l : List α) : ∀ n, n ≤ l.length → (List.range n).filterMap (fun i => l[i]?) = l.take n
  | 0, _ => rfl
  | n + 1, h => by
    have hn : n < l.length := h
    have e : l[n]? = some l[n] := List.getElem?_eq_getElem hn
    rw [List.range_succ, List.filterMap_append, all_of_range l n (Nat.le_of_lt hn), List.take_succ, e, List.filterMap_cons_some e]; rfl
/-- the rows in another order -/
theorem reorder {L : List (Addr × κ)} {es : Array (Int × Value)} {order : Array Nat} (hr : es.toList = rws K L) (hp : order.toList.Perm (List.range L.length)) :
    ∃ L2 : List (Addr × κ), (order.filterMap (es[·]?)).toList = rws K L2 ∧ L2.Perm L ∧ (L2.map fun p => K.hash p.2) = order.toList.map fun i => (es.map (·.1)).getD i 0 := by
  have at_ : ∀ i : Nat, es[i]? = (L[i]?).map fun p => (K.hash p.2, Value.ref p.1) := fun i => by rw [← Array.getElem?_toList, hr, rws, List.getElem?_map]
  have rows : ∀ l : List Nat, l.filterMap (fun i => es[i]?) = rws K (l.filterMap fun i => L[i]?) ∧ ((∀ i ∈ l, i < L.length) → ((l.filterMap fun i => L[i]?).map fun p => K.hash p.2) = l.map fun i => (es.map (·.1)).getD i 0) := by
    intro l
    induction l with
    | nil => exact ⟨rfl, fun _ => rfl⟩
    | cons i l ih =>
      obtain ⟨i1, i2⟩ := ih
      by_cases hi : i < L.length
      · have e : L[i]? = some L[i] := List.getElem?_eq_getElem hi
        have e2 : es[i]? = some (K.hash (L[i]).2, Value.ref (L[i]).1) := by rw [at_, e]; rfl
        refine ⟨by rw [List.filterMap_cons_some e2, List.filterMap_cons_some e, i1]; rfl, fun h => ?_⟩
        have e3 : (es.map (·.1)).getD i 0 = K.hash (L[i]).2 := by simp [Array.getD_eq_getD_getElem?, e2]
        rw [List.filterMap_cons_some e, List.map_cons, List.map_cons, i2 fun j hj => h j (List.mem_cons_of_mem _ hj), e3]
      · have e : L[i]? = none := List.getElem?_eq_none (by omega)
        have e2 : es[i]? = none := by rw [at_, e]; rfl
        exact ⟨by rw [List.filterMap_cons_none e2, List.filterMap_cons_none e, i1], fun h => absurd (h i List.mem_cons_self) hi⟩
  obtain ⟨r1, r2⟩ := rows order.toList
  refine ⟨order.toList.filterMap fun i => L[i]?, by rw [Array.toList_filterMap]; exact r1, ?_, r2 fun i hi => List.mem_range.mp (hp.mem_iff.mp hi)⟩
  have h := hp.filterMap fun i => L[i]?
  rw [all_of_range L _ (Nat.le_refl _), List.take_length] at h
  exact h
variable {a : Addr} {L : List (Addr × κ)} {es : Array (Int × Value)} {ep : Nat} {t : SetTable}
/-- an element is not the set -/
theorem el_but {h h' : Heap} {k : κ} {b : Addr} {o : Obj} (hb : K.is h k b) (ho : h.get? a = some o) (hd : o.data = .set es ep t) (sb : Heap.SameBut a h h') : K.is h' k b :=
  K.keep hb fun o' e => (sb.2 b fun z => K.noSet hb (by rw [z]; exact ho) hd).trans e
/-- the table laid anew -/
theorem relay {o : Obj} (ho : s.heap.get? a = some o) (hx : o.ExactSet) (hd : o.data = .set es ep t) (hr : es.toList = rws K L) (hz : t.place.size = es.size) (hm : t.dummies = #[]) (hf : es.size ≤ t.mask) (nd : (L.map (·.2)).Nodup) (el : ∀ p ∈ L, K.is s.heap p.2 p.1)
    (ld : w.params.followText "set-order" = true ∨ t.led = true) (few : L.length < 64) {n M : Nat} (hM : MaskOk M) (hw : SetTable.sizeAbove n - 1 = M) (hn : L.length * 5 < M * 3) {Q : Unit → Shared → Prop}
    (h : ∀ h' L' es' ep' t', Heap.SameBut a s.heap h' → Tb K h' a L' es' ep' t' → L'.Perm L → Q () { s with heap := h' }) : wpAny (model P w) A (setRelay a n) Q E s := by
  have hl := size_of_rows hr
  have line : (128 : Nat) ≤ sizeLine := by decide
  obtain ⟨t', order, e, hp, T, em, el', ep', ed⟩ := relaid_ok t (hs := es.map (·.1)) hw hM (by rw [Array.size_map, hl]; omega)
  rw [Array.size_map, hl] at hp
  obtain ⟨L2, r1, r2, r3⟩ := reorder hr hp
  have hs2 : (order.filterMap (es[·]?)).size = es.size := by rw [size_of_rows r1, r2.length_eq, hl]
  have hM2 : M ≤ 127 := by rcases hM with z | z | z <;> omega
  rw [setRelay_eq]; refine wpAny_bind (wpAny_setState_of ho hd (fits_of hz hm hf) ?_); dsimp only
  refine wp_if_neg (by omega) (wpAny_bind ?_); rw [e]; dsimp only
  refine wp_if_neg (by rw [hs2]; simp) (wpAny_pure ?_); dsimp only
  refine wpAny_storeSet_of ho hd ?_ (by omega)
  have sb : Heap.SameBut a s.heap (s.heap.update a (Obj.putSet (order.filterMap (es[·]?)) t')) := Heap.SameBut.update ..
  exact h _ L2 _ (ep + 1) t' sb ⟨⟨_, store_at ho hd, ⟨hx.1, hx.2.1, hx.2.2⟩, rfl⟩, r1, by rw [r3]; exact T, (r2.map (·.2)).nodup_iff.mpr nd, fun p hp => el_but (el p (r2.mem_iff.mp hp)) ho hd sb, by rw [el']; exact ld, by rw [r2.length_eq, em]; exact hn, by rw [r2.length_eq]; exact few⟩ r2
/-- where a key's way first finds room -/
theorem Tb.free (R : Tb K s.heap a L es ep t) (k : κ) : ∃ N, N < 10 * SetTable.turns t.mask ∧ way t.mask (K.hash k) N ∉ t.place.toList ∧ ∀ c, c < N → way t.mask (K.hash k) c ∈ t.place.toList :=
  R.tab.first (by rw [List.length_map]; have := R.room; omega) (K.hash k)
/-- the place of a key that is in lies on its way, ahead of the room -/
theorem Tb.ahead (R : Tb K s.heap a L es ep t) {k : κ} {N : Nat} (hN : way t.mask (K.hash k) N ∉ t.place.toList) (i : Nat) (p : Addr × κ) (hp : L[i]? = some p) (hk : p.2 = k) : ∃ c, 0 ≤ c ∧ c < N ∧ t.place.toList[i]? = some (way t.mask (K.hash k) c) := by
  have h1 : (L.map fun p => K.hash p.2)[i]? = some (K.hash k) := by rw [List.getElem?_map, hp, ← hk]; rfl
  have hi : i < t.place.toList.length := by
    have h2 := (List.getElem?_eq_some_iff.mp h1).1
    rw [Array.length_toList, R.tab.sz]; exact h2
  obtain ⟨c, hc, e⟩ := R.tab.before hN h1 (List.getElem?_eq_getElem hi)
  exact ⟨c, Nat.zero_le _, hc, by rw [e]; exact List.getElem?_eq_getElem hi⟩
theorem turns_few {m : Nat} (h : MaskOk m) : 10 * SetTable.turns m < 100000 := by
  rcases h with rfl | rfl | rfl <;> decide
/-- the same places -/
theorem TabOk_as {t t2 : SetTable} {hs : List Int} (T : TabOk t hs) (h1 : t2.place = t.place) (h2 : t2.dummies = t.dummies) (h3 : t2.mask = t.mask) : TabOk t2 hs :=
  ⟨by rw [h1]; exact T.ris, by rw [h2]; exact T.dm, by rw [h1]; exact T.sz, by rw [h3]; exact T.mok, by rw [h1, h3]; exact T.bd, by rw [h1, h3]; exact T.reach⟩
theorem plain_asked {x : Addr} {k : κ} (hx : K.is s.heap k x) {c : Bool} {α : Type} {R : Bool → Sem α} {Q : α → Shared → Prop} (h : ∀ b, wpAny (model P w) A (R b) Q E s) : wpAny (model P w) A (if c = true then hashByValue 8 (.ref x) >>= R else pure true >>= R) Q E s := by
  cases c with
  | true => exact wpAny_bind (K.byV hx h)
  | false => exact wpAny_bind (wpAny_pure (h true))
/-- adding -/
theorem add (R : Tb K s.heap a L es ep t) {x : Addr} {k : κ} (hx : K.is s.heap k x) (hu : A.units < cLine) (hfew : L.length + 1 < 64) {Q : Bool → Shared → Prop}
    (h : ∀ b h' L' es' ep' t', Heap.SameBut a s.heap h' → Tb K h' a L' es' ep' t' → (k ∈ L.map (·.2) → L' = L) → (k ∉ L.map (·.2) → L'.Perm ((x, k) :: L)) → Q b { s with heap := h' }) : wpAny (model P w) A (setAddHashed a (.ref x) (K.hash k)) Q E s := by
  obtain ⟨o, ho, hex, hd⟩ := R.ob
  have hl := size_of_rows R.rows
  have line : (128 : Nat) ≤ sizeLine := by decide
  have hroom := R.room
  obtain ⟨N, hf, hN, hB⟩ := R.free k
  have tf := turns_few R.tab.mok
  unfold setAddHashed; refine wpAny_holding ?_
  rw [show (100000 : Nat) = 99999 + 1 from rfl, setAddHashedIn_succ]; refine wpAny_bind (wpAny_setState_of ho hd R.fit ?_)
  dsimp only; refine wp_if_neg (by simp [byScan, Value.scannable]) (wpAny_bind ?_)
  unfold setSearch; refine seek R hx hu hN hB hf (fun hm => ?_) (fun hm => ?_) 100000 0 none rfl (Nat.zero_le _) (by omega) (R.ahead hN)
  · exact wpAny_pure (h false s.heap L es ep t (Heap.SameBut.refl a s.heap) R (fun _ => rfl) fun z => absurd hm z)
  · refine wpAny_bind (wpAny_setState_of ho hd R.fit ?_); dsimp only
    obtain ⟨q1, q2, q3, q4, q5, q6, q7, q8, q9⟩ := R.tab.put hN hB
    generalize hpt : t.put (way t.mask (K.hash k) N) = pt at q1 q3 q4 q5 q6 q7 q8 q9 ⊢
    obtain ⟨t1, p⟩ := pt
    dsimp only at q1 q3 q4 q5 q6 q7 q8 q9 ⊢
    subst q1
    refine plain_asked hx fun bv => ?_
    have tf2 : ∀ b : Bool, (if b = true then t1 else { t1 with plain := false }).place = t1.place ∧ (if b = true then t1 else { t1 with plain := false }).dummies = t1.dummies ∧ (if b = true then t1 else { t1 with plain := false }).mask = t1.mask ∧ (if b = true then t1 else { t1 with plain := false }).led = t1.led ∧ (if b = true then t1 else { t1 with plain := false }).tooFull = t1.tooFull := fun b => by
      cases b <;> exact ⟨rfl, rfl, rfl, rfl, rfl⟩
    obtain ⟨w1, w2, w3, w4, w5⟩ := tf2 bv
    generalize (if bv = true then t1 else { t1 with plain := false }) = t2 at w1 w2 w3 w4 w5 ⊢
    have hin : (SetTable.insertAt es (SetTable.below t.place (way t.mask (K.hash k) N)) (K.hash k, Value.ref x)).toList = rws K (L.take (SetTable.below t.place (way t.mask (K.hash k) N)) ++ (x, k) :: L.drop (SetTable.below t.place (way t.mask (K.hash k) N))) := by
      rw [SetTable.toList_insertAt, R.rows]; unfold rws; rw [List.map_append, List.map_cons, List.map_take, List.map_drop]
    generalize SetTable.below t.place (way t.mask (K.hash k) N) = p at q2 q3 hin ⊢
    have pm := put_perm L p (x, k)
    have hh : (L.take p ++ (x, k) :: L.drop p).map (fun p => K.hash p.2) = (L.map fun p => K.hash p.2).take p ++ K.hash k :: (L.map fun p => K.hash p.2).drop p := by
      rw [List.map_append, List.map_cons, List.map_take, List.map_drop]
    rw [← hh] at q3
    have nd1 : ((L.take p ++ (x, k) :: L.drop p).map (·.2)).Nodup := (pm.map (·.2)).nodup_iff.mpr (by rw [List.map_cons]; exact List.nodup_cons.mpr ⟨hm, R.nd⟩)
    have hlen := pm.length_eq
    have hes := size_of_rows hin
    generalize SetTable.insertAt es p (K.hash k, Value.ref x) = es1 at hin hes ⊢
    generalize L.take p ++ (x, k) :: L.drop p = L1 at pm hlen q3 nd1 hin hes
    rw [List.length_cons] at hlen
    refine wpAny_bind (wpAny_storeSet_of ho hd ?_ (by omega))
    have sb : Heap.SameBut a s.heap (s.heap.update a (Obj.putSet es1 t2)) := Heap.SameBut.update ..
    have ho1 := store_at (es' := es1) (t' := t2) ho hd
    generalize s.heap.update a (Obj.putSet es1 t2) = h1 at sb ho1 ⊢
    have el1 : ∀ p ∈ L1, K.is h1 p.2 p.1 := fun p hp => by
      rcases List.mem_cons.mp (pm.mem_iff.mp hp) with e | hp
      · rw [e]; exact el_but hx ho hd sb
      · exact el_but (R.el p hp) ho hd sb
    have ld1 : w.params.followText "set-order" = true ∨ t2.led = true := by rw [w4, q5]; exact R.led
    have few1 : L1.length < 64 := by omega
    have T2 := TabOk_as q3 w1 w2 w3
    have full : t2.tooFull = true ↔ L1.length * 5 ≥ t.mask * 3 := by
      rw [w5]; unfold SetTable.tooFull; rw [decide_eq_true_eq, q9, List.length_map, q4, hlen]
    by_cases hfull : t2.tooFull = true
    · first | (refine wpAny_bind ?_; refine wp_if_pos (by simp [hfull]) ?_) | refine wp_if_pos (by simp [hfull]) (wpAny_bind ?_)
      have big := full.mp hfull
      have z1 : t2.place.size = es1.size := by rw [T2.sz, List.length_map, hes]
      have go : ∀ M, MaskOk M → SetTable.sizeAbove (SetTable.grown (es.size + 1)) - 1 = M → L1.length * 5 < M * 3 → es1.size ≤ t2.mask → wpAny (model P w) A (setRelay a (SetTable.grown (es.size + 1))) (fun _ s' => wpAny (model P w) A (pure true) Q E s') E { s with heap := h1 } := fun M g1 g2 g3 g4 =>
        relay (s := { s with heap := h1 }) ho1 ⟨hex.1, hex.2.1, hex.2.2⟩ rfl hin z1 T2.dm g4 nd1 el1 ld1 few1 g1 g2 g3 fun h2 L2 es2 ep2 t3 sb2 R2 pm2 => wpAny_pure (h true h2 L2 es2 ep2 t3 (sb.trans sb2) R2 (fun z => absurd z hm) fun _ => pm2.trans pm)
      rcases R.tab.mok with e | e | e
      · have e4 : L.length = 4 := by rw [e] at big hroom; omega
        exact go 31 (.inr (.inl rfl)) (by rw [hl, e4, size_20]) (by omega) (by rw [hes, w3, q4, e]; omega)
      · have e4 : L.length = 18 := by rw [e] at big hroom; omega
        exact go 127 (.inr (.inr rfl)) (by rw [hl, e4, size_76]) (by omega) (by rw [hes, w3, q4, e]; omega)
      · rw [e] at big; omega
    · have big : ¬ L1.length * 5 ≥ t.mask * 3 := fun z => hfull (full.mpr z)
      first | refine wp_if_neg (by simp [hfull]) ?_ | (refine wpAny_bind ?_; refine wp_if_neg (by simp [hfull]) (wpAny_pure ?_))
      exact wpAny_pure (h true h1 L1 es1 (ep + 1) t2 sb ⟨⟨_, ho1, ⟨hex.1, hex.2.1, hex.2.2⟩, rfl⟩, hin, T2, nd1, el1, ld1, by rw [w3, q4]; omega, few1⟩ (fun z => absurd z hm) fun _ => pm)
end
end RS

/-! ## Sets of anything, filled from a list or a tuple: what stands at the set's address is a letter Z, from turn to turn -/
namespace ZS
open PySem PySem.Spec PyProof.Rows L2
section
variable {P : Program} {w : World} {A : Around} {R : Result → Shared → Prop} {I S : Addr} {fp wr : List Addr} {G : Array GenState → Array GenState → Prop} {n : Nat} {Pv : Nat → Value → Prop} {St : Nat → Shared → Prop} {Z : Nat → Heap → Prop}
/-- what one add asks and leaves -/
def AddsU (P : Program) (w : World) (S : Addr) (n : Nat) (Pv : Nat → Value → Prop) (Ok : Heap → Prop) (Z : Nat → Heap → Prop) : Prop := ∀ (A : Around) (E : Value → Shared → Prop) (i : Nat) (v : Value) (s : Shared) (Q : Bool → Shared → Prop), A.units < cLine → i < n → Pv i v → Ok s.heap → Z i s.heap →
  (∀ b h' tk, Heap.SameBut S s.heap h' → s.toks ≤ tk → Z (i + 1) h' → Q b { s with heap := h', toks := tk }) → wpAny (model P w) A (setAdd S v) Q E s
theorem fillU (hu : A.in1.units < cLine) (W : WalksS P w A.in1 I fp wr G n Pv St) (hS : S ∉ fp) (hZ : ∀ i h h', (∀ o, h.get? S = some o → h'.get? S = some o) → Z i h → Z i h') {Ok : Heap → Prop} (hO : ∀ h h', (∀ b o, b ≠ S → b ∉ wr → h.get? b = some o → h'.get? b = some o) → Ok h → Ok h') (ad : AddsU P w S n Pv Ok Z) :
    ∀ (k i : Nat) (s : Shared), n - i = k → i ≤ n → St i s → Ok s.heap → Z i s.heap → (∀ s', Moved (S :: wr) G s s' → Z n s'.heap → R (.ok (.ret .none)) s') → codeAny (model P w) A (.builtin "set.update.loop" ⟨[.ref S, .ref I], []⟩) R s
  | 0, i, s, hk, hi, st, ok, z, fin => by
    obtain rfl : i = n := by omega
    have hw : S ∉ wr := fun q => hS (W.sub _ q)
    refine codeAny_builtin F.entry_set_update_loop ?_; rw [Around.under_plainId F.plain_set_update_loop _]; show wpAny _ A.in1 (pyNext (.ref I) >>= _) _ _ s
    refine wpAny_bind (W.done s _ _ st fun s1 m => wpAny_pure (fin s1 ?_ (hZ _ _ _ (fun o e => m.heap S o hw e) z)))
    exact ⟨fun b o hb e => m.heap b o (fun q => hb (List.mem_cons_of_mem _ q)) e, m.gens, m.drawn, m.os, m.toks⟩
  | k + 1, i, s, hk, hi, st, ok, z, fin => by
    have hw : S ∉ wr := fun q => hS (W.sub _ q)
    have hlt : i < n := by omega
    refine codeAny_builtin F.entry_set_update_loop ?_; rw [Around.under_plainId F.plain_set_update_loop _]; show wpAny _ A.in1 (pyNext (.ref I) >>= _) _ _ s
    refine wpAny_bind (W.item i s _ _ hlt st fun v s1 hv st1 m => ?_)
    have z1 : Z i s1.heap := hZ _ _ _ (fun o e => m.heap S o hw e) z
    show wpAny _ A.in1 (holding [v] (setAdd S v) >>= _) _ _ s1
    refine wpAny_bind (wpAny_holding (ad _ _ i v s1 _ hu hlt hv (hO _ _ (fun b o _ hb e => m.heap b o hb e) ok) z1 fun b h' tk sb ht z2 => wpAny_pure ⟨plainId_quiet F.plain_set_update_loop _, ?_⟩))
    have keep : ∀ c o, c ≠ S → s1.heap.get? c = some o → h'.get? c = some o := fun c o hc e => by rw [sb.2 c hc]; exact e
    refine fillU hu W hS hZ hO ad k (i + 1) _ (by omega) hlt (W.frame _ s1 _ _ st1 ht fun c hc o e => keep c o (fun q => hS (q ▸ hc)) e) (hO _ _ (fun c o hc hb e => keep c o hc (m.heap c o hb e)) ok) z2 fun s2 m2 z3 => fin s2 ?_ z3
    exact ⟨fun c o hc e => m2.heap c o hc (keep c o (fun q => hc (q ▸ List.mem_cons_self)) (m.heap c o (fun q => hc (List.mem_cons_of_mem _ q)) e)), W.gtrans _ _ _ m.gens m2.gens, m2.drawn.trans m.drawn, m2.os.trans m.os, Nat.le_trans m.toks (Nat.le_trans ht m2.toks)⟩
end
section
variable {P : Program} {w : World} {A : Around} {E : Value → Shared → Prop} {s : Shared} {Z : Nat → Heap → Prop}
/-- set(x), x a list or a tuple (T) of the items at l -/
theorem call_setU (hu : A.units + 8 < cLine) {T : String} {l : Addr} {items : Array Value} (hh : A.handled = none) (hl : (T = "list" ∧ s.heap.IsList l items) ∨ (T = "tuple" ∧ s.heap.IsTuple l items))
    (hZ : ∀ i h h', (∀ o, h.get? s.heap.objs.size = some o → h'.get? s.heap.objs.size = some o) → Z i h → Z i h')
    (z0 : ∀ h, h.get? s.heap.objs.size = some (fresh w) → Z 0 h) {Q : Value → Shared → Prop}
    (ad : AddsU P w s.heap.objs.size items.size (fun i v => items[i]? = some v) (fun h' => ∀ b o, s.heap.get? b = some o → h'.get? b = some o) Z)
    (h : ∀ (h' : Heap) (tk : Nat), Z items.size h' → (∀ b o, s.heap.get? b = some o → h'.get? b = some o) → Q (.ref s.heap.objs.size) { s with heap := h', toks := tk }) :
    wpAny (model P w) A (call (.type "set") [.ref l]) Q E s := by
  have hlS : l < s.heap.objs.size := by
    rcases hl with ⟨_, o, ho, _⟩ | ⟨_, o, ho, _⟩ <;> exact Heap.lt_size ho
  obtain ⟨c, tl, hmro⟩ := PySem.F.called_set.mro
  have made := PySem.F.called_set.made
  have sub := PySem.F.called_set.sub
  refine wpAny_call (codeAny_of_tree (show wpAny _ _ (callAny (.type "set") _) _ _ _ from ?_))
  refine wpAny_pure ⟨Code.quiet_builtin _ (by decide +kernel), codeAny_builtin PySem.F.entry_type_call ?_⟩
  rw [Around.under_plain (weight_type_call_type "set" [.ref l] []) rfl]
  have g1 := PySem.F.called_set.notType
  have g2 := PySem.F.called_set.canCreate
  have g3 := PySem.F.typeCall_set_1 (.ref l)
  repeat (any_goals (first | assumption | wp_step))
  refine codeAny_mono (code_set_led1 (P := P) (.ref l) (E := E) (Q₁ := fun obj s₁ => obj = .ref s.heap.objs.size ∧ s₁ = { s with heap := s.heap.push (fresh w) }) ⟨rfl, rfl⟩) fun r s₁ hr => ?_
  cases r with
  | error e => exact hr
  | ok fl =>
    cases fl with
    | ret obj =>
      obtain ⟨rfl, rfl⟩ := hr
      have atS : (s.heap.push (fresh w)).get? s.heap.objs.size = some (fresh w) := Heap.get?_push_size _ rfl
      have tyS : Shared.TypeIs { s with heap := s.heap.push (fresh w) } (.ref s.heap.objs.size) "set" := ⟨_, atS, rfl⟩
      have li := PySem.F.called_set.init.lookup
      have bi := PySem.F.called_set.init.bind (.ref s.heap.objs.size)
      repeat (any_goals (first | assumption | wp_step))
      refine codeAny_mono (codeAny_call_builtin (R := wants (fun r s₂ => r = .none ∧ ∃ h' tk, s₂ = { s with heap := h', toks := tk } ∧ Z items.size h' ∧ (∀ b o, s.heap.get? b = some o → h'.get? b = some o)) E) PySem.F.called_set.init.plain PySem.F.entry_set_init (check_set_init_1 tyS ?_)) fun r₂ s₂ hr₂ => ?_
      · have hh3 : A.in1.in1.in1.handled = none := by simp [hh]
        have neI : l ≠ (s.heap.push (fresh w)).objs.size := by
          rw [Heap.size_push]
          exact Nat.ne_of_lt (Nat.lt_succ_of_lt hlS)
        have outS : s.heap.objs.size ∉ [(s.heap.push (fresh w)).objs.size, l] := by
          rw [Heap.size_push]
          simp only [List.mem_cons, List.not_mem_nil, or_false, not_or]
          exact ⟨Nat.ne_of_lt (Nat.lt_succ_self _), Nat.ne_of_gt hlS⟩
        have fin : ∀ s' : Shared, Moved (s.heap.objs.size :: [(s.heap.push (fresh w)).objs.size]) (fun a b => b = a) { s with heap := s.heap.push (fresh w) } s' → Z items.size s'.heap →
            ∃ h' tk, s' = { s with heap := h', toks := tk } ∧ Z items.size h' ∧ (∀ b o, s.heap.get? b = some o → h'.get? b = some o) := fun s' m z => by
          obtain ⟨h', g', d', tk', os'⟩ := s'
          cases (show g' = s.gens from m.gens)
          cases (show d' = s.drawn from m.drawn)
          cases (show os' = s.os from m.os)
          refine ⟨h', tk', rfl, z, fun b o e => m.heap b o ?_ (Heap.get?_push_of_some _ e)⟩
          have lt := Heap.lt_size e
          rw [Heap.size_push]
          simp only [List.mem_cons, List.not_mem_nil, or_false, not_or]
          exact ⟨Nat.ne_of_lt lt, Nat.ne_of_lt (Nat.lt_succ_of_lt lt)⟩
        have okS : ∀ h h' : Heap, (∀ b o, b ≠ s.heap.objs.size → b ∉ [(s.heap.push (fresh w)).objs.size] → h.get? b = some o → h'.get? b = some o) → (∀ b o, s.heap.get? b = some o → h.get? b = some o) → ∀ b o, s.heap.get? b = some o → h'.get? b = some o := fun h h' k q b o e => by
          have lt := Heap.lt_size e
          refine k b o (Nat.ne_of_lt lt) ?_ (q b o e)
          rw [Heap.size_push, List.mem_singleton]
          exact Nat.ne_of_lt (Nat.lt_succ_of_lt lt)
        have ne1 : (Value.type "list" == Value.type "dict") = false := by decide
        have ne2 : (Value.type "tuple" == Value.type "dict") = false := by decide
        have a1 := PySem.F.sub_list_set
        have a2 := PySem.F.sub_list_frozenset
        have a3 := F.sub_tuple_set
        have a4 := F.sub_tuple_frozenset
        rcases hl with ⟨rfl, hl⟩ | ⟨rfl, hl⟩
        · obtain ⟨⟨ocls, odict, odata, oslots⟩, ho, hcl, nl, hdl⟩ := hl
          simp only at hcl hdl
          subst hcl hdl
          have ho' : (s.heap.push (fresh w)).get? l = some { cls := .type "list", dict := odict, data := .seq items nl, slots := oslots } := Heap.get?_push_of_some _ ho
          have l1 : (s.heap.push (fresh w)).IsList l items := ⟨_, ho', rfl, nl, rfl⟩
          unfold Builtin.«set.__init__» noKeywords Builtin.Frozenset.updateFrom
          generalize hPI : pyIter = PI
          wp_walk
          subst hPI
          refine wpAny_pyIter_list l1 (wpAny_bind (wpAny_runValue (fillU (by simp; omega) ((Walks.list hh3 _ l neI items).toS) outS hZ okS ad (items.size - 0) 0 _ (by omega) (Nat.zero_le _) ⟨⟨_, Heap.get?_push_size _ rfl, rfl, rfl⟩, l1.push _⟩ (fun b o e => Heap.get?_push_of_some _ (Heap.get?_push_of_some _ e)) (z0 _ (Heap.get?_push_of_some _ atS)) fun s' m z => ?_)))
          obtain ⟨h', tk, rfl, z2, kp⟩ := fin s' ⟨fun b o hb e => m.heap b o hb (Heap.get?_push_of_some _ e), m.gens, m.drawn, m.os, m.toks⟩ z
          exact wpAny_pure (wpAny_pure ⟨rfl, h', tk, rfl, z2, kp⟩)
        · obtain ⟨⟨ocls, odict, odata, oslots⟩, ho, hcl, nl, hdl⟩ := hl
          simp only at hcl hdl
          subst hcl hdl
          have ho' : (s.heap.push (fresh w)).get? l = some { cls := .type "tuple", dict := odict, data := .seq items nl, slots := oslots } := Heap.get?_push_of_some _ ho
          have l1 : (s.heap.push (fresh w)).IsTuple l items := ⟨_, ho', rfl, nl, rfl⟩
          unfold Builtin.«set.__init__» noKeywords Builtin.Frozenset.updateFrom
          generalize hPI : pyIter = PI
          wp_walk
          subst hPI
          refine wpAny_pyIter_tuple l1 (wpAny_bind (wpAny_runValue (fillU (by simp; omega) ((Walks.tuple hh3 _ l neI items).toS) outS hZ okS ad (items.size - 0) 0 _ (by omega) (Nat.zero_le _) ⟨⟨_, Heap.get?_push_size _ rfl, rfl, rfl⟩, l1.push _⟩ (fun b o e => Heap.get?_push_of_some _ (Heap.get?_push_of_some _ e)) (z0 _ (Heap.get?_push_of_some _ atS)) fun s' m z => ?_)))
          obtain ⟨h', tk, rfl, z2, kp⟩ := fin s' ⟨fun b o hb e => m.heap b o hb (Heap.get?_push_of_some _ e), m.gens, m.drawn, m.os, m.toks⟩ z
          exact wpAny_pure (wpAny_pure ⟨rfl, h', tk, rfl, z2, kp⟩)
      · cases r₂ with
        | error e => exact hr₂
        | ok fl₂ =>
          cases fl₂ with
          | ret r =>
            obtain ⟨rfl, h', tk, rfl, z, kp⟩ := hr₂
            repeat (any_goals (first | assumption | wp_step))
            exact h _ _ z kp
          | _ => exact hr₂.elim
    | _ => exact hr.elim
end
end ZS

/-! Tuples of texts: their order, sorted lists of them, sets of them. -/
namespace RS
open PySem PySem.Spec PyProof.Rows L2
/-- s < t -/
def ltS (a b : Str) : Bool := decide (a.cps.toList < b.cps.toList)
theorem str_ext {a b : Str} (h : a.cps.toList = b.cps.toList) : a = b := by
  cases a with
  | mk x =>
    cases b with
    | mk y => exact congrArg Str.mk (Array.toList_inj.mp h)
theorem ltS_irrefl (a : Str) : ltS a a = false := decide_eq_false (List.lt_irrefl _)
theorem ltS_asym {a b : Str} (h : ltS a b = true) : ltS b a = false := decide_eq_false fun h2 => List.lt_irrefl _ (List.lt_trans (of_decide_eq_true h) h2)
theorem ltS_total {a b : Str} (h1 : ltS a b = false) (h2 : ltS b a = false) : a = b :=
  str_ext (List.le_antisymm (List.not_lt.mp (of_decide_eq_false h2)) (List.not_lt.mp (of_decide_eq_false h1)))
theorem ltS_trans {a b c : Str} (h1 : ltS a b = true) (h2 : ltS b c = true) : ltS a c = true := decide_eq_true (List.lt_trans (of_decide_eq_true h1) (of_decide_eq_true h2))
/-- the order of tuples of texts -/
def lexT : List Str → List Str → Bool
  | [], [] => false
  | [], _ :: _ => true
  | _ :: _, [] => false
  | x :: xs, y :: ys => if x = y then lexT xs ys else ltS x y
theorem lexT_irrefl : ∀ xs : List Str, lexT xs xs = false
  | [] => rfl
  | x :: xs => by
    show (if x = x then lexT xs xs else ltS x x) = false
    rw [if_pos rfl, lexT_irrefl xs]
theorem lexT_asym : ∀ {xs ys : List Str}, lexT xs ys = true → lexT ys xs = false
  | [], [], h => by cases h
  | [], _ :: _, _ => rfl
  | _ :: _, [], h => by cases h
  | x :: xs, y :: ys, h => by
    have h : (if x = y then lexT xs ys else ltS x y) = true := h
    show (if y = x then lexT ys xs else ltS y x) = false
    by_cases e : x = y
    · rw [if_pos e] at h
      rw [if_pos e.symm]
      exact lexT_asym h
    · rw [if_neg e] at h
      rw [if_neg (Ne.symm e)]
      exact ltS_asym h
theorem lexT_total : ∀ {xs ys : List Str}, lexT xs ys = false → lexT ys xs = false → xs = ys
  | [], [], _, _ => rfl
  | [], _ :: _, h, _ => by cases h
  | _ :: _, [], _, h => by cases h
  | x :: xs, y :: ys, h1, h2 => by
    have h1 : (if x = y then lexT xs ys else ltS x y) = false := h1
    have h2 : (if y = x then lexT ys xs else ltS y x) = false := h2
    by_cases e : x = y
    · rw [if_pos e] at h1
      rw [if_pos e.symm] at h2
      rw [e, lexT_total h1 h2]
    · rw [if_neg e] at h1
      rw [if_neg (Ne.symm e)] at h2
      exact absurd (ltS_total h1 h2) e
theorem lexT_trans : ∀ {xs ys zs : List Str}, lexT xs ys = true → lexT ys zs = true → lexT xs zs = true
  | [], [], _, h, _ => by cases h
  | [], _ :: _, [], _, h => by cases h
  | [], _ :: _, _ :: _, _, _ => rfl
  | _ :: _, [], _, h, _ => by cases h
  | _ :: _, _ :: _, [], _, h => by cases h
  | x :: xs, y :: ys, z :: zs, h1, h2 => by
    have h1 : (if x = y then lexT xs ys else ltS x y) = true := h1
    have h2 : (if y = z then lexT ys zs else ltS y z) = true := h2
    show (if x = z then lexT xs zs else ltS x z) = true
    by_cases e : x = y
    · subst e
      rw [if_pos rfl] at h1
      by_cases e2 : x = z
      · rw [if_pos e2] at h2 ⊢
        exact lexT_trans h1 h2
      · rw [if_neg e2] at h2 ⊢
        exact h2
    · rw [if_neg e] at h1
      by_cases e2 : y = z
      · subst e2
        rw [if_neg e]
        exact h1
      · rw [if_neg e2] at h2
        have h3 := ltS_trans h1 h2
        have e3 : ¬ x = z := fun q => by
          rw [q, ltS_irrefl] at h3
          cases h3
        rw [if_neg e3]
        exact h3
theorem lexT_tr {xs ys zs : List Str} (h1 : lexT ys xs = false) (h2 : lexT zs ys = false) : lexT zs xs = false := by
  cases h : lexT zs xs with
  | false => rfl
  | true =>
    exfalso
    cases h3 : lexT xs ys with
    | true =>
      rw [lexT_trans h h3] at h2
      cases h2
    | false =>
      have e := lexT_total h1 h3
      rw [e, h] at h2
      cases h2
theorem lexT_swo {α : Type} (k : α → List Str) : SrtO.Swo fun v u => lexT (k v) (k u) := ⟨fun _ _ h => lexT_asym h, fun _ _ _ h1 h2 => lexT_tr h1 h2⟩
/-- v is a tuple of these texts -/
def TupS (h : Heap) (v : Value) (ns : List Str) : Prop := ∃ a o us n, v = .ref a ∧ h.get? a = some o ∧ o.cls = .type "tuple" ∧ o.data = .seq us n ∧ StrsAre us.toList ns
theorem TupS.keeps {h h' : Heap} {v : Value} {ns : List Str} (p : TupS h v ns) (k : ∀ b o, h.get? b = some o → o.cls = .type "tuple" → h'.get? b = some o) : TupS h' v ns := by
  obtain ⟨a, o, us, n, e, ho, hc, hd, hi⟩ := p
  exact ⟨a, o, us, n, e, k _ _ ho hc, hc, hd, hi⟩
section
variable {prog : Program} {w : World} {A : Around} {E : Value → Shared → Prop} {s : Shared}
theorem lex_go : ∀ {us vs : List Value} {xs ys : List Str} (i : Nat) {b fin : Bool} {Q : Bool → Shared → Prop}, StrsAre us xs → StrsAre vs ys → fin = decide (xs.length < ys.length) → Q (lexT xs ys) s → PySem.W.KatLex prog w A b fin Q (us.zip vs) i s
  | _, _, _, _, i, b, fin, Q, .nil, .nil, hf, q => by
    subst hf
    exact PySem.W.kat_nil q
  | _, _, _, _, i, b, fin, Q, .nil, .cons y t r, hf, q => by
    subst hf
    exact PySem.W.kat_nil (by rw [decide_eq_true (by simp)]; exact q)
  | _, _, _, _, i, b, fin, Q, .cons x t r, .nil, hf, q => by
    subst hf
    exact PySem.W.kat_nil (by rw [decide_eq_false (by simp)]; exact q)
  | _, _, _, _, i, b, fin, Q, @StrsAre.cons x t us xs r, @StrsAre.cons y u vs ys r2, hf, q => by
    refine PySem.W.kat_cons (SeqAt.EqAt.str_str x t y u prog w _ _ (PySem.W.kat_go (fun e1 => ?_) (fun e1 => ?_)))
    · have e : x = y := by simpa using e1
      have q' : Q (if x = y then lexT xs ys else ltS x y) s := q
      rw [if_pos e] at q'
      exact PySem.W.kat_yes (lex_go (i + 1) r r2 (by rw [hf]; exact decide_eq_decide.mpr (by simp)) q')
    · have e : ¬ x = y := by simpa using e1
      have q' : Q (if x = y then lexT xs ys else ltS x y) s := q
      rw [if_neg e] at q'
      refine PySem.W.kat_no ?_
      cases hb : (b && i == 0) with
      | true => exact oneLt_str q'
      | false => exact PySem.W.kat_one _ _ (lt_str q')
/-- a value's texts, read from the heap -/
theorem tup_cmp {vs : List Value} {k : Value → List Str} (hp : ∀ v ∈ vs, TupS s.heap v (k v)) : SrtO.Cmp prog w A s (tuples' true) (fun p => p.1 ∈ vs) (SrtO.lt2 fun v u => lexT (k v) (k u)) := by
  intro p q hm hm'
  show wpAny (model prog w) A (keyLt' (tuples' true) p.1 q.1) (fun r s' => s' = s ∧ r = lexT (k p.1) (k q.1)) (fun _ _ => False) s
  obtain ⟨a, o, us, n, e, ho, hc, hd, hi⟩ := hp _ hm
  obtain ⟨a', o', us', n', e', ho', hc', hd', hi'⟩ := hp _ hm'
  rw [e] at hi ⊢
  rw [e'] at hi' ⊢
  refine PySem.W.kat_lt ho hd ho' hd' (lex_go 0 hi hi' ?_ ⟨rfl, rfl⟩)
  rw [← hi.len_eq, ← hi'.len_eq, Array.length_toList, Array.length_toList]
theorem firsts_tx {h : Heap} {k : Value → List Str} : ∀ {vs : List Value}, (∀ v ∈ vs, TupS h v (k v) ∧ k v ≠ []) → ∃ fs : List Value, PySem.W.KatTups h vs fs ∧ fs.length = vs.length ∧ ∀ f ∈ fs, ∃ x t, f = Value.str x t
  | [], _ => ⟨[], PySem.W.KatTups.nil, rfl, fun _ hm => nomatch hm⟩
  | v :: vs, hp => by
    obtain ⟨fs, h1, h2, h3⟩ := firsts_tx (vs := vs) fun v' hm => hp v' (List.mem_cons_of_mem _ hm)
    obtain ⟨⟨a, o, us, n, e, ho, hc, hd, hi⟩, hne⟩ := hp v List.mem_cons_self
    generalize hk : k v = ks at hi hne
    subst e
    obtain ⟨x, t, e0⟩ : ∃ x t, us[0]? = some (Value.str x t) := by
      rw [← Array.getElem?_toList]
      generalize us.toList = l at hi
      cases hi with
      | nil => exact absurd rfl hne
      | cons x t r => exact ⟨x, t, rfl⟩
    refine ⟨.str x t :: fs, PySem.W.KatTups.cons ho hc hd e0 h1, by rw [List.length_cons, List.length_cons, h2], fun f hm => ?_⟩
    rcases List.mem_cons.mp hm with rfl | hm
    · exact ⟨x, t, rfl⟩
    · exact h3 f hm
theorem tup_sortable {a : Addr} {vs : List Value} {k : Value → List Str} (h0 : 0 < vs.length) (hp : ∀ v ∈ vs, TupS s.heap v (k v) ∧ k v ≠ []) (ha : ∀ o, s.heap.get? a = some o → o.cls ≠ .type "tuple") : SrtO.SortableO prog w A s a vs fun v u => lexT (k v) (k u) := by
  intro h' keep
  have hp' : ∀ v ∈ vs, TupS h' v (k v) ∧ k v ≠ [] := fun v hm => ⟨(hp v hm).1.keeps fun b o e c => keep b o (fun z => by subst z; exact ha o e c) e, (hp v hm).2⟩
  obtain ⟨fs, h1, h2, h3⟩ := firsts_tx hp'
  refine ⟨tuples' true, fun Q E hq => ?_, tup_cmp fun v hm => (hp' v hm).1⟩
  refine PySem.W.kat_kind (T := .type "str") h1 (by omega) (fun f hm => ?_) (by rfl) ?_
  · obtain ⟨x, t, rfl⟩ := h3 f hm
    exact PySem.W.Looks.now
  · rw [show (Value.type "str" != Value.type "tuple") = true by first | decide +kernel | rfl | decide]
    exact hq
/-- sorted(l) of tuples of texts -/
theorem sorted_tt {l : Addr} {vs : List Value} {k : Value → List Str} {Q : Value → Shared → Prop} (hl : s.heap.IsList l vs.toArray) (hz : vs.length ≤ sizeLine) (hp : ∀ v ∈ vs, TupS s.heap v (k v) ∧ k v ≠ [])
    (h : ∀ (h' : Heap) (d : Addr) (out : List Value), SrtO.Srtd (fun v u => lexT (k v) (k u)) out → out.Perm vs → (∀ b o, s.heap.get? b = some o → h'.get? b = some o) → s.heap.objs.size ≤ d → (∃ n, h'.get? d = some (seqObj "list" out.toArray n)) → Q (.ref d) { s with heap := h' }) :
    wpAny (model prog w) A (call (.builtin "sorted") [.ref l]) Q E s := by
  refine SrtO.sorted_ord (lexT_swo k) hl hz (fun h2 h₁ a ha kk => ?_) fun out hs hb => ?_
  · refine tup_sortable (s := { s with heap := h₁ }) (by omega) (fun v hm => ⟨(hp v hm).1.keeps fun b o e _ => (kk b o e).2, (hp v hm).2⟩) fun o e c => ?_
    have e' : some o = some (seqObj "list" vs.toArray 0) := e.symm.trans ha
    cases e'
    exact absurd (Value.type.inj c) (by decide)
  · exact h _ _ out hs hb.perm (fun b o e => sortedAll_old e) (Nat.le_succ _) (sortedAll_at s.heap vs out.toArray)
end
end RS

/-! Sets of tuples of texts. -/
namespace RS
open PySem PySem.Spec PyProof.Rows L2
theorem is_str_shape {P : Program} {w : World} {k : Str} {v : Value} (h : (PySem.strKind P w).is k v = true) : ∃ t, v = .str k t := ZS.str_of_is h
theorem is_str_tt {P : Program} {w : World} (k : Str) (t : Tok) : (PySem.strKind P w).is k (.str k t) = true := by
  show Value.isStrOf k (.str k t) = true
  exact beq_self_eq_true k
theorem items_strs {P : Program} {w : World} {ks : List Str} {vs : List Value} (h : ItemsAre (PySem.strKind P w) ks vs) : StrsAre vs ks := by
  induction h with
  | nil => exact .nil
  | cons h1 _ ih =>
    obtain ⟨t, e⟩ := is_str_shape h1
    subst e
    exact .cons _ t ih
theorem strs_items {P : Program} {w : World} {ks : List Str} {vs : List Value} (h : StrsAre vs ks) : ItemsAre (PySem.strKind P w) ks vs := by
  induction h with
  | nil => exact .nil
  | cons x t _ ih => exact .cons (is_str_tt x t) ih
theorem strs_all {vs : List Value} {ks : List Str} (h : StrsAre vs ks) : ∀ v ∈ vs, ∃ x t, v = Value.str x t := by
  induction h with
  | nil => exact fun _ z => nomatch z
  | cons x t _ ih =>
    intro v hv
    rcases List.mem_cons.mp hv with rfl | hv
    · exact ⟨x, t, rfl⟩
    · exact ih v hv
theorem cls_str (n : Nat) (x : Str) (t : Tok) : ofAClassStatement n (.str x t) = pure false := by cases n <;> rfl
theorem byv_str (n : Nat) (x : Str) (t : Tok) : hashByValue n (.str x t) = pure false := by cases n <;> rfl
section
variable {P : Program} {w : World} {A : Around} {E : Value → Shared → Prop} {s : Shared}
abbrev IsTT (P : Program) (w : World) (h : Heap) (k : List Str) (a : Addr) : Prop := IsTupleKey (PySem.strKind P w) h k a
theorem cls_tt {k : List Str} {b : Addr} {Q : Bool → Shared → Prop} (hk : IsTT P w s.heap k b) (h : Q false s) : wpAny (model P w) A (ofAClassStatement 8 (.ref b)) Q E s := by
  have hT := hk.typeIs
  obtain ⟨o, items, n, ho, _, hd, hi⟩ := hk
  unfold ofAClassStatement; refine wpAny_bind (wpAny_typeOf hT ?_); dsimp only
  simp only [show (("tuple" : String) == "tuple") = true by decide, if_true, Bool.not_true, Bool.false_eq_true, if_false]
  show wpAny _ _ (seqItems? (.ref b) >>= _) _ _ s; refine wpAny_bind (wpAny_seqItems ho hd (wpAny_bind ?_))
  show wpAny _ _ (forIn items _ _) _ _ s; rw [← Array.forIn_toList]
  refine wpAny_forIn_list _ (fun rest r s' => (r.1 = none ∧ s' = s) ∧ ∀ v ∈ rest, ∃ x t, v = Value.str x t) _ ?_ ?_ _ _ ⟨⟨rfl, rfl⟩, strs_all (items_strs hi)⟩
  · rintro v rest r s' ⟨⟨hr, rfl⟩, all⟩
    obtain ⟨x, t, rfl⟩ := all v List.mem_cons_self
    rw [cls_str]; refine wpAny_bind (wpAny_pure ?_); simp only [Bool.false_eq_true, if_false]
    exact wpAny_pure ⟨⟨rfl, rfl⟩, fun u hu => all u (List.mem_cons_of_mem _ hu)⟩
  · rintro ⟨r1, r2⟩ s' ⟨⟨hr, rfl⟩, _⟩
    cases (show r1 = none from hr)
    exact wpAny_pure h
theorem byv_tt {k : List Str} {b : Addr} {Q : Bool → Shared → Prop} (hk : IsTT P w s.heap k b) (h : ∀ b, Q b s) : wpAny (model P w) A (hashByValue 8 (.ref b)) Q E s := by
  have hT := hk.typeIs
  obtain ⟨o, items, n, ho, _, hd, hi⟩ := hk
  unfold hashByValue; refine wpAny_bind (wpAny_specialOf hT F.slot_tuple_hash.lookup ?_)
  show wpAny _ _ (seqItems? (.ref b) >>= _) _ _ s; refine wpAny_bind (wpAny_seqItems ho hd (wpAny_bind ?_))
  show wpAny _ _ (forIn items _ _) _ _ s; rw [← Array.forIn_toList]
  have hs := strs_all (items_strs hi)
  generalize items.toList = l at hs
  cases l with
  | nil =>
    rw [List.forIn_nil]; refine wpAny_pure ?_
    exact wpAny_pure (h true)
  | cons v l =>
    obtain ⟨x, t, rfl⟩ := hs v List.mem_cons_self
    rw [List.forIn_cons, byv_str]; refine wpAny_bind (wpAny_bind (wpAny_pure ?_)); simp only [Bool.not_false, if_true]
    refine wpAny_pure (wpAny_pure ?_)
    exact wpAny_pure (h false)
end
/-- tuples of texts as keys -/
def TT (P : Program) (w : World) : HK P w (List Str) where
  is := IsTT P w
  hash := tupleKeyHash (PySem.strKind P w)
  keep := fun ⟨o, items, n, ho, r⟩ k => ⟨o, items, n, k o ho, r⟩
  noSet := fun ⟨o', items, n, ho', hc, hd', hi⟩ ho hd => by
    rw [ho'] at ho
    cases ho
    rw [hd] at hd'
    cases hd'
  eqB := fun hu hx hy h => wpAny_eqBool_tuple hu hx hy h
  quiet := fun hk h => wpAny_eqIsQuiet_tuple hk h
  cls := fun hk h => cls_tt hk h
  byV := fun hk h => byv_tt hk h
  hsh := fun hu hk h => wpAny_pyHash_tuple hu hk (h _)
end RS

/-! set(xs) of tuples of texts: its length, and sorted. -/
namespace RS
open PySem PySem.Spec PyProof.Rows L2
section
variable {P : Program} {w : World} {κ : Type} [DecidableEq κ] {K : HK P w κ} {A : Around} {E : Value → Shared → Prop} {s : Shared}
/-- the set without its elements -/
structure T0 (K : HK P w κ) (h : Heap) (a : Addr) (L : List (Addr × κ)) (es : Array (Int × Value)) (ep : Nat) (t : SetTable) : Prop where
  ob : ∃ o, h.get? a = some o ∧ o.ExactSet ∧ o.data = .set es ep t
  rows : es.toList = rws K L
  tab : TabOk t (L.map fun p => K.hash p.2)
  nd : (L.map (·.2)).Nodup
  led : w.params.followText "set-order" = true ∨ t.led = true
  room : L.length * 5 < t.mask * 3
  few : L.length < 64
theorem Tb.t0 {h : Heap} {a : Addr} {L : List (Addr × κ)} {es : Array (Int × Value)} {ep : Nat} {t : SetTable} (R : Tb K h a L es ep t) : T0 K h a L es ep t := ⟨R.ob, R.rows, R.tab, R.nd, R.led, R.room, R.few⟩
theorem T0.tb {h : Heap} {a : Addr} {L : List (Addr × κ)} {es : Array (Int × Value)} {ep : Nat} {t : SetTable} (R : T0 K h a L es ep t) (el : ∀ p ∈ L, K.is h p.2 p.1) : Tb K h a L es ep t := ⟨R.ob, R.rows, R.tab, R.nd, el, R.led, R.room, R.few⟩
theorem T0.keep {h h' : Heap} {a : Addr} {L : List (Addr × κ)} {es : Array (Int × Value)} {ep : Nat} {t : SetTable} (R : T0 K h a L es ep t) (k : ∀ o, h.get? a = some o → h'.get? a = some o) : T0 K h' a L es ep t := by
  obtain ⟨o, ho, r⟩ := R.ob
  exact ⟨⟨o, k o ho, r⟩, R.rows, R.tab, R.nd, R.led, R.room, R.few⟩
theorem T0.empty {h : Heap} {a : Addr} (ho : h.get? a = some (ZS.fresh w)) : T0 K h a [] #[] 0 (.fresh 0 0 (!w.params.followText "set-order")) where
  ob := ⟨_, ho, ⟨rfl, rfl, rfl⟩, rfl⟩
  rows := rfl
  tab := ⟨List.Pairwise.nil, rfl, rfl, .inl rfl, fun x hx => (nomatch hx), fun i h j hi => (by simp at hi)⟩
  nd := List.nodup_nil
  led := by
    show _ ∨ (!w.params.followText "set-order") = true
    cases w.params.followText "set-order"
    · exact .inr rfl
    · exact .inl rfl
  room := by show 0 * 5 < 7 * 3; decide
  few := by show 0 < 64; decide
/-- what the first i of ks leave in a set -/
structure Gt (ks : List (Addr × κ)) (i : Nat) (L : List (Addr × κ)) : Prop where
  sub : ∀ p ∈ L, p ∈ ks.take i
  all : ∀ p ∈ ks.take i, p.2 ∈ L.map (·.2)
  len : L.length ≤ i
theorem tk_more {α : Type} {l : List α} {i : Nat} {x : α} (h : l[i]? = some x) : l.take (i + 1) = l.take i ++ [x] := by rw [List.take_succ, h]; rfl
theorem Gt.old {ks L : List (Addr × κ)} {i : Nat} {x : Addr × κ} (g : Gt ks i L) (h : ks[i]? = some x) (hm : x.2 ∈ L.map (·.2)) : Gt ks (i + 1) L where
  sub p hp := by rw [tk_more h]; exact List.mem_append_left _ (g.sub p hp)
  all p hp := by
    rw [tk_more h] at hp
    rcases List.mem_append.mp hp with z | z
    · exact g.all p z
    · cases List.mem_singleton.mp z; exact hm
  len := Nat.le_succ_of_le g.len
theorem Gt.new {ks L L' : List (Addr × κ)} {i : Nat} {x : Addr × κ} (g : Gt ks i L) (h : ks[i]? = some x) (pm : L'.Perm (x :: L)) : Gt ks (i + 1) L' where
  sub p hp := by
    rw [tk_more h]
    rcases List.mem_cons.mp (pm.mem_iff.mp hp) with rfl | z
    · exact List.mem_append_right _ (List.mem_singleton.mpr rfl)
    · exact List.mem_append_left _ (g.sub p z)
  all p hp := by
    rw [(pm.map (·.2)).mem_iff, List.map_cons]; rw [tk_more h] at hp
    rcases List.mem_append.mp hp with z | z
    · exact List.mem_cons_of_mem _ (g.all p z)
    · cases List.mem_singleton.mp z; exact List.mem_cons_self
  len := by rw [pm.length_eq, List.length_cons]; exact Nat.succ_le_succ g.len
/-- set(xs) -/
theorem set_of {l : Addr} {items : Array Value} {ks : List (Addr × κ)} {Q : Value → Shared → Prop} (hh : A.handled = none) (hu : A.units + 8 < cLine) (hl : s.heap.IsList l items ∨ s.heap.IsTuple l items) (hi : items.toList = ks.map fun p => Value.ref p.1) (hk : ∀ p ∈ ks, K.is s.heap p.2 p.1) (hn : ks.length < 64)
    (h : ∀ (h' : Heap) (tk : Nat) L es ep t, Tb K h' s.heap.objs.size L es ep t → Gt ks ks.length L → (∀ b o, s.heap.get? b = some o → h'.get? b = some o) → Q (.ref s.heap.objs.size) { s with heap := h', toks := tk }) : wpAny (model P w) A (call (.type "set") [.ref l]) Q E s := by
  have sz : items.size = ks.length := by rw [← Array.length_toList, hi, List.length_map]
  have item : ∀ {i : Nat} {v : Value}, items[i]? = some v → ∃ p : Addr × κ, ks[i]? = some p ∧ v = Value.ref p.1 := fun {i v} e => by
    rw [← Array.getElem?_toList, hi, List.getElem?_map] at e
    cases z : ks[i]? with
    | none => rw [z] at e; cases e
    | some p => rw [z] at e; cases e; exact ⟨p, rfl, rfl⟩
  have keepK : ∀ {h' : Heap}, (∀ b o, s.heap.get? b = some o → h'.get? b = some o) → ∀ p ∈ ks, K.is h' p.2 p.1 := fun k p hp => K.keep (hk p hp) fun o e => k _ o e
  have hS : s.heap.get? s.heap.objs.size = none := by
    cases e : s.heap.get? s.heap.objs.size with
    | none => rfl
    | some o => exact absurd (Heap.lt_size e) (Nat.lt_irrefl _)
  have ad : ZS.AddsU P w s.heap.objs.size items.size (fun i v => items[i]? = some v) (fun h' => ∀ b o, s.heap.get? b = some o → h'.get? b = some o) (fun i h => ∃ L es ep t, T0 K h s.heap.objs.size L es ep t ∧ Gt ks i L) := by
    intro A' E' i v s' Q' hu' hlt hv ok ⟨L, es, ep, t, R, g⟩ hQ
    obtain ⟨p, hp, rfl⟩ := item hv
    have hks := keepK ok
    have R' := R.tb fun q hq => hks q (List.mem_of_mem_take (g.sub q hq))
    have hx := hks p (List.mem_of_getElem? hp)
    have hil : i < ks.length := (List.getElem?_eq_some_iff.mp hp).1
    unfold setAdd; refine wpAny_holding (wpAny_bind (K.hsh hu' hx fun n => ?_))
    refine add (s := { s' with toks := s'.toks + n }) R' hx hu' (by have := g.len; omega) fun b h' L' es' ep' t' sb R2 c1 c2 => hQ b h' _ sb (Nat.le_add_right _ _) ⟨L', es', ep', t', R2.t0, ?_⟩
    by_cases c : p.2 ∈ L.map (·.2)
    · rw [c1 c]; exact g.old hp c
    · exact g.new hp (c2 c)
  have hZ : ∀ i h h', (∀ o, h.get? s.heap.objs.size = some o → h'.get? s.heap.objs.size = some o) → (∃ L es ep t, T0 K h s.heap.objs.size L es ep t ∧ Gt ks i L) → ∃ L es ep t, T0 K h' s.heap.objs.size L es ep t ∧ Gt ks i L := fun i h h' k ⟨L, es, ep, t, R, g⟩ => ⟨L, es, ep, t, R.keep k, g⟩
  have z0 : ∀ h : Heap, h.get? s.heap.objs.size = some (ZS.fresh w) → ∃ L es ep t, T0 K h s.heap.objs.size L es ep t ∧ Gt ks 0 L := fun h e => ⟨[], _, _, _, T0.empty e, fun _ z => (nomatch z), fun _ z => (by simp at z), Nat.le_refl _⟩
  have fin : ∀ (h' : Heap) (tk : Nat), (∃ L es ep t, T0 K h' s.heap.objs.size L es ep t ∧ Gt ks items.size L) → (∀ b o, s.heap.get? b = some o → h'.get? b = some o) → Q (.ref s.heap.objs.size) { s with heap := h', toks := tk } := fun h' tk ⟨L, es, ep, t, R, g⟩ k => by
    rw [sz] at g
    refine h h' tk L es ep t (R.tb fun q hq => keepK k q (List.mem_of_mem_take (g.sub q hq))) g k
  rcases hl with hl | hl
  · exact ZS.call_setU hu hh (.inl ⟨rfl, hl⟩) hZ z0 ad fin
  · exact ZS.call_setU hu hh (.inr ⟨rfl, hl⟩) hZ z0 ad fin
end
end RS

/-! sorted(set(xs)), len(set(xs)), sorted(xs) of tuples of texts, as rules. -/
namespace RS
open PySem PySem.Spec PyProof.Rows L2
/-- strictly ascending tuples of texts -/
def Asc (l : List (List Str)) : Prop := l.Pairwise fun a b => lexT a b = true
theorem tt_tupS {P : Program} {w : World} {h : Heap} {k : List Str} {b : Addr} (x : IsTT P w h k b) : TupS h (.ref b) k := by
  obtain ⟨o, items, n, ho, hc, hd, hi⟩ := x
  exact ⟨b, o, items, n, rfl, ho, hc, hd, items_strs hi⟩
theorem tt_inj {P : Program} {w : World} {h : Heap} {k k' : List Str} {b : Addr} (x : IsTT P w h k b) (y : IsTT P w h k' b) : k = k' := IsTupleKey.inj x y
/-- the texts of the tuple that a value is -/
def keyOf (L : List (Addr × List Str)) : Value → List Str
  | .ref b => ((L.find? fun p => decide (p.1 = b)).map (·.2)).getD []
  | _ => []
def adrOf : Value → Addr
  | .ref b => b
  | _ => 0
theorem keyOf_at {P : Program} {w : World} {h : Heap} {L : List (Addr × List Str)} (el : ∀ p ∈ L, IsTT P w h p.2 p.1) {p : Addr × List Str} (hp : p ∈ L) : keyOf L (.ref p.1) = p.2 := by
  show ((L.find? fun q => decide (q.1 = p.1)).map (·.2)).getD [] = p.2
  cases e : L.find? fun q => decide (q.1 = p.1) with
  | none => exact absurd (List.find?_eq_none.mp e p hp) (by simp)
  | some q =>
    have h1 := List.mem_of_find?_eq_some e
    have h2 : q.1 = p.1 := by simpa using List.find?_some e
    have h3 := el q h1
    rw [h2] at h3
    show q.2 = p.2
    exact tt_inj h3 (el p hp)
theorem sorted_back {L : List (Addr × List Str)} {out : List Value} (hk : ∀ p ∈ L, keyOf L (.ref p.1) = p.2) (hp : out.Perm (L.map fun p => Value.ref p.1)) : ∃ L2 : List (Addr × List Str), L2.Perm L ∧ out = L2.map (fun p => Value.ref p.1) ∧ ∀ p ∈ L2, keyOf L (.ref p.1) = p.2 := by
  refine ⟨out.map fun v => (adrOf v, keyOf L v), ?_, ?_, ?_⟩
  · have h := hp.map fun v => (adrOf v, keyOf L v)
    rw [List.map_map] at h
    have e : L.map ((fun v => (adrOf v, keyOf L v)) ∘ fun p => Value.ref p.1) = L := by
      conv => rhs; rw [← List.map_id L]
      refine List.map_congr_left fun p hp => ?_
      show (p.1, keyOf L (.ref p.1)) = p
      rw [hk p hp]
    rw [e] at h
    exact h
  · rw [List.map_map]
    conv => lhs; rw [← List.map_id out]
    refine List.map_congr_left fun v hv => ?_
    obtain ⟨p, _, rfl⟩ := List.mem_map.mp (hp.mem_iff.mp hv)
    rfl
  · intro p hpm
    obtain ⟨v, hv, rfl⟩ := List.mem_map.mp hpm
    obtain ⟨q, _, rfl⟩ := List.mem_map.mp (hp.mem_iff.mp hv)
    rfl
theorem asc_of {L L2 : List (Addr × List Str)} {out : List Value} (ho : out = L2.map fun p => Value.ref p.1) (hk : ∀ p ∈ L2, keyOf L (.ref p.1) = p.2) (hs : SrtO.Srtd (fun v u => lexT (keyOf L v) (keyOf L u)) out) (nd : (L2.map (·.2)).Nodup) : Asc (L2.map (·.2)) := by
  unfold Asc
  have h1 : L2.Pairwise fun p q => lexT q.2 p.2 = false := by
    have h2 := hs
    rw [ho] at h2
    have h3 := List.pairwise_map.mp h2
    refine List.Pairwise.imp_of_mem (fun {p q} hp hq z => ?_) h3
    have z : lexT (keyOf L (.ref q.1)) (keyOf L (.ref p.1)) = false := z
    rw [hk p hp, hk q hq] at z
    exact z
  have h4 : L2.Pairwise fun p q => p.2 ≠ q.2 := List.pairwise_map.mp nd
  rw [List.pairwise_map]
  refine (List.pairwise_and_iff.mpr ⟨h1, h4⟩).imp fun {p q} z => ?_
  cases e : lexT p.2 q.2 with
  | true => rfl
  | false => exact absurd (lexT_total e z.1) z.2
section
variable {P : Program} {w : World} {A : Around} {E : Value → Shared → Prop} {s : Shared}
/-- sorted(S) of a set of tuples of texts -/
theorem sorted_set {a : Addr} {L : List (Addr × List Str)} {es : Array (Int × Value)} {ep : Nat} {t : SetTable} {Q : Value → Shared → Prop} (R : Tb (TT P w) s.heap a L es ep t) (hne : ∀ p ∈ L, p.2 ≠ []) (hh : A.handled = none)
    (h : ∀ s' p (L2 : List (Addr × List Str)) (c : Nat), (∀ b o, s.heap.get? b = some o → s'.heap.get? b = some o) → s'.gens = s.gens → s'.os = s.os → s.heap.objs.size ≤ p → s'.heap.get? p = some (seqObj "list" (L2.map fun p => Value.ref p.1).toArray c) → L2.Perm L → Asc (L2.map (·.2)) → Q (.ref p) s') :
    wpAny (model P w) A (call (.builtin "sorted") [.ref a]) Q E s := by
  obtain ⟨o, ho, hx, hd⟩ := R.ob
  have sz := size_of_rows R.rows
  have few := R.few
  have hsc : (64 : Nat) < scanBound := by decide
  have hli : (64 : Nat) ≤ sizeLine := by decide
  refine Calls.call_function_entry kind_sorted plain_sorted entry_sorted (args_sorted1 _) ?_; unfold Builtin.«sorted»; refine wpAny_bind (m := checkCount "sorted" 1 1 _) (wpAny_pure ?_)
  refine wpAny_bind (collect_set (A := A.in1) hh ⟨o, ho, hx.1, hd⟩ R.fit (by omega) R.tab.ris R.led fun s1 vs k1 sz1 gg oo pm => ?_)
  have pm2 : vs.Perm (L.map fun p => Value.ref p.1) := by
    rw [R.rows] at pm
    unfold rws at pm
    rw [List.map_map] at pm
    exact pm
  have lv : vs.length = L.length := by rw [pm2.length_eq, List.length_map]
  have el1 : ∀ p ∈ L, IsTT P w s1.heap p.2 p.1 := fun p hp => (TT P w).keep (R.el p hp) fun o e => k1 _ o e
  have kat : ∀ p ∈ L, keyOf L (.ref p.1) = p.2 := fun p hp => keyOf_at el1 hp
  refine wpAny_bind (wpAny_newList ?_ (by omega))
  have atL : (s1.heap.push (seqObj "list" vs.toArray 0)).get? s1.heap.objs.size = some (seqObj "list" vs.toArray 0) := Heap.get?_push_size _ rfl
  refine wpAny_bind (wpAny_holding (wpAny_call_entry slot_list_sort ⟨_, atL, rfl⟩ entry_list_sort (SrtO.list_sort_ord (ltv := fun v u => lexT (keyOf L v) (keyOf L u)) (lexT_swo _) atL (by omega) (fun h2 => ?_) fun out hs hb => ⟨_, rfl, ?_⟩) (args_list_sort _)))
  · refine tup_sortable (by omega) (fun v hv => ?_) fun o2 e c => ?_
    · obtain ⟨p, hp, rfl⟩ := List.mem_map.mp (pm2.mem_iff.mp hv)
      rw [kat p hp]
      exact ⟨(tt_tupS (el1 p hp)).keeps fun b o e _ => Heap.get?_push_of_some _ e, hne p hp⟩
    · have e' : some o2 = some (seqObj "list" vs.toArray 0) := e.symm.trans atL
      cases e'
      exact absurd (Value.type.inj c) (by decide)
  · obtain ⟨L2, p1, e1, e2⟩ := sorted_back kat (hb.perm.trans pm2)
    obtain ⟨c, hc⟩ := sortedHeap_at (vs := vs) (out := out.toArray) atL
    rw [e1] at hc
    refine wpAny_pure ⟨_, rfl, h _ s1.heap.objs.size L2 c (fun b u e => ?_) gg oo sz1 (by rw [← e1]; rw [e1]; exact hc) p1 (asc_of e1 e2 hs ((p1.map (·.2)).nodup_iff.mpr R.nd))⟩
    have q := k1 b u e
    have lt := Heap.lt_size q
    show (sortedHeap (s1.heap.push (seqObj "list" vs.toArray 0)) s1.heap.objs.size vs out.toArray).get? b = some u
    rw [sortedHeap_old (Nat.ne_of_lt lt) (by rw [size_push']; exact Nat.lt_succ_of_lt lt)]
    exact Heap.get?_push_of_some _ q
end
end RS

namespace RS
open PySem PySem.Spec PyProof.Rows L2
section
variable {X : Cx}
theorem isTT_sq {pins : List (Addr × Obj)} {σ : L2.St} {H : Hp} {s : Shared} (I : Inv X pins σ H s) {b : Addr} {k : List Str} (h : SqT X.K H b (k.map V.str)) : IsTT X.prog X.w s.heap k b := by
  obtain ⟨its, r, pl, hz⟩ := I.tuple h
  obtain ⟨o, ho, hc, n, hd⟩ := pl
  exact ⟨o, its.toArray, n, ho, hc, hd, strs_items (by simpa using strsAre_of r)⟩
/-- x is a list or a tuple of these tuples of texts -/
structure Tups (K : PySem.W.Frag) (H : Hp) (x : V) (ks : List (Addr × List Str)) : Prop where
  at_ : ∃ l, x = .ref l ∧ (SqL K H l ((ks.map (·.1)).map V.ref) ∨ SqT K H l ((ks.map (·.1)).map V.ref))
  el : ∀ p ∈ ks, SqT K H p.1 (p.2.map V.str)
def tLenTT (K : PySem.W.Frag) (ta : TE) : TE := fun σ H Q => ta σ H fun x H1 => ∃ ks : List (Addr × List Str), Tups K H1 x ks ∧ ks.length < 64 ∧ ∀ L : List (Addr × List Str), (L.map (·.2)).Nodup → Gt ks ks.length L → Q (.int L.length) H1
theorem set_in {pins : List (Addr × Obj)} {σ : L2.St} {H1 : Hp} {s1 : Shared} (I1 : Inv X pins σ H1 s1) (hc : X.calm = true) (hu : X.A.units + 8 < cLine) {x : V} {v : Value} (rx : RelV x v) {ks : List (Addr × List Str)} (T : Tups X.K H1 x ks) (hn : ks.length < 64) {Q : Value → Shared → Prop}
    (h : ∀ (h' : Heap) (tk : Nat) L es ep t, Tb (TT X.prog X.w) h' s1.heap.objs.size L es ep t → Gt ks ks.length L → (∀ b o, s1.heap.get? b = some o → h'.get? b = some o) → Q (.ref s1.heap.objs.size) { s1 with heap := h', toks := tk }) : wpAny (model X.prog X.w) X.A (call (.type "set") [v]) Q X.xe s1 := by
  obtain ⟨l, rfl, hq⟩ := T.at_
  cases rx
  have hk : ∀ p ∈ ks, (TT X.prog X.w).is s1.heap p.2 p.1 := fun p hp => isTT_sq I1 (T.el p hp)
  have ei : ∀ {its : List Value}, Vals ((ks.map (·.1)).map V.ref) its → its = ks.map fun p => Value.ref p.1 := fun r => by
    rw [refs_at r, List.map_map]; rfl
  rcases hq with hq | hq
  · obtain ⟨its, r, pl, hz⟩ := I1.list hq
    exact set_of (I1.ok.hd hc) hu (.inl pl.isList) (by simpa using ei r) hk hn h
  · obtain ⟨its, r, pl, hz⟩ := I1.tuple hq
    exact set_of (I1.ok.hd hc) hu (.inr pl) (by simpa using ei r) hk hn h
theorem pe_lenTT {a : Expr} {ta : TE} {p p2 q pos : Pos} (hc : X.calm = true) (hu : X.A.units + 8 < cLine) (hm : X.mg "len" = none) (hm2 : X.mg "set" = none) (ha : PE X a ta) (hg : Gl X "len" := by rfl) (hg2 : Gl X "set" := by rfl)
    (na : starEach [a] X.env = (false, eval a X.env) :: starEach [] X.env := by rfl) : PE X (.Call (.Name "len" p) [.Call (.Name "set" p2) [a] [] q] [] pos) (tLenTT X.K ta) := by
  refine ⟨fun pins s σ H Q I h => Call_ (ld_blt I hg hm boot_len (PyProof.Rows.callWith_builtin1 (PyProof.Rows.args_cons (Call_ (ld_blt I hg2 hm2 boot_set ?_)) rfl) rfl rfl))⟩
  refine PyProof.Rows.callWith_type1 (PyProof.Rows.args_cons (thn (ha.run pins s σ H _ I h) fun v s1 ⟨x, H1, I1, r1, q1⟩ => PyProof.Rows.args_nil ?_) na) na rfl
  obtain ⟨ks, T, hn, q1⟩ := q1
  refine set_in I1 hc hu r1 T hn fun h' tk L es ep t R g k => PyProof.Rows.args_nil ?_
  obtain ⟨o, ho, hx, hd⟩ := R.ob
  have sz := size_of_rows R.rows
  have few := R.few
  refine call_len_set ho hx hd (Tb.fit (s := { s1 with heap := h', toks := tk }) R) (by omega) ⟨.int L.length, H1, (I1.kept k).tok _, ⟨_, by rw [← sz]⟩, q1 L R.nd g⟩
theorem sorted_at {pins : List (Addr × Obj)} {σ : L2.St} {H : Hp} {s : Shared} {Q : VK} {L : List (Addr × List Str)} {es : Array (Int × Value)} {ep : Nat} {t : SetTable} {a : Addr} (J : Inv X pins σ H s) (hc : X.calm = true) (R : Tb (TT X.prog X.w) s.heap a L es ep t) (hne : ∀ p ∈ L, p.2 ≠ [])
    (q : ∀ (L2 : List (Addr × List Str)) (p : Addr), L2.Perm L → Asc (L2.map (·.2)) → H p = none → Q (.ref p) (upd H p (.lst ((L2.map (·.1)).map V.ref)))) : wpAny (model X.prog X.w) X.A (call (.builtin "sorted") [.ref a]) (EP X pins σ Q) X.xe s := by
  refine sorted_set R hne (J.ok.hd hc) fun s2 p L2 c k2 gg oo hp hob pm hasc => ?_
  have hli : (64 : Nat) ≤ sizeLine := by decide
  have few := R.few
  have hlen : ((L2.map (·.1)).map V.ref).length ≤ sizeLine := by rw [List.length_map, List.length_map, pm.length_eq]; omega
  have fr : H p = none := J.hok.fresh hp
  have hv : Vals ((L2.map (·.1)).map V.ref) (L2.map fun p => Value.ref p.1) := by
    clear q hob pm hasc hlen
    induction L2 with
    | nil => exact .nil
    | cons p l ih => exact .cons rfl ih
  have J2 : Inv X pins σ (upd H p (.lst ((L2.map (·.1)).map V.ref))) { s with heap := s2.heap, gens := s2.gens, drawn := s2.drawn, toks := s2.toks } :=
    J.call (ch := []) (Un.laid k2 hp fr) (J.hok.laid k2 hp ⟨hlen, L2.map fun p => Value.ref p.1, c, hv, hob⟩) (by rw [gg]; exact J.bare) (fun _ z => nomatch z)
  have e : s2 = { s with heap := s2.heap, gens := s2.gens, drawn := s2.drawn, toks := s2.toks } := by
    cases s2; cases s; cases oo; rfl
  rw [e]
  exact ⟨.ref p, _, J2, rfl, q L2 p pm hasc fr⟩
/-- sorted(set(xs)) -/
def tSortTT (K : PySem.W.Frag) (ta : TE) : TE := fun σ H Q => ta σ H fun x H1 => ∃ ks : List (Addr × List Str), Tups K H1 x ks ∧ ks.length < 64 ∧ (∀ p ∈ ks, p.2 ≠ []) ∧
  ∀ (L : List (Addr × List Str)) (p : Addr), (∀ q ∈ L, q ∈ ks) → (∀ q ∈ ks, q.2 ∈ L.map (·.2)) → Asc (L.map (·.2)) → H1 p = none → Q (.ref p) (upd H1 p (.lst ((L.map (·.1)).map V.ref)))
theorem pe_sortTT {a : Expr} {ta : TE} {p p2 q pos : Pos} (hc : X.calm = true) (hu : X.A.units + 8 < cLine) (hm : X.mg "sorted" = none) (hm2 : X.mg "set" = none) (ha : PE X a ta) (hg : Gl X "sorted" := by rfl) (hg2 : Gl X "set" := by rfl)
    (na : starEach [a] X.env = (false, eval a X.env) :: starEach [] X.env := by rfl) : PE X (.Call (.Name "sorted" p) [.Call (.Name "set" p2) [a] [] q] [] pos) (tSortTT X.K ta) := by
  refine ⟨fun pins s σ H Q I h => Call_ (ld_blt I hg hm (show bootBuiltins "sorted" = some (.builtin "sorted") by decide +kernel) (PyProof.Rows.callWith_builtin1 (PyProof.Rows.args_cons (Call_ (ld_blt I hg2 hm2 boot_set ?_)) rfl) rfl rfl))⟩
  refine PyProof.Rows.callWith_type1 (PyProof.Rows.args_cons (thn (ha.run pins s σ H _ I h) fun v s1 ⟨x, H1, I1, r1, q1⟩ => PyProof.Rows.args_nil ?_) na) na rfl
  obtain ⟨ks, T, hn, hne, q1⟩ := q1
  refine set_in I1 hc hu r1 T hn fun h' tk L es ep t R g k => PyProof.Rows.args_nil ?_
  have g2 : ∀ r ∈ L, r ∈ ks := fun r hr => List.mem_of_mem_take (g.sub r hr)
  refine sorted_at (I1.kept k) hc R (fun r hr => hne r (g2 r hr)) fun L2 p pm hasc hp => q1 L2 p (fun r hr => g2 r (pm.mem_iff.mp hr)) (fun r hr => ?_) hasc hp
  have h1 := g.all r (by rw [List.take_length]; exact hr)
  exact (pm.map (·.2)).mem_iff.mpr h1
/-- sorted(xs) -/
def rSortTT (K : PySem.W.Frag) : List V → Hp → VK → Prop := fun vs H Q => ∃ (l : Addr) (ks : List (Addr × List Str)), vs = [.ref l] ∧ SqL K H l ((ks.map (·.1)).map V.ref) ∧ (∀ p ∈ ks, SqT K H p.1 (p.2.map V.str)) ∧ (∀ p ∈ ks, p.2 ≠ []) ∧
  ∀ (L : List (Addr × List Str)) (p : Addr), L.Perm ks → (L.map (·.2)).Pairwise (fun a b => lexT b a = false) → H p = none → Q (.ref p) (upd H p (.lst ((L.map (·.1)).map V.ref)))
theorem keyOf_sq {pins : List (Addr × Obj)} {σ : L2.St} {H : Hp} {s : Shared} (I : Inv X pins σ H s) {ks : List (Addr × List Str)} (el : ∀ p ∈ ks, SqT X.K H p.1 (p.2.map V.str)) {p : Addr × List Str} (hp : p ∈ ks) : keyOf ks (.ref p.1) = p.2 :=
  keyOf_at (P := X.prog) (w := X.w) (h := s.heap) (fun q hq => isTT_sq I (el q hq)) hp
theorem cr_sortTT : CallR X (.builtin "sorted") (rSortTT X.K) := by
  intro pins s σ H xs us Q I r h
  obtain ⟨l, ks, rfl, hl, hel, hne, q⟩ := h
  cases r with
  | cons r1 r2 =>
  cases r2
  cases r1
  obtain ⟨its, rv, pl, hz⟩ := I.list hl
  have ei : its = ks.map fun p => Value.ref p.1 := by
    rw [refs_at rv, List.map_map]; rfl
  subst ei
  rw [List.length_map, List.length_map] at hz
  have kat : ∀ p ∈ ks, keyOf ks (.ref p.1) = p.2 := fun p hp => keyOf_sq I hel hp
  refine sorted_tt (k := keyOf ks) pl.isList (by rw [List.length_map]; exact hz) (fun v hv => ?_) fun h' d out hs hp hk hd ⟨n, hn⟩ => ?_
  · obtain ⟨p, hp, rfl⟩ := List.mem_map.mp hv
    rw [kat p hp]
    exact ⟨tt_tupS (isTT_sq I (hel p hp)), hne p hp⟩
  · obtain ⟨L2, pm, e1, e2⟩ := sorted_back kat hp
    have fr : H d = none := I.hok.fresh hd
    have hv : Vals ((L2.map (·.1)).map V.ref) (L2.map fun p => Value.ref p.1) := by
      clear q e1 e2 pm
      induction L2 with
      | nil => exact .nil
      | cons p l ih => exact .cons rfl ih
    have hlen : ((L2.map (·.1)).map V.ref).length ≤ sizeLine := by rw [List.length_map, List.length_map, pm.length_eq]; exact hz
    have ob : ObjOk X.prog X.w (upd H d (.lst ((L2.map (·.1)).map V.ref))) h' d (.lst ((L2.map (·.1)).map V.ref)) := ⟨hlen, L2.map fun p => Value.ref p.1, n, hv, by rw [← e1]; exact hn⟩
    have srt : (L2.map (·.2)).Pairwise fun a b => lexT b a = false := by
      rw [List.pairwise_map]
      have h3 := List.pairwise_map.mp (by rw [e1] at hs; exact hs)
      refine List.Pairwise.imp_of_mem (fun {p q} hp hq z => ?_) h3
      have z : lexT (keyOf ks (.ref q.1)) (keyOf ks (.ref p.1)) = false := z
      rw [e2 p hp, e2 q hq] at z
      exact z
    exact ⟨.ref d, _, I.laid (t' := s.toks) hk hd ob, rfl, q L2 d pm srt fr⟩
end
end RS

/-! t < u of tuples of texts -/
namespace RS
open PySem PySem.Spec PyProof.Rows L2
theorem firstLt_map {e r : Nat → Bool} {fin : Bool} {f : Nat → Nat} : ∀ l : List Nat, SeqAt.firstLt e r fin (l.map f) = SeqAt.firstLt (fun j => e (f j)) (fun j => r (f j)) fin l
  | [] => rfl
  | j :: l => by
    show (if e (f j) = true then SeqAt.firstLt e r fin (l.map f) else r (f j)) = if e (f j) = true then SeqAt.firstLt (fun j => e (f j)) (fun j => r (f j)) fin l else r (f j)
    rw [firstLt_map l]
theorem firstLt_lex : ∀ xs ys : List Str, SeqAt.firstLt (fun j => xs.getD j "" == ys.getD j "") (fun j => ltS (xs.getD j "") (ys.getD j "")) (decide (xs.length < ys.length)) (List.range (min xs.length ys.length)) = lexT xs ys
  | [], [] => rfl
  | [], y :: ys => by
    rw [List.length_nil, Nat.zero_min]
    exact decide_eq_true (Nat.succ_pos _)
  | x :: xs, [] => by
    rw [List.length_nil, Nat.min_zero]
    exact decide_eq_false (Nat.not_lt_zero _)
  | x :: xs, y :: ys => by
    rw [List.length_cons, List.length_cons, Nat.succ_min_succ, List.range_succ_eq_map]
    show (if (x == y) = true then SeqAt.firstLt (fun j => (x :: xs).getD j "" == (y :: ys).getD j "") (fun j => ltS ((x :: xs).getD j "") ((y :: ys).getD j "")) (decide (xs.length + 1 < ys.length + 1)) ((List.range (min xs.length ys.length)).map Nat.succ) else ltS x y) = if x = y then lexT xs ys else ltS x y
    rw [firstLt_map, show decide (xs.length + 1 < ys.length + 1) = decide (xs.length < ys.length) from decide_eq_decide.mpr (by omega)]
    have ih := firstLt_lex xs ys
    by_cases h : x = y
    · rw [if_pos (by simp [h]), if_pos h]
      exact ih
    · rw [if_neg (by simp [h]), if_neg h]
section
variable {prog : Program} {w : World} {A : Around} {E : Value → Shared → Prop} {s : Shared}
theorem strs_getD {us : List Value} {xs : List Str} (h : StrsAre us xs) : ∀ (j : Nat) (hj : j < us.length), ∃ t, us[j] = .str (xs.getD j "") t := by
  induction h with
  | nil => exact fun j hj => absurd hj (Nat.not_lt_zero _)
  | cons x t _ ih =>
    intro j hj
    cases j with
    | zero => exact ⟨t, rfl⟩
    | succ n => exact ih n (Nat.lt_of_succ_lt_succ hj)
theorem lt_tt {l b : Addr} {items items2 : Array Value} {xs ys : List Str} {Q : Value → Shared → Prop} (hl : IsTup s.heap l items) (hb : IsTup s.heap b items2) (hi : StrsAre items.toList xs) (hj : StrsAre items2.toList ys)
    (hu : A.units < cLine) (h : Q (.bool (lexT xs ys)) s) : wpAny (model prog w) A (compareOp .Lt (.ref l) (.ref b)) Q E s := by
  obtain ⟨⟨cls, dd, data, sl⟩, ho, hc, n, hd⟩ := id hl
  obtain ⟨⟨cls2, dd2, data2, sl2⟩, ho2, hc2, n2, hd2⟩ := id hb
  simp only at hc hd hc2 hd2
  subst hc hd hc2 hd2
  have z1 : items.size = xs.length := by rw [← Array.length_toList, hi.len_eq]
  have z2 : items2.size = ys.length := by rw [← Array.length_toList, hj.len_eq]
  refine richCompare_meets_room (op := .Lt) ⟨_, ho, rfl⟩ ⟨_, ho2, rfl⟩ PySem.F.slot_tuple_lt PySem.F.entry_tuple_lt (PySem.F.args_tuple_lt_2 _ _)
    (SeqAt.tuple_ltAt l b items items2 n n2 dd dd2 sl sl2 (fun j => xs.getD j "" == ys.getD j "") (fun j => ltS (xs.getD j "") (ys.getD j ""))) ⟨ho, ho2, fun j h1 h2 => ?_, fun j h1 h2 _ => ?_, ?_⟩ hu
  · obtain ⟨t, e1⟩ := strs_getD hi j (by simpa using h1)
    obtain ⟨u, e2⟩ := strs_getD hj j (by simpa using h2)
    rw [Array.getElem_toList] at e1 e2
    rw [e1, e2]
    exact SeqAt.EqAt.str_str _ _ _ _
  · obtain ⟨t, e1⟩ := strs_getD hi j (by simpa using h1)
    obtain ⟨u, e2⟩ := strs_getD hj j (by simpa using h2)
    rw [Array.getElem_toList] at e1 e2
    rw [e1, e2]
    intro prog w E Q q
    exact lt_str q
  · rw [z1, z2, firstLt_lex]
    exact ⟨(fun x => nomatch x), h⟩
end
def rLtTT (K : PySem.W.Frag) : R2 := fun x y H Q => ∃ (a b : Addr) (ns ms : List Str), x = .ref a ∧ y = .ref b ∧ SqT K H a (ns.map V.str) ∧ SqT K H b (ms.map V.str) ∧ Q (.bl (lexT ns ms)) H
theorem op_ltTT {X : Cx} (hu : X.A.units < cLine) : OpR X (compareOp .Lt) (rLtTT X.K) := by
  intro pins s σ H x y v u Q I rx ry h
  obtain ⟨a, b, ns, ms, rfl, rfl, ha, hb, q⟩ := h
  cases rx
  cases ry
  obtain ⟨its, r1, p1, _⟩ := I.tuple ha
  obtain ⟨its2, r2, p2, _⟩ := I.tuple hb
  exact lt_tt p1 p2 (by simpa using strsAre_of r1) (by simpa using strsAre_of r2) hu ⟨.bl (lexT ns ms), H, I, rfl, q⟩
end RS

namespace K5
open PySem PySem.Spec PyProof.Rows L2
def top (i : Nat) : Stmt := PySem.Challenge.pw_wheelgrown_k05_which_webs_there_are.main.body.getD i (.Pass ⟨0, 0, 0, 0⟩)
abbrev s_is_name : Stmt := top 9
abbrev s_are_names : Stmt := top 10
abbrev s_are_different_names : Stmt := top 11
abbrev s_is_ascending : Stmt := top 12
abbrev s_are_ascending_names : Stmt := top 13
abbrev s_is_tie : Stmt := top 17
abbrev s_tie_of : Stmt := top 18
abbrev s_pairs_of : Stmt := top 19
abbrev s_are_places : Stmt := top 20
abbrev s_are_ties : Stmt := top 21
abbrev s_full_web : Stmt := top 24
abbrev s_ring_web : Stmt := top 25
abbrev s_law_dice : Stmt := top 27
abbrev s_law_roll : Stmt := top 28
abbrev s_law_pick : Stmt := top 29
abbrev s_law_mixed : Stmt := top 30
abbrev s_law_tie : Stmt := top 31
abbrev s_law_plain : Stmt := top 32
abbrev s_law_made : Stmt := top 33
abbrev s_law_pairs : Stmt := top 34
abbrev s_law_beside : Stmt := top 35
abbrev s_law_wheel : Stmt := top 36
abbrev s_law_plain_ring : Stmt := top 37
abbrev s_law_behind : Stmt := top 38
abbrev s_law_names : Stmt := top 39
abbrev s_law_drawn_step : Stmt := top 40
abbrev s_law_grown : Stmt := top 41
abbrev s_law_random : Stmt := top 43
abbrev s_law_any : Stmt := top 44
abbrev s_law_is_made : Stmt := top 45
abbrev s_law_names_of : Stmt := top 46
abbrev s_law_bent : Stmt := top 47
abbrev s_law : Stmt := top 48
/-- a class made with a text -/
structure Pl (K : PySem.W.Frag) (mg : Str → Option Value) (n : Str) (C : Addr) : Prop where
  g : mg n = some (.ref C)
  k : PySem.W.keepIn K (.ref C) = true
  q : PySem.W.excIn K C [.type "ValueError", .type "Exception", .type "BaseException", .type "object"] "ValueError.__new__" = true
  s : PySem.W.subIn K (.ref C) (.type "BaseException") = some true
  t : PySem.W.typeIn K (.ref C) = some (.type "type")
  x : PySem.W.exmOne K (.ref C) (.ref C) = some true
/-- what the top leaves beside the defs -/
structure Txt (K : PySem.W.Frag) (mg : Str → Option Value) : Prop where
  n_isinstance : mg "isinstance" = none
  n_str : mg "str" = none
  n_len : mg "len" = none
  n_all : mg "all" = none
  n_tuple : mg "tuple" = none
  n_set : mg "set" = none
  n_dict : mg "dict" = none
  n_int : mg "int" = none
  n_abs : mg "abs" = none
  n_max : mg "max" = none
  n_min : mg "min" = none
  n_range : mg "range" = none
  n_list : mg "list" = none
  n_sorted : mg "sorted" = none
  n_zip : mg "zip" = none
  n_enumerate : mg "enumerate" = none
  c_MAX_LETTERS : ∃ t, mg "MAX_LETTERS" = some (.int 8 t)
  c_MAX_PLACES : ∃ t, mg "MAX_PLACES" = some (.int 16 t)
  c_MAX_TIES : ∃ t, mg "MAX_TIES" = some (.int 60 t)
local macro_rules | `(tactic| walk_at "r1") => `(tactic| first | refine ⟨_, rfl, ?_⟩ | refine ⟨_, _, rfl, rfl, ?_⟩ | refine ⟨_, _, rfl, ?_⟩ | refine .inl ⟨_, rfl, ?_⟩ | refine .inr ⟨_, rfl, ?_⟩ | refine ⟨⟨_, rfl⟩, ?_⟩)
local macro_rules | `(tactic| walk_at "rr") => `(tactic| repeat walk_at "r1")
/-! ## Rules and contracts that serve every law with drawn numbers -/
theorem ifT {c : Bool} {A B : Prop} (hc : c = true) (h : A) : if c = true then A else B := by
  rw [if_pos hc]
  exact h
theorem ifF {c : Bool} {A B : Prop} (hc : c = false) (h : B) : if c = true then A else B := by
  rw [hc, if_neg Bool.false_ne_true]
  exact h
/-- a def of the top, as its callers see it -/
def Dfn (P : Program) (w : World) (K : PySem.W.Frag) (mg : Str → Option Value) (base : Heap) (x : Str) (k : Nat) (ps : List Str) (sp : Sp) : Prop :=
  ∃ (f : Addr) (fd : FuncData), mg x = some (.ref f) ∧ PySem.W.keepIn K (.ref f) = true ∧ Binds K fd ps [] ∧ FnOk P w K mg base CX0 k f fd ps sp
theorem Dfn.mk {P : Program} {w : World} {K : PySem.W.Frag} {mg : Str → Option Value} {base : Heap} {x : Str} {k : Nat} {ps : List Str} {sp : Sp} {f : Addr} {fd : FuncData} (m : mg x = some (.ref f)) (kp : PySem.W.keepIn K (.ref f) = true) (b : Binds K fd ps [])
    (h : FnOk P w K mg base CX0 k f fd ps sp) : Dfn P w K mg base x k ps sp := ⟨f, fd, m, kp, b, h⟩
/-- a call of a def of the top -/
theorem pe_d {X : Cx} {x : Str} {k : Nat} {ps : List Str} {sp : Sp} {e : Expr} {es : List Expr} {t : TA} {p pos : Pos} (D : Dfn X.prog X.w X.K X.mg X.base x k ps sp) (hr : Room k X.A) (ha : PA X (e :: es) t) (hg : Gl X x := by rfl)
    (hdb : (x == ("__debug__" : Str)) = false := by decide) (he : starEach (e :: es) X.env = (false, eval e X.env) :: starEach es X.env := by rfl) (hpl : (backTo pos (starEach es X.env)).any (·.1) = false := by rfl) :
    PE X (.Call (.Name x p) (e :: es) [] pos) (tCall sp [] E0 t) := by
  obtain ⟨f, fd, m, kp, b, h⟩ := D
  exact pe_call h hr hg m kp b .nil pass0 ha hdb he hpl
/-- a text times a written number -/
def repS (z : Str) (n : Nat) : Str := ⟨(List.replicate n z.cps).foldl (· ++ ·) #[]⟩
theorem repS_fold (z : Array Nat) : ∀ (n : Nat) (acc : Array Nat), ((List.replicate n z).foldl (· ++ ·) acc).toList = acc.toList ++ (List.replicate n z.toList).flatten
  | 0, acc => by simp
  | n + 1, acc => by
    rw [List.replicate_succ, List.foldl_cons, repS_fold z n, List.replicate_succ, List.flatten_cons, Array.toList_append, List.append_assoc]
theorem repS_list (z : Str) (n : Nat) : (repS z n).cps.toList = (List.replicate n z.cps.toList).flatten := by
  have := repS_fold z.cps n #[]
  show ((List.replicate n z.cps).foldl (· ++ ·) #[]).toList = _
  simpa using this
theorem repS_len (z : Str) (n : Nat) : (repS z n).length = n * z.length := by
  show (repS z n).cps.size = n * z.cps.size
  rw [← Array.length_toList, repS_list]
  simp
theorem op_mulS {X : Cx} : OpR X (binaryOp .Mult) (fun x y H Q => ∃ (z : Str) (n : Nat), x = .str z ∧ y = .int (n : Int) ∧ 2 ≤ n ∧ n < 1000 ∧ 0 < z.length ∧ z.length ≤ 1000 ∧ Q (.str (repS z n)) H) := by
  intro pins s σ H x y v u Q I rx ry h
  obtain ⟨z, n, rfl, rfl, h1, h2, h3, h4, q⟩ := h
  obtain ⟨t, rfl⟩ := rx
  obtain ⟨t', rfl⟩ := ry
  have hn : ¬ (n : Int) < 1 := by omega
  have h5 : ((n : Int) == 1 || z.length == 0) = false := by
    rw [Bool.or_eq_false_iff]
    exact ⟨beq_eq_false_iff_ne.mpr (by omega), beq_eq_false_iff_ne.mpr (by omega)⟩
  refine PySem.P.mul_str ?_ (fun _ _ => ?_) (fun _ _ => ?_) ?_
  · rw [decide_eq_false (show ¬ (n : Int) < -(2 ^ 63 : Int) by omega), decide_eq_false (show ¬ (n : Int) ≥ 2 ^ 63 by omega)]
    rfl
  · have : (1000 : Int) ≤ (2 ^ 63 - 1) / (n : Int) := by
      rw [Int.le_ediv_iff_mul_le (by omega)]
      omega
    omega
  · have h6 : z.length * n ≤ 1000 * 1000 := Nat.mul_le_mul h4 (by omega)
    show PySem.Builtin.Str.tooLong (z.length * (n : Int).toNat) = false
    rw [Int.toNat_natCast]
    unfold PySem.Builtin.Str.tooLong
    refine decide_eq_false ?_
    have : (1000 * 1000 : Nat) ≤ sizeLine := by decide
    omega
  · rw [if_neg hn, if_neg (by rw [h5]; exact Bool.false_ne_true), Int.toNat_natCast]
    refine ⟨?_, ⟨.str _, H, I.tok _, ⟨_, rfl⟩, q⟩⟩
    have h6 : z.length * n ≤ 1000 * 1000 := Nat.mul_le_mul h4 (by omega)
    have h7 : (repS z n).length = n * z.length := repS_len z n
    have : (1000 * 1000 : Nat) ≤ sizeLine := by decide
    show (repS z n).length ≤ sizeLine
    rw [h7, Nat.mul_comm]
    omega

theorem same_new' {H : Hp} {p : Addr} {o : HO} (h : H p = none) : Same H (upd H p o) := fun b u e => by
  rw [upd_ne (ne_of_none e h)]
  exact e
/-- t + u, t empty: u itself -/
theorem op_catT0 {X : Cx} : OpR X (binaryOp .Add) (fun x y H Q => ∃ a b ys, x = .ref a ∧ y = .ref b ∧ SqT X.K H a [] ∧ SqT X.K H b ys ∧ Q (.ref b) H) := by
  intro pins s σ H x y v u Q I rx ry h
  obtain ⟨a, b, ys, rfl, rfl, ha, hb, q⟩ := h
  cases rx
  cases ry
  obtain ⟨its, r1, p1, _⟩ := I.tuple ha
  obtain ⟨its2, r2, p2, _⟩ := I.tuple hb
  cases r1
  obtain ⟨⟨cls, dd, data, sl⟩, ho, hc, n, hd⟩ := id p1
  obtain ⟨⟨cls2, dd2, data2, sl2⟩, ho2, hc2, n2, hd2⟩ := id p2
  simp only at hc hd hc2 hd2
  subst hc hd hc2 hd2
  exact concat_meets ⟨_, ho, rfl⟩ ⟨_, ho2, rfl⟩ noFill_tuple_add seq_tuple_add PySem.F.slot_tuple_add PySem.F.entry_tuple_add (PySem.F.args_tuple_add_2 _ _)
      (tuple_addW0 a b _ its2.toArray n n2 dd dd2 sl sl2 (by simp)) ⟨ho, ho2, ⟨.ref b, H, I, rfl, q⟩⟩
/-- t + u of tuples, u not empty: a tuple of both -/
theorem op_catTT {X : Cx} : OpR X (binaryOp .Add) (fun x y H Q => ∃ a b xs ys, x = .ref a ∧ y = .ref b ∧ H a = some (.tup xs) ∧ H b = some (.tup ys) ∧ ys ≠ [] ∧ xs.length + ys.length ≤ sizeLine ∧
    ∀ q H', Same H H' → H' q = some (.tup (xs ++ ys)) → Q (.ref q) H') := by
  intro pins s σ H x y v u Q I rx ry h
  obtain ⟨a, b, xs, ys, rfl, rfl, ha, hb, hy, hz, q⟩ := h
  by_cases hx : xs = []
  · subst hx
    exact op_catT0 pins s σ H _ _ v u Q I rx ry ⟨a, b, ys, rfl, rfl, SqT.of ha, SqT.of hb, q b H (Same.refl _) hb⟩
  · exact op_catT pins s σ H _ _ v u Q I rx ry ⟨a, b, xs, ys, rfl, rfl, SqT.of ha, SqT.of hb, hx, hz, fun e => absurd e hy, fun _ p hp => q p _ (same_new' hp) upd_same⟩
/-- a comprehension over a text -/
theorem lc_str {x : Str} {g : TG} {tt : TT} {te : TE} {vs : List Nat} {σ : L2.St} {H1 : Hp} {D : Addr} {Qd : Hp → Prop} (Pv : Nat → Hp → Prop) (h0 : Pv 0 (upd H1 D (.lst [])))
    (hs : ∀ i c H, x.cps.toList[i]? = some c → Pv i H → g (.str ⟨#[c]⟩) (wipe σ vs) H fun σ2 H2 => wipe σ2 vs = wipe σ vs ∧ tt σ2 H2 fun b H3 =>
      if b = true then te σ2 H3 fun y H4 => ∃ acc, H4 D = some (.lst acc) ∧ acc.length < sizeLine ∧ Pv (i + 1) (upd H4 D (.lst (acc ++ [y]))) else Pv (i + 1) H3) (hd : ∀ H, Pv x.cps.toList.length H → Qd H) :
    ∃ W : Nat → Nat → Hp → Prop, (∃ m, W 0 m (upd H1 D (.lst []))) ∧ ∀ i m H, W i m H →
      ((Its x).stop i H ∧ Qd H) ∨ ((Its x).go i H ∧ ∃ Nx : Hp → Prop, (∀ H', Nx H' → ∃ m', m' < m ∧ W (i + 1) m' H') ∧ ∀ y H', (Its x).yld i H y H' → g y (wipe σ vs) H' fun σ2 H2 => wipe σ2 vs = wipe σ vs ∧ tt σ2 H2 fun b H3 =>
        if b = true then te σ2 H3 fun y H4 => ∃ acc, H4 D = some (.lst acc) ∧ acc.length < sizeLine ∧ Nx (upd H4 D (.lst (acc ++ [y]))) else Nx H3) := by
  have el : x.cps.toList.length = x.cps.size := Array.length_toList
  refine ⟨fun i m H => m = x.cps.size - i ∧ i ≤ x.cps.size ∧ Pv i H, ⟨x.cps.size, by simp, Nat.zero_le _, h0⟩, ?_⟩
  rintro i m H ⟨rfl, hi, p⟩
  by_cases hlt : i < x.cps.size
  · refine .inr ⟨hlt, Pv (i + 1), fun H' p' => ⟨x.cps.size - (i + 1), by omega, rfl, hlt, p'⟩, fun v H' y => ?_⟩
    obtain ⟨e, c, hc, rfl⟩ := y
    subst e
    exact hs i c _ (by rw [← hc]; simp) p
  · have e : i = x.cps.size := by omega
    subst e
    exact .inl ⟨Nat.le_refl _, hd H (by rw [el]; exact p)⟩
/-! ### the dice -/
def Dice (H : Hp) (d : Addr) : Prop := ∃ a b c : Int, H d = some (.lst [.int a, .int b, .int c])
/-- from H to H': the dice at d may have been rolled; all else that was tracked stands -/
structure Go (d : Addr) (H H' : Hp) : Prop where
  keep : ∀ b o, b ≠ d → H b = some o → H' b = some o
  dice : Dice H' d
theorem Go.refl {d : Addr} {H : Hp} (h : Dice H d) : Go d H H := ⟨fun _ _ _ h => h, h⟩
theorem Go.trans {d : Addr} {H H1 H2 : Hp} (a : Go d H H1) (b : Go d H1 H2) : Go d H H2 := ⟨fun c o n h => b.keep c o n (a.keep c o n h), b.dice⟩
theorem Go.same {d : Addr} {H H1 H2 : Hp} (a : Go d H H1) (b : Same H1 H2) : Go d H H2 := ⟨fun c o n h => b c o (a.keep c o n h), by
  obtain ⟨x, y, z, e⟩ := a.dice
  exact ⟨x, y, z, b _ _ e⟩⟩
theorem same_new {H : Hp} {p : Addr} {o : HO} (h : H p = none) : Same H (upd H p o) := fun b u e => by
  rw [upd_ne (ne_of_none e h)]
  exact e
theorem Go.new {d p : Addr} {H H1 : Hp} {o : HO} (a : Go d H H1) (h : H1 p = none) : Go d H (upd H1 p o) := a.same (same_new h)
theorem Go.roll {d : Addr} {H H1 : Hp} (a : Go d H H1) (x y z : Int) : Go d H (upd H1 d (.lst [.int x, .int y, .int z])) :=
  ⟨fun b o n h => by rw [upd_ne n]; exact a.keep b o n h, x, y, z, upd_same⟩
theorem Go.at_ne {d p : Addr} {H H1 : Hp} (a : Go d H H1) (h : H1 p = none) : p ≠ d := fun e => by
  obtain ⟨x, y, z, e'⟩ := a.dice
  rw [← e, h] at e'
  cases e'
theorem Go.free {d p : Addr} {H H1 : Hp} (a : Go d H H1) (h : H1 p = none) : H p = none := by
  cases e : H p with
  | none => rfl
  | some o => rw [a.keep p o (a.at_ne h) e] at h; cases h
theorem d0 (a b c : V) : atI [a, b, c] 0 = some a := rfl
theorem d1 (a b c : V) : atI [a, b, c] 1 = some b := rfl
theorem d2 (a b c : V) : atI [a, b, c] 2 = some c := rfl
structure spDice (K : PySem.W.Frag) (vs : List V) (H : Hp) (Q : VK) (E : XK) : Prop where
  h : ∃ (s : Addr) (ns : List Int) (i : Nat), SqL K H s (ns.map V.int) ∧ vs = [.ref s, .int i] ∧ ∀ (p : Addr) (a b c : Int), H p = none → Q (.ref p) (upd H p (.lst [.int a, .int b, .int c]))
structure spRoll (vs : List V) (H : Hp) (Q : VK) (E : XK) : Prop where
  h : ∃ (d : Addr) (n : Int), Dice H d ∧ vs = [.ref d, .int n] ∧ CDivW 0 n ∧ ∀ (k : Int) (a b c : Int), 0 ≤ k → k < n → Q (.int k) (upd H d (.lst [.int a, .int b, .int c]))
structure spPick (vs : List V) (H : Hp) (Q : VK) (E : XK) : Prop where
  h : ∃ (d : Addr) (x : V), Dice H d ∧ vs = [.ref d, x] ∧
  ((∃ (l : Addr) (xs : List V), x = .ref l ∧ H l = some (.lst xs) ∧ xs ≠ [] ∧ xs.length ≤ 1000 ∧ l ≠ d ∧ ∀ (y : V) (a b c : Int), y ∈ xs → Q y (upd H d (.lst [.int a, .int b, .int c]))) ∨
   (∃ z : Str, x = .str z ∧ 0 < z.length ∧ z.length ≤ 1000 ∧ ∀ (y : Nat) (a b c : Int), Q (.str ⟨#[y]⟩) (upd H d (.lst [.int a, .int b, .int c]))))
theorem cdiv_small {n : Int} (h0 : 0 < n) (h : n < 2 ^ 64) : CDivW 0 n := wide_div (b := 64) h0 (by omega) (by decide) (by decide)
theorem fm_lo (m : Int) {k : Int} (hk : 0 < k) : 0 ≤ m.fmod k := by
  rw [Int.fmod_eq_emod_of_nonneg _ (by omega)]
  exact Int.emod_nonneg _ (by omega)
theorem fm_hi (m : Int) {k : Int} (hk : 0 < k) : m.fmod k < k := by
  rw [Int.fmod_eq_emod_of_nonneg _ (by omega)]
  exact Int.emod_lt_of_pos _ hk
theorem fm_mul (m : Int) {k : Int} (j : Int) (hk : 0 < k) (h : k ≤ 2 ^ 64) : CMul (m.fmod k) j := .inl ⟨by have := fm_lo m hk; omega, by have := fm_hi m hk; omega⟩
theorem ten120 : (10 : Int) ^ Int.toNat 60 * 10 ^ Int.toNat 60 ≠ 0 := by decide +kernel
theorem size3 : (3 : Nat) ≤ sizeLine := by decide
theorem q_bl {Q : VK} {H : Hp} {a b : Bool} (e : a = b) (k : Q (.bl b) H) : Q (.bl a) H := by
  rw [e]
  exact k
theorem take_more {α : Type} : ∀ {l : List α} {i : Nat} {x : α}, l[i]? = some x → l.take (i + 1) = l.take i ++ [x]
  | [], i, x, h => by simp at h
  | a :: l, 0, x, h => by
    have e : a = x := Option.some.inj h
    subst e
    rfl
  | a :: l, i + 1, x, h => by
    have ih := take_more (l := l) (i := i) (x := x) h
    show a :: l.take (i + 1) = a :: l.take i ++ [x]
    rw [ih]
    rfl
theorem same_own {H H' : Hp} {D : Addr} {o : HO} (h : Same H H') (hD : H D = none) : Same H (upd H' D o) := fun b u e => by
  rw [upd_ne (ne_of_none e hD)]
  exact h b u e
theorem line1000 : (1000 : Nat) < sizeLine := by decide
theorem roll_go {d : Addr} {H : Hp} {n : Int} {Q : VK} {E : XK} (hd : Dice H d) (h0 : 0 < n) (h1 : n < 2 ^ 64) (k : ∀ (j : Int) (H' : Hp), 0 ≤ j → j < n → Go d H H' → Q (.int j) H') : spRoll [.ref d, .int n] H Q E :=
  ⟨d, n, hd, rfl, cdiv_small h0 h1, fun j a b c g0 g1 => k j _ g0 g1 ((Go.refl hd).roll a b c)⟩
theorem pick_at {d l : Addr} {H : Hp} {xs : List V} {Q : VK} {E : XK} (hd : Dice H d) (hl : H l = some (.lst xs)) (hld : l ≠ d) (hne : xs ≠ []) (hn : xs.length ≤ 1000) (k : ∀ (y : V) (H' : Hp), y ∈ xs → Go d H H' → Q y H') : spPick [.ref d, .ref l] H Q E :=
  ⟨d, _, hd, rfl, .inl ⟨l, xs, rfl, hl, hne, hn, hld, fun y a b c hy => k y _ hy ((Go.refl hd).roll a b c)⟩⟩
theorem pick_new {d p : Addr} {H : Hp} {xs : List V} {Q : VK} {E : XK} (hd : Dice H d) (hp : H p = none) (hne : xs ≠ []) (hn : xs.length ≤ 1000) (k : ∀ (y : V) (H' : Hp), y ∈ xs → Go d H H' → Q y H') : spPick [.ref d, .ref p] (upd H p (.lst xs)) Q E :=
  pick_at ((Go.refl hd).new hp).dice upd_same ((Go.refl hd).at_ne hp) hne hn fun y H' hy g => k y H' hy (((Go.refl hd).new hp).trans g)
theorem pick_str {d : Addr} {H : Hp} {z : Str} {Q : VK} {E : XK} (hd : Dice H d) (h0 : 0 < z.length) (hn : z.length ≤ 1000) (k : ∀ (y : Nat) (H' : Hp), Go d H H' → Q (.str ⟨#[y]⟩) H') : spPick [.ref d, .str z] H Q E :=
  ⟨d, _, hd, rfl, .inr ⟨z, rfl, h0, hn, fun y a b c => k y _ ((Go.refl hd).roll a b c)⟩⟩
/-- a store to an object that is newer than H -/
theorem Go.own {d D : Addr} {H H' : Hp} {o : HO} (a : Go d H H') (hD : H D = none) (hDd : D ≠ d) : Go d H (upd H' D o) :=
  ⟨fun b u hb e => by
    rw [upd_ne (ne_of_none e hD)]
    exact a.keep b u hb e, by
    obtain ⟨x, y, z, e⟩ := a.dice
    exact ⟨x, y, z, by rw [upd_ne hDd.symm]; exact e⟩⟩
/-- both ways lead on to the same -/
theorem ite_on {c : Bool} {A B N : Prop} (h1 : c = true → N → A) (h2 : c = false → N → B) (hN : N) : if c = true then A else B := by
  cases hc : c with
  | true => exact iteT (h1 hc hN)
  | false => exact iteF (h2 hc hN)
section
variable {P : Program} {w : World} {K : PySem.W.Frag} {mg : Str → Option Value} {base : Heap}
theorem sc_dice : FnScope ["script", "spot", "cell", "left"] ["script", "spot"] (defScope s_law_dice) := ⟨rfl, rfl, rfl, by decide +kernel, rfl, by decide +kernel, by decide +kernel⟩
theorem ok_law_dice {f : Addr} {fd : FuncData} (F : Fun K "_law_dice" "_law_dice" s_law_dice f fd) (T : Txt K mg) : FnOk P w K mg base CX0 1 f fd ["script", "spot"] (spDice K) := by
  refine F.ok sc_dice (fun vs H Q E h => ?_) (fun cdv A outer s H vs Q E hr h => ?_)
  · obtain ⟨a, ns, i, _, rfl, _⟩ := h
    rfl
  · obtain ⟨a, ns, i, hS, rfl, k⟩ := h
    refine ⟨_, pss_cons (ps_set (i := 2) sc_dice.nd rfl (Or.inl rfl) (pe_ifExp (pt_cmpR op_lt (pv 1) (pe_callB call_len (by rfl) T.n_len (by decide +kernel) (pa_cons (pv 0) pa_nil)) (nomark _))
          (pe_callTy call_int1 (by rfl) T.n_int (by decide +kernel) (pa_cons (pe_ix ix_list (pv 0) (pv 1) (fun _ _ => rfl)) pa_nil))
          (pe_op op_add (pe_op op_mul pe_int (pv 1)) pe_int)))
      (pss_cons (ps_set (i := 3) sc_dice.nd rfl (Or.inl rfl) (pe_op op_modN
          (pe_callB (call_max2 rfl) (by rfl) T.n_max (by decide +kernel) (pa_cons pe_int (pa_cons (pe_op op_sub (pe_callB call_abs (by rfl) T.n_abs (by decide +kernel) (pa_cons (pv 2) pa_nil)) (pe_op op_pow pe_int pe_int)) pa_nil)))
          (pe_op op_mulW (pe_op op_pow pe_int pe_int) (pe_op op_pow pe_int pe_int))))
      (pss_one (ps_ret (pe_lst (pa_cons (pv 3) (pa_cons
          (pe_op op_add (pe_op op_add (pe_op op_add (pe_op op_mul (pe_op op_modN (pe_callB call_abs (by rfl) T.n_abs (by decide +kernel) (pa_cons (pv 2) pa_nil)) pe_int) pe_int) (pe_op op_mul pe_int (pv 1)))
            (pe_op op_mul pe_int (pe_callTy call_int1 (by rfl) T.n_int (by decide +kernel) (pa_cons (pe_cmpR op_lt (pv 2) pe_int (nomark _)) pa_nil)))) pe_int) (pa_cons pe_int pa_nil))))))), ?_⟩
    -- what stands behind the first row, for any cell
    have key : ∀ m : Int, ∃ r : Int, (m.fmod 1152921504606846883) = r ∧ 0 ≤ r ∧ r < 1152921504606846883 := fun m => ⟨_, rfl, by rw [Int.fmod_eq_emod_of_nonneg _ (by decide)]; exact Int.emod_nonneg _ (by decide), by rw [Int.fmod_eq_emod_of_nonneg _ (by decide)]; exact Int.emod_lt_of_pos _ (by decide)⟩
    refine ⟨_, rfl, _, rfl, _, _, rfl, .inl ⟨_, hS, rfl⟩, _, _, rfl, rfl, _, rfl, ?_⟩
    refine ite2 (fun hc => ?x) (fun hc => ?y)
    case' x =>
      have hi : i < ns.length := by
        have h1 : i < (List.map V.int ns).length := by
          have := of_decide_eq_true hc
          omega
        rwa [List.length_map] at h1
      have hx : (ns.map V.int)[i]? = some (.int ns[i]) := by
        rw [List.getElem?_map, List.getElem?_eq_getElem hi]
        rfl
      refine ⟨_, rfl, _, rfl, a, _, _, _, rfl, rfl, hS, atI_nat hx, .inl ⟨_, rfl, ?_⟩⟩
    case' y =>
      refine ⟨_, rfl, _, _, rfl, rfl, .inl ⟨by decide, by decide⟩, _, _, rfl, rfl, ?_⟩
    all_goals
      clear hc
      refine ⟨_, rfl, _, rfl, _, _, rfl, rfl, ⟨by decide, by decide, by decide⟩, ?_⟩
      walk_at "rr"
      refine ⟨⟨by decide, by decide, by decide⟩, _, _, rfl, rfl, ⟨by decide, by decide, by decide⟩, _, _, rfl, rfl, wide_mul (a := 200) (b := 200) (by decide) (by decide) (by decide) (by decide) (by decide), _, _, rfl, rfl, ten120, ?_⟩
      walk_at "rr"
      refine ⟨(by decide : (1152921504606846883 : Int) ≠ 0), ?_⟩
      walk_at "rr"
      refine ⟨fm_mul _ _ (by decide) (by decide), ?_⟩
      walk_at "rr"
      refine ⟨.inl ⟨by decide, by decide⟩, ?_⟩
      walk_at "rr"
      refine ⟨.inl ⟨by decide, by decide⟩, ?_⟩
      walk_at "rr"
      exact ⟨size3, fun p hp => k p _ _ _ hp⟩
theorem sc_roll : FnScope ["dice", "total", "found", "one", "two"] ["dice", "total"] (defScope s_law_roll) := ⟨rfl, rfl, rfl, by decide +kernel, rfl, by decide +kernel, by decide +kernel⟩
theorem ok_law_roll {f : Addr} {fd : FuncData} (F : Fun K "_law_roll" "_law_roll" s_law_roll f fd) (T : Txt K mg) : FnOk P w K mg base CX0 1 f fd ["dice", "total"] spRoll := by
  refine F.ok sc_roll (fun vs H Q E h => ?_) (fun cdv A outer s H vs Q E hr h => ?_)
  · obtain ⟨d, n, _, rfl, _⟩ := h
    rfl
  · obtain ⟨d, n, ⟨a, b, c, hd⟩, rfl, hn, k⟩ := h
    have hn0 : 0 < n := hn.1
    refine ⟨_, pss_cons (ps_if (pt_cmpR op_gt (pe_ix ix_list (pv 0) pe_int (fun _ _ => rfl)) pe_int (nomark _))
        (pss_cons (ps_set (i := 2) sc_roll.nd rfl (Or.inl rfl) (pe_op op_modN (pe_callTy call_int1 (by rfl) T.n_int (by decide +kernel) (pa_cons (pe_ix ix_list (pv 0) pe_int (fun _ _ => rfl)) pa_nil)) (pv 1)))
        (pss_cons (ps_asg (pe_op op_fdivW (pe_ix ix_list (pv 0) pe_int (fun _ _ => rfl)) (pv 1)) (pg_sub (pv 0) pe_int set_list))
        (pss_one (ps_ret (pv 2))))) pss_nil)
      (pss_cons (ps_asg (pe_op op_add (pe_ix ix_list (pv 0) pe_int (fun _ _ => rfl)) pe_int) (pg_sub (pv 0) pe_int set_list))
      (pss_cons (ps_set (i := 3) sc_roll.nd rfl (Or.inl rfl) (pe_op op_modN (pe_callTy call_int1 (by rfl) T.n_int (by decide +kernel) (pa_cons (pe_op op_add (pe_ix ix_list (pv 0) pe_int (fun _ _ => rfl)) (pe_op op_mul pe_int (pe_ix ix_list (pv 0) pe_int (fun _ _ => rfl)))) pa_nil)) pe_int))
      (pss_cons (ps_set (i := 4) sc_roll.nd rfl (Or.inl rfl) (pe_op op_add (pe_op op_mul (pe_op op_modN (pe_callTy call_int1 (by rfl) T.n_int (by decide +kernel) (pa_cons (pe_op op_add (pe_op op_mul (pv 3) (pv 3)) (pe_op op_mul pe_int (pe_ix ix_list (pv 0) pe_int (fun _ _ => rfl)))) pa_nil)) pe_int) pe_int) (pv 3)))
      (pss_one (ps_ret (pe_op op_modN (pe_callTy call_int1 (by rfl) T.n_int (by decide +kernel) (pa_cons (pe_op op_fdivN (pv 4) pe_int) pa_nil)) (pv 1))))))), ?_⟩
    walk_at "rr"
    refine ⟨_, _, _, _, rfl, rfl, SqL.of hd, d0 _ _ _, ?_⟩
    walk_at "rr"
    refine ite2 (fun hc => ?_) (fun hc => ?_)
    · walk_at "rr"
      refine ⟨_, _, _, _, rfl, rfl, SqL.of hd, d0 _ _ _, ?_⟩
      walk_at "rr"
      refine ⟨by show n ≠ 0; omega, ?_⟩
      walk_at "rr"
      refine ⟨_, _, _, _, rfl, rfl, SqL.of hd, d0 _ _ _, ?_⟩
      walk_at "rr"
      refine ⟨hn, ?_⟩
      walk_at "rr"
      refine ⟨d, _, _, 0, rfl, rfl, hd, rfl, ?_⟩
      walk_at "rr"
      exact k _ _ _ _ (fm_lo _ hn0) (fm_hi _ hn0)
    · walk_at "rr"
      refine ⟨_, _, _, _, rfl, rfl, SqL.of hd, d2 _ _ _, ?_⟩
      walk_at "rr"
      refine ⟨d, _, _, 2, rfl, rfl, hd, rfl, ?_⟩
      have hd' : (upd H d (.lst ([V.int a, V.int b, V.int c].set 2 (V.int (c + 1))))) d = some (.lst [V.int a, V.int b, V.int (c + 1)]) := upd_same
      walk_at "rr"
      refine ⟨_, _, _, _, rfl, rfl, SqL.of hd', d1 _ _ _, ?_⟩
      walk_at "rr"
      refine ⟨_, _, _, _, rfl, rfl, SqL.of hd', d2 _ _ _, ?_⟩
      walk_at "rr"
      refine ⟨.inl ⟨by decide, by decide⟩, ?_⟩
      walk_at "rr"
      refine ⟨(by decide : (2305843009213693921 : Int) ≠ 0), ?_⟩
      walk_at "rr"
      refine ⟨fm_mul _ _ (by decide) (by decide), ?_⟩
      walk_at "rr"
      refine ⟨_, _, _, _, rfl, rfl, SqL.of hd', d2 _ _ _, ?_⟩
      walk_at "rr"
      refine ⟨.inl ⟨by decide, by decide⟩, ?_⟩
      walk_at "rr"
      refine ⟨(by decide : (2305843009213693907 : Int) ≠ 0), ?_⟩
      walk_at "rr"
      refine ⟨fm_mul _ _ (by decide) (by decide), ?_⟩
      walk_at "rr"
      refine ⟨⟨by decide, by decide⟩, ?_⟩
      walk_at "rr"
      refine ⟨by show n ≠ 0; omega, ?_⟩
      exact k _ _ _ _ (fm_lo _ hn0) (fm_hi _ hn0)
theorem sc_pick : FnScope ["dice", "items"] ["dice", "items"] (defScope s_law_pick) := ⟨rfl, rfl, rfl, by decide +kernel, rfl, by decide +kernel, by decide +kernel⟩
theorem ok_law_pick {f : Addr} {fd : FuncData} (F : Fun K "_law_pick" "_law_pick" s_law_pick f fd) (T : Txt K mg) (DR : Dfn P w K mg base "_law_roll" 1 ["dice", "total"] spRoll) : FnOk P w K mg base CX0 2 f fd ["dice", "items"] spPick := by
  refine F.ok sc_pick (fun vs H Q E h => ?_) (fun cdv A outer s H vs Q E hr h => ?_)
  · obtain ⟨d, x, _, rfl, _⟩ := h
    rfl
  · obtain ⟨d, x, hd, rfl, k⟩ := h
    refine ⟨_, pss_one (ps_ret (pe_ix ix_seq (pv 1) (pe_d DR hr (pa_cons (pv 0) (pa_cons (pe_callB call_len (by rfl) T.n_len (by decide +kernel) (pa_cons (pv 1) pa_nil)) pa_nil))) (fun _ _ => rfl))), ?_⟩
    rcases k with ⟨l, xs, rfl, hl, hne, hlen, hld, k⟩ | ⟨z, rfl, hz, hz2, k⟩
    · walk_at "rr"
      have h0 : 0 < xs.length := List.length_pos_iff.mpr hne
      refine ⟨_, xs.length, rfl, .inl ⟨xs, SqL.of hl, rfl⟩, ?_⟩
      refine ⟨d, _, hd, rfl, cdiv_small (by omega) (by omega), fun j a b c h1 h2 => ?_⟩
      obtain ⟨m, rfl⟩ : ∃ m : Nat, j = m := ⟨j.toNat, by omega⟩
      have hm : m < xs.length := by omega
      exact .inl ⟨l, xs, _, _, rfl, rfl, SqL.of (by rw [upd_ne hld]; exact hl), atI_nat (List.getElem?_eq_getElem hm), k _ _ _ _ (List.getElem_mem hm)⟩
    · walk_at "rr"
      have hs : (1000 : Nat) ≤ sizeLine := by decide
      refine ⟨_, z.length, rfl, ⟨by omega, rfl⟩, ?_⟩
      refine ⟨d, _, hd, rfl, cdiv_small (by omega) (by omega), fun j a b c h1 h2 => ?_⟩
      obtain ⟨m, rfl⟩ : ∃ m : Nat, j = m := ⟨j.toNat, by omega⟩
      have hm : m < z.cps.toList.length := by rw [Array.length_toList]; show m < z.length; omega
      exact .inr (.inr ⟨z, _, _, rfl, rfl, by omega, atI_nat (List.getElem?_eq_getElem hm), k _ _ _ _⟩)
end
/-! ### values by their kinds, names, integers -/
inductive Kd (H : Hp) : V → String → Prop where
  | non : Kd H .non "NoneType"
  | bl (b : Bool) : Kd H (.bl b) "bool"
  | int (i : Int) : Kd H (.int i) "int"
  | str (z : Str) (h : z.length ≤ 1000) : Kd H (.str z) "str"
  | lst {a : Addr} {xs : List V} (e : H a = some (.lst xs)) : Kd H (.ref a) "list"
  | tup {a : Addr} {xs : List V} (e : H a = some (.tup xs)) : Kd H (.ref a) "tuple"
  | dK {a : Addr} {kvs : List (Key × V)} (e : H a = some (.dK kvs)) : Kd H (.ref a) "dict"
theorem Kd.tyX {K : PySem.W.Frag} {H : Hp} {v : V} {t : String} (h : Kd H v t) : TyX K H v (.type t) := by
  cases h with
  | non => exact .base .non
  | bl b => exact .base (.bl b)
  | int i => exact .base (.int i)
  | str z _ => exact .base (.str z)
  | lst e => exact .base (.lst e)
  | tup e => exact .base (.tup e)
  | dK e => exact .base (.dK e)
def isa (t c : String) : Bool := match c with
  | "int" => t == "int" || t == "bool"
  | _ => t == c
theorem Kd.isa {K : PySem.W.Frag} {H : Hp} {v : V} {t c : String} (h : Kd H v t) (hc : c ∈ (["int", "bool", "str", "tuple", "dict"] : List String)) : PySem.W.kitOne K (.type t) (.type c) = some (isa t c) := by
  simp only [List.mem_cons, List.not_mem_nil, or_false] at hc
  cases h <;> rcases hc with rfl | rfl | rfl | rfl | rfl <;> exact kit_ty (by decide +kernel)
theorem Kd.same {H H' : Hp} {v : V} {t : String} (h : Kd H v t) (e : Same H H') : Kd H' v t := by
  cases h with
  | non => exact .non
  | bl b => exact .bl b
  | int i => exact .int i
  | str z h => exact .str z h
  | lst q => exact .lst (e _ _ q)
  | tup q => exact .tup (e _ _ q)
  | dK q => exact .dK (e _ _ q)
def isIntV : V → Bool
  | .int i => decide (i.natAbs < 10 ^ 60)
  | _ => false
def isCntV : V → Bool
  | .int i => decide (i.natAbs < 10 ^ 60) && decide (0 ≤ i)
  | _ => false
def azS (z : Str) : Bool := !decide (z.cps.toList < ("a" : Str).cps.toList) && !decide (("z" : Str).cps.toList < z.cps.toList)
def isWordS (z : Str) : Bool := decide (1 ≤ z.length) && decide (z.length ≤ 8) && z.cps.toList.all fun c => azS ⟨#[c]⟩
def isNameV : V → Bool
  | .str z => isWordS z
  | _ => false
def areNames (H : Hp) : V → Bool
  | .ref a => match H a with
    | some (.tup xs) => xs.all isNameV
    | _ => false
  | _ => false
structure spIsName (vs : List V) (H : Hp) (Q : VK) (E : XK) : Prop where
  h : ∃ (v : V) (t : String), Kd H v t ∧ vs = [v] ∧ ∀ H', Same H H' → Q (.bl (isNameV v)) H'
structure spAreNames (vs : List V) (H : Hp) (Q : VK) (E : XK) : Prop where
  h : ∃ (v : V) (t : String), Kd H v t ∧ vs = [v] ∧ (∀ a xs, v = .ref a → H a = some (.tup xs) → xs.length ≤ 1000 ∧ ∀ x ∈ xs, ∃ t, Kd H x t) ∧ ∀ H', Same H H' → Q (.bl (areNames H v)) H'
section
variable {P : Program} {w : World} {K : PySem.W.Frag} {mg : Str → Option Value} {base : Heap}
/-- the chain 'a' <= letter <= 'z' -/
theorem azS_ff {z : Str} (h : (!decide (z.cps.toList < ("a" : Str).cps.toList)) = false) : azS z = false := by
  unfold azS
  rw [h, Bool.false_and]
theorem azS_t {z : Str} (h : (!decide (z.cps.toList < ("a" : Str).cps.toList)) = true) : azS z = !decide (("z" : Str).cps.toList < z.cps.toList) := by
  unfold azS
  rw [h, Bool.true_and]
theorem sc_is_name : FnScope ["value", "letter"] ["value"] (defScope s_is_name) := ⟨rfl, rfl, rfl, by decide +kernel, rfl, by decide +kernel, by decide +kernel⟩
theorem ok_is_name {f : Addr} {fd : FuncData} (F : Fun K "is_name" "is_name" s_is_name f fd) (T : Txt K mg) : FnOk P w K mg base CX0 1 f fd ["value"] spIsName := by
  refine F.ok sc_is_name (fun vs H Q E h => ?_) (fun cdv A outer s H vs Q E hr h => ?_)
  · obtain ⟨v, t, _, rfl, _⟩ := h
    rfl
  · obtain ⟨v, t, hk, rfl, k⟩ := h
    obtain ⟨tf, hF⟩ := T.c_MAX_LETTERS
    refine ⟨_, pss_cons (ps_if (PW.pt (pw_or (pt_not (pt_val (pe_callB call_isi (by rfl) T.n_isinstance (by decide +kernel) (pa_cons (pv 0) (pa_cons (pe_bltn (v := .ty "str") (by rfl) T.n_str (by decide +kernel) rfl) pa_nil)))))
          (pw_or1 (pt_not (pt_chain op_le op_le pe_int (pe_callB call_len (by rfl) T.n_len (by decide +kernel) (pa_cons (pv 0) pa_nil)) (pe_glob (v := .int 8) rfl hF ⟨_, rfl⟩)))))) (pss_one (ps_ret pe_bl)) pss_nil)
      (pss_one (ps_ret (pe_callB (cr_all rfl) (by rfl) T.n_all (by decide +kernel) (pa_cons (pe_lc (own := [("letter", 1)]) (g := gName 1) (tt := tYes) rfl sc_is_name.nd (pi_str (pv 0)) (blkOk_by (own := [("letter", 1)]) (N := ["value", "letter"]) (sc := defScope s_is_name) (by decide +kernel))
        (fun _ _ _ _ _ => pg_name (i := 1) sc_is_name.nd rfl (Or.inl rfl)) (fun _ _ _ _ _ => pts_nil) (fun _ _ _ _ _ => pe_chain op_le_str op_le_str pe_str (pv 1) pe_str)) pa_nil)))), ?_⟩
    walk_at "rr"
    refine ⟨v, _, _, _, _, rfl, .ty _, hk.tyX, hk.isa (by decide), ?_⟩
    walk_at "rr"
    cases hk with
    | str z h =>
      walk_at "rr"
      have hs : (1000 : Nat) ≤ sizeLine := by decide
      refine ⟨_, z.length, rfl, ⟨by omega, rfl⟩, ?_⟩
      walk_at "rr"
      refine ite2 (fun h1 => ?_) (fun h1 => ?_)
      · walk_at "rr"
        refine ite2 (fun h2 => ?_) (fun h2 => ?_)
        · refine q_bl (Q := Q) ?_ (k H (Same.refl _))
          have h3 : ¬ z.length ≤ 8 := by
            have : decide ((z.length : Int) ≤ 8) = false := by simpa using h2
            have := of_decide_eq_false this
            omega
          show false = (decide (1 ≤ z.length) && decide (z.length ≤ 8) && _)
          rw [decide_eq_false h3, Bool.and_false, Bool.false_and]
        · have h3 : z.length ≤ 8 := by
            have : decide ((z.length : Int) ≤ 8) = true := by simpa using h2
            have := of_decide_eq_true this
            omega
          have h4 : 1 ≤ z.length := by
            have := of_decide_eq_true h1
            omega
          walk_at "rr"
          have hlen : z.cps.toList.length = z.length := Array.length_toList
          refine fun D hD => lc_str (x := z) (fun i H' => Same H H' ∧ H' D = some (.lst ((z.cps.toList.take i).map fun c => V.bl (azS ⟨#[c]⟩)))) ⟨same_new hD, upd_same⟩ ?_ ?_
          · rintro i c H' hc ⟨s1, hD'⟩
            have hi : i < z.length := by rw [← hlen]; exact (List.getElem?_eq_some_iff.mp hc).1
            refine ⟨rfl, ?_⟩
            have fin : ∀ b : Bool, b = azS ⟨#[c]⟩ → ∃ acc, H' D = some (.lst acc) ∧ acc.length < sizeLine ∧ (Same H (upd H' D (.lst (acc ++ [V.bl b]))) ∧ (upd H' D (.lst (acc ++ [V.bl b]))) D = some (.lst ((z.cps.toList.take (i + 1)).map fun c => V.bl (azS ⟨#[c]⟩)))) := fun b e => by
              refine ⟨_, hD', ?_, same_own s1 hD, ?_⟩
              · rw [List.length_map, List.length_take]
                have := line1000
                omega
              · rw [upd_same, take_more hc, List.map_append, e]
                rfl
            walk_at "rr"
            cases e : (!decide ((⟨#[c]⟩ : Str).cps.toList < ("a" : Str).cps.toList)) with
            | true =>
              walk_at "rr"
              exact fin _ (azS_t e).symm
            | false =>
              refine iteF ?_
              exact fin _ (azS_ff e).symm
          · rintro H' ⟨s1, hD'⟩
            refine ⟨D, (z.cps.toList.map fun c => azS ⟨#[c]⟩), rfl, SqL.of ?_, ?_⟩
            · rw [List.take_length] at hD'
              rw [List.map_map]
              exact hD'
            · refine q_bl (Q := Q) ?_ (k H' s1)
              show _ = (decide (1 ≤ z.length) && decide (z.length ≤ 8) && z.cps.toList.all fun c => azS ⟨#[c]⟩)
              rw [decide_eq_true h4, decide_eq_true h3, Bool.true_and, Bool.true_and, List.all_map]
              rfl
      · walk_at "rr"
        refine q_bl (Q := Q) ?_ (k H (Same.refl _))
        have h3 : ¬ 1 ≤ z.length := fun h => h1 (decide_eq_true (by omega))
        show false = (decide (1 ≤ z.length) && decide (z.length ≤ 8) && _)
        rw [decide_eq_false h3, Bool.false_and, Bool.false_and]
    | int i => exact k _ (Same.refl _)
    | bl b => exact k _ (Same.refl _)
    | non => exact k _ (Same.refl _)
    | lst e => exact k _ (Same.refl _)
    | tup e => exact k _ (Same.refl _)
    | dK e => exact k _ (Same.refl _)
theorem sc_are_names : FnScope ["value", "name"] ["value"] (defScope s_are_names) := ⟨rfl, rfl, rfl, by decide +kernel, rfl, by decide +kernel, by decide +kernel⟩
theorem ok_are_names {f : Addr} {fd : FuncData} (F : Fun K "are_names" "are_names" s_are_names f fd) (T : Txt K mg) (DN : Dfn P w K mg base "is_name" 1 ["value"] spIsName) : FnOk P w K mg base CX0 2 f fd ["value"] spAreNames := by
  refine F.ok sc_are_names (fun vs H Q E h => ?_) (fun cdv A outer s H vs Q E hr h => ?_)
  · obtain ⟨v, t, _, rfl, _⟩ := h
    rfl
  · obtain ⟨v, t, hk, rfl, hx, k⟩ := h
    refine ⟨_, pss_one (ps_ret (pe_and (pe_callB call_isi (by rfl) T.n_isinstance (by decide +kernel) (pa_cons (pv 0) (pa_cons (pe_bltn (v := .ty "tuple") (by rfl) T.n_tuple (by decide +kernel) rfl) pa_nil)))
      (pe_one (pe_callB (cr_all rfl) (by rfl) T.n_all (by decide +kernel) (pa_cons (pe_lc (own := [("name", 1)]) (g := gName 1) (tt := tYes) rfl sc_are_names.nd (pi_tup (pv 0)) (blkOk_by (own := [("name", 1)]) (N := ["value", "name"]) (sc := defScope s_are_names) (by decide +kernel))
        (fun _ _ _ _ _ => pg_name (i := 1) sc_are_names.nd rfl (Or.inl rfl)) (fun _ _ _ _ _ => pts_nil) (fun _ _ _ _ _ => pe_d DN hr (pa_cons (pv 1) pa_nil))) pa_nil))))), ?_⟩
    walk_at "rr"
    refine ⟨v, _, _, _, _, rfl, .ty _, hk.tyX, hk.isa (by decide), ?_⟩
    walk_at "rr"
    cases hk with
    | @tup a xs e =>
      obtain ⟨hl, hx⟩ := hx a xs rfl e
      walk_at "rr"
      refine ⟨⟨_, SqT.of e⟩, ?_⟩
      have hs := line1000
      refine fun D hD => lc_tup (K := K) (a := a) (xs := xs) (fun i H' => Same H H' ∧ H' D = some (.lst ((xs.take i).map fun x => V.bl (isNameV x)))) ⟨same_new hD, upd_same⟩ (fun i H' _ p => SqT.of (p.1 _ _ e)) ?_ ?_
      · rintro i x H' hi ⟨s1, hD'⟩
        have hil : i < xs.length := (List.getElem?_eq_some_iff.mp hi).1
        obtain ⟨t, ht⟩ := hx x (List.mem_of_getElem? hi)
        refine ⟨rfl, ?_⟩
        walk_at "rr"
        refine ⟨_, t, ht.same s1, rfl, fun H2 s2 => ?_⟩
        refine ⟨_, s2 _ _ hD', ?_, same_own (s1.trans s2) hD, ?_⟩
        · rw [List.length_map, List.length_take]
          omega
        · rw [upd_same, take_more hi, List.map_append]
          rfl
      · rintro H' ⟨s1, hD'⟩
        refine ⟨D, xs.map isNameV, rfl, SqL.of ?_, ?_⟩
        · rw [List.take_length] at hD'
          rw [List.map_map]
          exact hD'
        · refine q_bl (Q := Q) ?_ (k H' s1)
          show _ = (match H a with | some (.tup xs) => xs.all isNameV | _ => false)
          rw [e, List.all_map]
          rfl
    | @lst a xs e => exact q_bl (Q := Q) (by show _ = (match H a with | some (.tup xs) => xs.all isNameV | _ => false); rw [e] <;> rfl) (k _ (Same.refl _))
    | @dK a xs e => exact q_bl (Q := Q) (by show _ = (match H a with | some (.tup xs) => xs.all isNameV | _ => false); rw [e] <;> rfl) (k _ (Same.refl _))
    | int i => exact k _ (Same.refl _)
    | bl b => exact k _ (Same.refl _)
    | non => exact k _ (Same.refl _)
    | str z h => exact k _ (Same.refl _)
end
/-! ### are_different_names -/
theorem puts_len : ∀ (xs acc : List Str), xs.Nodup → (∀ x ∈ xs, ¬ x ∈ acc) → (xs.foldl ZS.put acc).length = acc.length + xs.length
  | [], acc, _, _ => rfl
  | x :: xs, acc, nd, dj => by
    obtain ⟨n1, n2⟩ := List.nodup_cons.mp nd
    have e : ZS.put acc x = x :: acc := by
      unfold ZS.put
      rw [if_neg (dj x List.mem_cons_self)]
    rw [List.foldl_cons, e, puts_len xs (x :: acc) n2 ?_]
    · rw [List.length_cons, List.length_cons]
      omega
    · intro y hy hm
      rcases List.mem_cons.mp hm with rfl | hm
      · exact n1 hy
      · exact dj y (List.mem_cons_of_mem _ hy) hm
theorem nub_len_iff (ss : List Str) : (ZS.nub ss).length = ss.length ↔ ss.Nodup := by
  constructor
  · intro e
    have p := ZS.perm_of_in (ZS.nub ss) ss (ZS.nub_nodup ss) (fun x hx => (ZS.nub_mem ss x).mp hx) e
    exact p.nodup_iff.mpr (ZS.nub_nodup ss)
  · intro nd
    have := puts_len ss [] nd (fun _ _ h => by cases h)
    rw [List.length_nil, Nat.zero_add] at this
    exact this
/-- the texts of a list of names -/
theorem names_strs : ∀ {xs : List V}, xs.all isNameV = true → ∃ ss : List Str, xs = ss.map V.str
  | [], _ => ⟨[], rfl⟩
  | x :: xs, h => by
    rw [List.all_cons, Bool.and_eq_true] at h
    obtain ⟨ss, e⟩ := names_strs h.2
    cases x with
    | str z => exact ⟨z :: ss, by rw [e]; rfl⟩
    | _ => exact absurd h.1 Bool.false_ne_true
theorem nodup_map_str {ss : List Str} : (ss.map V.str).Nodup ↔ ss.Nodup := by
  unfold List.Nodup
  rw [List.pairwise_map]
  constructor
  · exact fun h => h.imp fun hne e => hne (by rw [e])
  · exact fun h => h.imp fun hne e => hne (V.str.inj e)
def diffB (xs : List V) : Bool := xs.all isNameV && decide xs.Nodup
structure spDiff (K : PySem.W.Frag) (vs : List V) (H : Hp) (Q : VK) (E : XK) : Prop where
  h : ∃ (a : Addr) (xs : List V), vs = [.ref a] ∧ H a = some (.tup xs) ∧ xs.length ≤ 1000 ∧ (∀ x ∈ xs, ∃ t, Kd H x t) ∧ ∀ H', Same H H' → Q (.bl (diffB xs)) H'
section
variable {P : Program} {w : World} {K : PySem.W.Frag} {mg : Str → Option Value} {base : Heap}
theorem sc_are_diff : FnScope ["value"] ["value"] (defScope s_are_different_names) := ⟨rfl, rfl, rfl, by decide +kernel, rfl, by decide +kernel, by decide +kernel⟩
theorem ok_are_different_names {f : Addr} {fd : FuncData} (F : Fun K "are_different_names" "are_different_names" s_are_different_names f fd) (T : Txt K mg) (DA : Dfn P w K mg base "are_names" 2 ["value"] spAreNames) : FnOk P w K mg base CX0 3 f fd ["value"] (spDiff K) := by
  refine F.ok sc_are_diff (fun vs H Q E h => ?_) (fun cdv A outer s H vs Q E hr h => ?_)
  · obtain ⟨a, xs, rfl, _⟩ := h
    rfl
  · obtain ⟨a, xs, rfl, ha, hl, hx, k⟩ := h
    refine ⟨_, pss_one (ps_ret (pe_and (pe_d DA hr (pa_cons (pv 0) pa_nil))
      (pe_one (pe_cmpR op_eq (ZS.pe_lenTx rfl T.n_len T.n_set (pv 0)) (pe_callB call_len (by rfl) T.n_len (by decide +kernel) (pa_cons (pv 0) pa_nil)) (nomark _))))), ?_⟩
    walk_at "rr"
    refine ⟨_, _, .tup ha, rfl, fun b ys e hb => ?_, fun H' hS => ?_⟩
    · cases e
      rw [ha] at hb
      cases hb
      exact ⟨hl, hx⟩
    · have ea : areNames H (.ref a) = xs.all isNameV := by
        show (match H a with | some (.tup xs) => xs.all isNameV | _ => false) = _
        rw [ha]
      walk_at "rr"
      rw [ea]
      refine ite2 (fun h1 => ?_) (fun h1 => ?_)
      · obtain ⟨ss, rfl⟩ := names_strs h1
        walk_at "rr"
        rw [List.length_map] at hl
        refine ⟨a, ss, rfl, .inr (SqT.of (hS _ _ ha)), hl, ?_⟩
        walk_at "rr"
        have hs := line1000
        refine ⟨_, ss.length, rfl, .inr ⟨_, SqT.of (hS _ _ ha), by rw [List.length_map]⟩, ?_⟩
        refine ⟨rfl, ?_⟩
        refine q_bl (Q := Q) ?_ (k H' hS)
        unfold diffB
        rw [h1, Bool.true_and]
        refine decide_eq_decide.mpr ?_
        rw [nodup_map_str, ← nub_len_iff]
        constructor
        · intro e
          have := V.int.inj e
          omega
        · intro e
          rw [e]
      · refine q_bl (Q := Q) ?_ (k H' hS)
        unfold diffB
        rw [Bool.eq_false_iff.mpr h1, Bool.false_and]
end
/-! ### _law_mixed -/
structure spMixed (vs : List V) (H : Hp) (Q : VK) (E : XK) : Prop where
  h : ∃ (d l : Addr) (xs : List V), Dice H d ∧ vs = [.ref d, .ref l] ∧ H l = some (.lst xs) ∧ xs.length ≤ 1000 ∧ l ≠ d ∧ ∀ (q : Addr) (ys : List V) (H' : Hp), Go d H H' → H q = none → q ≠ d → H' q = some (.lst ys) → ys.Perm xs → Q (.ref q) H'
section
variable {P : Program} {w : World} {K : PySem.W.Frag} {mg : Str → Option Value} {base : Heap}
theorem sc_mixed : FnScope ["dice", "items", "left", "found", "turn"] ["dice", "items"] (defScope s_law_mixed) := ⟨rfl, rfl, rfl, by decide +kernel, rfl, by decide +kernel, by decide +kernel⟩
theorem ok_law_mixed {f : Addr} {fd : FuncData} (F : Fun K "_law_mixed" "_law_mixed" s_law_mixed f fd) (T : Txt K mg) (DR : Dfn P w K mg base "_law_roll" 1 ["dice", "total"] spRoll) : FnOk P w K mg base CX0 2 f fd ["dice", "items"] spMixed := by
  refine F.ok sc_mixed (fun vs H Q E h => ?_) (fun cdv A outer s H vs Q E hr h => ?_)
  · obtain ⟨d, l, xs, _, rfl, _⟩ := h
    rfl
  · obtain ⟨d, l, xs, hd, rfl, hl, hn, hld, k⟩ := h
    refine ⟨_, pss_cons (ps_par (i := 2) (j := 3) rfl sc_mixed.nd rfl rfl (by decide) rfl rfl (pa_cons (pe_callTy call_list_of (by rfl) T.n_list (by decide +kernel) (pa_cons (pv 1) pa_nil)) (pa_cons (pe_lst pa_nil) pa_nil)) (by rfl))
      (pss_cons (ps_for PassesOwn.never rfl (pi_range1 (by rfl) T.n_range (pa_cons (pe_callB call_len (by rfl) T.n_len (by decide +kernel) (pa_cons (pv 1) pa_nil)) pa_nil)) (pg_name (i := 4) sc_mixed.nd rfl (Or.inl rfl))
        (pss_one (ps_expr (pe_bm PySem.F.plainAttrs_list PySem.F.slot_list_append PySem.F.type_list_append mt_append (pv 3) (pa_cons
          (pe_bm PySem.F.plainAttrs_list PySem.F.slot_list_pop PySem.F.type_list_pop mt_popAt (pv 2) (pa_cons (pe_d DR hr (pa_cons (pv 0) (pa_cons (pe_callB call_len (by rfl) T.n_len (by decide +kernel) (pa_cons (pv 2) pa_nil)) pa_nil))) pa_nil)) pa_nil)))))
      (pss_one (ps_ret (pv 3)))), ?_⟩
    walk_at "rr"
    refine ⟨l, xs, rfl, .inl (SqL.of hl), fun L hL => ?_⟩
    walk_at "rr"
    refine ⟨Nat.zero_le _, fun q hq => ?_⟩
    have hLq : L ≠ q := fun e => by
      subst e
      rw [upd_same] at hq
      cases hq
    have hq0 : H q = none := by
      cases e : H q with
      | none => rfl
      | some o =>
        rw [upd_ne (Ne.symm hLq), e] at hq
        cases hq
    have hLd : L ≠ d := (Go.refl hd).at_ne hL
    have hqd : q ≠ d := (Go.refl hd).at_ne hq0
    have hlL : l ≠ L := ne_of_none hl hL
    have hlq : l ≠ q := ne_of_none hl hq0
    obtain ⟨HA, eA⟩ : ∃ X, upd (upd H L (.lst xs)) q (.lst []) = X := ⟨_, rfl⟩
    have gA : Go d H HA := by
      rw [← eA]
      exact (Go.own ((Go.refl hd).new hL) hq0 hqd)
    have hAl : HA l = some (.lst xs) := gA.keep l _ hld hl
    have hAL : HA L = some (.lst xs) := by
      rw [← eA, upd_ne hLq, upd_same]
    have hAq : HA q = some (.lst []) := by
      rw [← eA, upd_same]
    rw [eA]
    walk_at "rr"
    have hs := line1000
    refine ⟨_, xs.length, rfl, .inl ⟨_, SqL.of hAl, rfl⟩, ?_⟩
    refine ⟨_, rfl, by omega, by omega, ?_⟩
    rw [Int.toNat_natCast]
    refine for_range (lo := 0) (n := xs.length) (fun i σ H' => ∃ (v4 : Option V) (left found : List V), σ = [some (.ref d), some (.ref l), some (.ref L), some (.ref q), v4] ∧ H' L = some (.lst left) ∧ H' q = some (.lst found) ∧ (found ++ left).Perm xs ∧ found.length = i ∧ Go d H H')
      ⟨_, xs, [], rfl, hAL, hAq, List.Perm.refl _, rfl, gA⟩ ?_ ?_
    · rintro i σ H' hi ⟨v4, left, found, rfl, h1, h2, hp, hfl, gg⟩
      have hlen := hp.length_eq
      rw [List.length_append] at hlen
      walk_at "rr"
      refine ⟨.inl ⟨rfl, _, SqL.of h2⟩, ?_⟩
      walk_at "rr"
      refine ⟨.inl ⟨rfl, _, SqL.of h1⟩, ?_⟩
      walk_at "rr"
      refine ⟨_, left.length, rfl, .inl ⟨_, SqL.of h1, rfl⟩, ?_⟩
      walk_at "rr"
      refine roll_go gg.dice (by omega) (by omega) fun j H2 j0 j1 g2 => ?_
      have h1' := g2.keep L _ hLd h1
      have h2' := g2.keep q _ hqd h2
      have hj : j.toNat < left.length := by omega
      walk_at "rr"
      refine ⟨L, left, j, j.toNat, left[j.toNat], rfl, rfl, h1', by omega, by omega, seqIndex_of j0 (by omega), List.getElem?_eq_getElem hj, ?_⟩
      walk_at "rr"
      refine ⟨q, found, left[j.toNat], rfl, rfl, by rw [upd_ne hLq.symm]; exact h2', by omega, ?_⟩
      walk_at "rr"
      refine ⟨_, left.eraseIdx j.toNat, found ++ [left[j.toNat]], rfl, by rw [upd_ne hLq, upd_same], upd_same, ?_, by rw [List.length_append, hfl] <;> rfl, ?_⟩
      · refine List.Perm.trans ?_ hp
        rw [List.append_assoc]
        refine List.Perm.append_left found ?_
        exact (erase_perm left j.toNat left[j.toNat] (List.getElem?_eq_getElem hj))
      · exact ((gg.trans g2).own hL hLd).own hq0 hqd
    · rintro σ H' ⟨v4, left, found, rfl, h1, h2, hp, hfl, gg⟩
      walk_at "rr"
      have hlen := hp.length_eq
      rw [List.length_append] at hlen
      have e : left = [] := List.length_eq_zero_iff.mp (by omega)
      subst e
      rw [List.append_nil] at hp
      exact k q found H' gg hq0 hqd h2 hp
end
/-- a list == [] -/
theorem op_eqNil {X : Cx} (hu : X.A.units < cLine) : OpR X (compareOp .Eq) (fun x y H Q => ∃ a b xs, x = .ref a ∧ y = .ref b ∧ SqL X.K H a xs ∧ SqL X.K H b [] ∧ Q (.bl xs.isEmpty) H) := by
  intro pins s σ H x y v u Q I rx ry h
  obtain ⟨a, b, xs, rfl, rfl, ha, hb, q⟩ := h
  cases rx
  cases ry
  obtain ⟨its, r1, p1, _⟩ := I.list ha
  obtain ⟨its2, r2, p2, _⟩ := I.list hb
  cases r2
  cases xs with
  | nil =>
    cases r1
    refine SeqAt.eq_listAt (e := fun _ => true) p1.isList p2.isList rfl hu (fun j h1 _ => absurd h1 (by simp)) ?_
    exact ⟨.bl _, H, I, rfl, q⟩
  | cons x xs =>
    cases r1
    refine SeqAt.eq_list_lengthsAt p1.isList p2.isList (by simp) hu ?_
    exact ⟨.bl _, H, I, rfl, q⟩
/-- a list != [] -/
theorem op_neNil {X : Cx} (hu : X.A.units < cLine) : OpR X (compareOp .NotEq) (fun x y H Q => ∃ a b xs, x = .ref a ∧ y = .ref b ∧ SqL X.K H a xs ∧ SqL X.K H b [] ∧ Q (.bl (!xs.isEmpty)) H) := by
  intro pins s σ H x y v u Q I rx ry h
  obtain ⟨a, b, xs, rfl, rfl, ha, hb, q⟩ := h
  cases rx
  cases ry
  obtain ⟨its, r1, p1, _⟩ := I.list ha
  obtain ⟨its2, r2, p2, _⟩ := I.list hb
  cases r2
  cases xs with
  | nil =>
    cases r1
    exact SeqAt.RcNeAt.lists (e := fun _ => true) p1.isList p2.isList rfl hu (fun j h1 _ => absurd h1 (by simp)) X.prog X.w _ _ ⟨.bl _, H, I, rfl, q⟩
  | cons x xs =>
    cases r1
    exact SeqAt.RcNeAt.lists_lengths p1.isList p2.isList (by simp) hu X.prog X.w _ _ ⟨.bl _, H, I, rfl, q⟩
end K5
namespace K5
open PySem PySem.Spec PyProof.Rows L2 RS RZ
local macro_rules | `(tactic| walk_at "r1") => `(tactic| first | refine ⟨_, rfl, ?_⟩ | refine ⟨_, _, rfl, rfl, ?_⟩ | refine ⟨_, _, rfl, ?_⟩ | refine .inl ⟨_, rfl, ?_⟩ | refine .inr ⟨_, rfl, ?_⟩ | refine ⟨⟨_, rfl⟩, ?_⟩)
local macro_rules | `(tactic| walk_at "rr") => `(tactic| repeat walk_at "r1")
/-! ### min and max of two texts -/
def pick2 (a b : Str) (i : Nat) : Str := if i = 0 then a else b
theorem strs2_at {a b : Str} {t u : Tok} (i : Nat) (v : Value) (h : (#[Value.str a t, Value.str b u] : Array Value)[i]? = some v) : ∃ tk, v = .str (pick2 a b i) tk := by
  match i, h with
  | 0, h =>
    have e := Option.some.inj h
    exact ⟨t, e.symm⟩
  | 1, h =>
    have e := Option.some.inj h
    exact ⟨u, e.symm⟩
  | n + 2, h => exact absurd h (by simp)
theorem two_strs {prog : Program} {w : World} {A : Around} {E : Value → Shared → Prop} {s : Shared} {op : CmpOp} {bt : Nat → Nat → Bool} {a b : Str} {t u : Tok} {Q : Value → Shared → Prop} (hh : A.handled = none)
    (hc : CmpOf prog w A.in1 op (fun i v => (#[Value.str a t, Value.str b u] : Array Value)[i]? = some v) bt)
    (h : ∀ (v : Value) (h' : Heap) (tk : Nat), (∃ tk, v = .str (pick2 a b (argBest bt 1)) tk) → (∀ (c : Addr) (o : Obj), s.heap.get? c = some o → h'.get? c = some o) → Q v { heap := h', gens := s.gens, drawn := s.drawn, toks := tk, os := s.os }) :
    wpAny (model prog w) A.in1 (pyIter (Value.ref s.heap.objs.size))
      (fun it s₂ => ∃ I fp wr n P St, ∃ bt : Nat → Nat → Bool, it = Value.ref I ∧ Walks prog w A.in1 I fp wr n P St ∧ St 0 s₂.heap ∧ (∀ (b : Addr), b ∈ fp → b < s₂.heap.objs.size) ∧ 0 < n ∧ CmpOf prog w A.in1 op P bt ∧
        ∀ (v : Value) (h' : Heap) (tk : Nat), P (argBest bt (n - 1)) v → (∀ (b : Addr) (o : Obj), ¬b ∈ wr → s₂.heap.get? b = some o → h'.get? b = some o) → Q v { heap := h', gens := s₂.gens, drawn := s₂.drawn, toks := tk, os := s₂.os })
      E { heap := s.heap.push { cls := Value.type "tuple", data := Data.seq #[.str a t, .str b u] }, gens := s.gens, drawn := s.drawn, toks := s.toks, os := s.os } := by
  have hT : (s.heap.push { cls := Value.type "tuple", data := Data.seq #[Value.str a t, Value.str b u] }).IsTuple s.heap.objs.size #[Value.str a t, Value.str b u] := ⟨_, Heap.get?_push_size s.heap rfl, rfl, 0, rfl⟩
  refine wpAny_pyIter_tuple hT ?_
  have hsz := Heap.size_push s.heap { cls := Value.type "tuple", data := Data.seq #[Value.str a t, Value.str b u] }
  refine ⟨_, _, _, _, _, _, bt, rfl, Walks.tuple (prog := prog) (w := w) (A := A.in1) hh ((s.heap.push { cls := Value.type "tuple", data := Data.seq #[Value.str a t, Value.str b u] }).objs.size) s.heap.objs.size ?_ #[Value.str a t, Value.str b u], ⟨⟨_, Heap.get?_push_size _ rfl, rfl, rfl⟩, Heap.IsTuple.push hT _⟩, ?_, (show (0 : Nat) < 2 by decide), hc, fun v h' tk hP hk => ?_⟩
  · show s.heap.objs.size ≠ (s.heap.push _).objs.size
    rw [hsz]
    exact Nat.ne_of_lt (Nat.lt_succ_self _)
  · intro c hc
    show c < ((s.heap.push _).push _).objs.size
    rw [Heap.size_push, hsz]
    rcases List.mem_cons.mp hc with rfl | hc
    · rw [hsz]
      exact Nat.lt_succ_self _
    · rcases List.mem_cons.mp hc with rfl | hc
      · exact Nat.lt_succ_of_lt (Nat.lt_succ_self _)
      · cases hc
  · refine h v h' tk (strs2_at _ v hP) fun c o e => hk c o (fun hm => ?_) (Heap.get?_push_of_some _ (Heap.get?_push_of_some _ e))
    rcases List.mem_cons.mp hm with e1 | hm
    · have := Heap.lt_size e
      rw [hsz] at e1
      rw [e1] at this
      exact absurd this (Nat.not_lt_of_le (Nat.le_succ _))
    · cases hm
theorem cmp_lt2 {prog : Program} {w : World} {A : Around} {a b : Str} {t u : Tok} : CmpOf prog w A .Lt (fun i v => (#[Value.str a t, Value.str b u] : Array Value)[i]? = some v) (fun i j => ltS (pick2 a b i) (pick2 a b j)) := by
  intro i j vi vj s Q E hi hj hq
  obtain ⟨t1, rfl⟩ := strs2_at i vi hi
  obtain ⟨t2, rfl⟩ := strs2_at j vj hj
  exact lt_str hq
theorem cmp_gt2 {prog : Program} {w : World} {A : Around} {a b : Str} {t u : Tok} : CmpOf prog w A .Gt (fun i v => (#[Value.str a t, Value.str b u] : Array Value)[i]? = some v) (fun i j => ltS (pick2 a b j) (pick2 a b i)) := by
  intro i j vi vj s Q E hi hj hq
  obtain ⟨t1, rfl⟩ := strs2_at i vi hi
  obtain ⟨t2, rfl⟩ := strs2_at j vj hj
  exact P.gt_str hq
theorem call_minS {X : Cx} (hc : X.calm = true) : CallR X (.builtin "min") (fun xs H Q => ∃ a b, xs = [.str a, .str b] ∧ Q (.str (if ltS b a then b else a)) H) := by
  intro pins s σ H xs us Q I r h
  obtain ⟨a, b, rfl, q⟩ := h
  obtain ⟨u1, u2, rfl, ⟨t1, rfl⟩, ⟨t2, rfl⟩⟩ := L2.vals2 r
  refine call_min_two (two_strs (I.ok.hd hc) cmp_lt2 fun v h' tk hv k => ?_)
  refine ⟨_, H, I.kept k, ?_, q⟩
  obtain ⟨t3, rfl⟩ := hv
  refine ⟨t3, ?_⟩
  show Value.str (pick2 a b (if ltS (pick2 a b 1) (pick2 a b 0) then 1 else 0)) t3 = _
  show Value.str (pick2 a b (if ltS b a then 1 else 0)) t3 = _
  cases ltS b a <;> rfl
theorem call_maxS {X : Cx} (hc : X.calm = true) : CallR X (.builtin "max") (fun xs H Q => ∃ a b, xs = [.str a, .str b] ∧ Q (.str (if ltS a b then b else a)) H) := by
  intro pins s σ H xs us Q I r h
  obtain ⟨a, b, rfl, q⟩ := h
  obtain ⟨u1, u2, rfl, ⟨t1, rfl⟩, ⟨t2, rfl⟩⟩ := L2.vals2 r
  refine call_max_two (two_strs (I.ok.hd hc) cmp_gt2 fun v h' tk hv k => ?_)
  refine ⟨_, H, I.kept k, ?_, q⟩
  obtain ⟨t3, rfl⟩ := hv
  refine ⟨t3, ?_⟩
  show Value.str (pick2 a b (if ltS (pick2 a b 0) (pick2 a b 1) then 1 else 0)) t3 = _
  show Value.str (pick2 a b (if ltS a b then 1 else 0)) t3 = _
  cases ltS a b <;> rfl
end K5
namespace K5
open PySem PySem.Spec PyProof.Rows L2 RS RZ
local macro_rules | `(tactic| walk_at "r1") => `(tactic| first | refine ⟨_, rfl, ?_⟩ | refine ⟨_, _, rfl, rfl, ?_⟩ | refine ⟨_, _, rfl, ?_⟩ | refine .inl ⟨_, rfl, ?_⟩ | refine .inr ⟨_, rfl, ?_⟩ | refine ⟨⟨_, rfl⟩, ?_⟩)
local macro_rules | `(tactic| walk_at "rr") => `(tactic| repeat walk_at "r1")
/-! ### ascending texts; plain webs -/
def AscS (l : List Str) : Prop := l.Pairwise fun a b => ltS a b = true
theorem rising_le : ∀ (l : List Str) (x : Str), risingS x l = true → (∀ y ∈ l, ltS y x = false) ∧ l.Pairwise fun a b => ltS b a = false
  | [], _, _ => ⟨(fun _ h => by cases h), .nil⟩
  | y :: l, x, h => by
    unfold risingS at h
    rw [Bool.and_eq_true] at h
    obtain ⟨h1, h2⟩ := rising_le l y h.2
    have h0 : ltS y x = false := by
      have := h.1
      rw [ltCps_eq] at this
      unfold ltS
      simpa using this
    refine ⟨fun z hz => ?_, .cons h1 h2⟩
    rcases List.mem_cons.mp hz with rfl | hz
    · exact h0
    · cases e : ltS z x with
      | false => rfl
      | true =>
        cases e2 : ltS x y with
        | true => exact absurd (ltS_trans e e2) (by rw [h1 z hz]; exact Bool.false_ne_true)
        | false =>
          rw [ltS_total e2 h0] at e
          exact absurd e (by rw [h1 z hz]; exact Bool.false_ne_true)
theorem sorted_le : ∀ (l : List Str), sortedS l = true → l.Pairwise fun a b => ltS b a = false
  | [], _ => .nil
  | x :: l, h => .cons (rising_le l x h).1 (rising_le l x h).2
theorem asc_of_sorted {l : List Str} (h : sortedS l = true) (nd : l.Nodup) : AscS l :=
  (sorted_le l h).imp₂ (fun a b h1 h2 => by
    cases e : ltS a b with
    | true => rfl
    | false => exact absurd (ltS_total e h1) h2) nd
def minS (a b : Str) : Str := if ltS b a then b else a
def maxS (a b : Str) : Str := if ltS a b then b else a
/-- the tie between two texts -/
def tieS (a b : Str) : List Str := [minS a b, maxS a b]
abbrev RefK := List (Addr × List Str)
def rk (ks : RefK) : List V := (ks.map (·.1)).map V.ref
def TK (H : Hp) (ks : RefK) : Prop := ∀ k ∈ ks, H k.1 = some (.tup (k.2.map V.str))
/-- a plain web stands at p -/
structure Pln (H : Hp) (p : Addr) (ss : List Str) (ks : RefK) : Prop where
  at_ : ∃ l1 l2 : Addr, H p = some (.dK [(Sum.inr "places", .ref l1), (Sum.inr "ties", .ref l2)]) ∧ H l1 = some (.lst (ss.map V.str)) ∧ H l2 = some (.lst (rk ks))
  el : TK H ks
theorem TK.same {H H' : Hp} {ks : RefK} (h : TK H ks) (S : Same H H') : TK H' ks := fun k hk => S _ _ (h k hk)
theorem Pln.same {H H' : Hp} {p : Addr} {ss : List Str} {ks : RefK} (h : Pln H p ss ks) (S : Same H H') : Pln H' p ss ks := by
  obtain ⟨⟨l1, l2, a, b, c⟩, e⟩ := h
  exact ⟨⟨l1, l2, S _ _ a, S _ _ b, S _ _ c⟩, e.same S⟩
theorem dice_ne_strs {H : Hp} {d l : Addr} {ss : List Str} (hd : Dice H d) (h : H l = some (.lst (ss.map V.str))) : l ≠ d := by
  rintro rfl
  obtain ⟨a, b, c, e⟩ := hd
  rw [h] at e
  cases ss with
  | nil => cases e
  | cons s ss => cases e
theorem dice_ne_refs {H : Hp} {d l : Addr} {ks : RefK} (hd : Dice H d) (h : H l = some (.lst (rk ks))) : l ≠ d := by
  rintro rfl
  obtain ⟨a, b, c, e⟩ := hd
  rw [h] at e
  cases ks with
  | nil => cases e
  | cons s ss => cases e
theorem dice_ne_tup {H : Hp} {d l : Addr} {xs : List V} (hd : Dice H d) (h : H l = some (.tup xs)) : l ≠ d := by
  rintro rfl
  obtain ⟨a, b, c, e⟩ := hd
  rw [h] at e
  cases e
theorem dice_ne_dK {H : Hp} {d l : Addr} {kvs : List (Key × V)} (hd : Dice H d) (h : H l = some (.dK kvs)) : l ≠ d := by
  rintro rfl
  obtain ⟨a, b, c, e⟩ := hd
  rw [h] at e
  cases e
theorem TK.go {H H' : Hp} {d : Addr} {ks : RefK} (h : TK H ks) (hd : Dice H d) (g : Go d H H') : TK H' ks := fun k hk => g.keep _ _ (dice_ne_tup hd (h k hk)) (h k hk)
theorem Pln.go {H H' : Hp} {d p : Addr} {ss : List Str} {ks : RefK} (h : Pln H p ss ks) (hd : Dice H d) (g : Go d H H') : Pln H' p ss ks := by
  obtain ⟨⟨l1, l2, a, b, c⟩, e⟩ := h
  exact ⟨⟨l1, l2, g.keep _ _ (dice_ne_dK hd a) a, g.keep _ _ (dice_ne_strs hd b) b, g.keep _ _ (dice_ne_refs hd c) c⟩, e.go hd g⟩
structure spTie (vs : List V) (H : Hp) (Q : VK) (E : XK) : Prop where
  h : ∃ a b : Str, vs = [.str a, .str b] ∧ ∀ p, H p = none → Q (.ref p) (upd H p (.tup ((tieS a b).map V.str)))
section
variable {P : Program} {w : World} {K : PySem.W.Frag} {mg : Str → Option Value} {base : Heap}
theorem sc_tie : FnScope ["a", "b"] ["a", "b"] (defScope s_law_tie) := ⟨rfl, rfl, rfl, by decide +kernel, rfl, by decide +kernel, by decide +kernel⟩
theorem ok_law_tie {f : Addr} {fd : FuncData} (F : Fun K "_law_tie" "_law_tie" s_law_tie f fd) (T : Txt K mg) : FnOk P w K mg base CX0 1 f fd ["a", "b"] spTie := by
  refine F.ok sc_tie (fun vs H Q E h => ?_) (fun cdv A outer s H vs Q E hr h => ?_)
  · obtain ⟨a, b, rfl, _⟩ := h
    rfl
  · obtain ⟨a, b, rfl, k⟩ := h
    refine ⟨_, pss_one (ps_ret (pe_tup (pa_cons (pe_callB (call_minS rfl) (by rfl) T.n_min (by decide +kernel) (pa_cons (pv 0) (pa_cons (pv 1) pa_nil)))
      (pa_cons (pe_callB (call_maxS rfl) (by rfl) T.n_max (by decide +kernel) (pa_cons (pv 0) (pa_cons (pv 1) pa_nil))) pa_nil)))), ?_⟩
    walk_at "rr"
    exact ⟨show (2 : Nat) ≤ sizeLine by decide, fun p hp => k p hp⟩
end
end K5
namespace K5
open PySem PySem.Spec PyProof.Rows L2 RS RZ
local macro_rules | `(tactic| walk_at "r1") => `(tactic| first | refine ⟨_, rfl, ?_⟩ | refine ⟨_, _, rfl, rfl, ?_⟩ | refine ⟨_, _, rfl, ?_⟩ | refine .inl ⟨_, rfl, ?_⟩ | refine .inr ⟨_, rfl, ?_⟩ | refine ⟨⟨_, rfl⟩, ?_⟩)
local macro_rules | `(tactic| walk_at "rr") => `(tactic| repeat walk_at "r1")
/-! ### _law_plain -/
theorem _root_.L2.Same.none {H H' : Hp} {p : Addr} (S : Same H H') (hp : H' p = none) : H p = none := by
  cases e : H p with
  | none => rfl
  | some o => rw [S _ _ e] at hp; cases hp
theorem _root_.L2.Same.new {H H' : Hp} {p : Addr} {o : HO} (S : Same H H') (hp : H' p = none) : Same H (upd H' p o) := S.trans (same_new hp)
def tieL : List Str → List Str
  | [a, b] => tieS a b
  | _ => []
structure PlnOf (ss : List Str) (ts : List (List Str)) (ss' : List Str) (ts' : List (List Str)) : Prop where
  as : AscS ss'
  ms : ∀ x, x ∈ ss' ↔ x ∈ ss ∨ ∃ t ∈ ts, x ∈ t
  at_ : Asc ts'
  mt : ∀ t, t ∈ ts' ↔ ∃ u ∈ ts, t = tieL u
def SqA (H : Hp) (l : Addr) (xs : List V) : Prop := H l = some (.lst xs) ∨ H l = some (.tup xs)
def Two (ks : RefK) : Prop := ∀ k ∈ ks, ∃ a b : Str, k.2 = [a, b]
structure spPlain (vs : List V) (H : Hp) (Q : VK) (E : XK) : Prop where
  h : ∃ (l lt : Addr) (ss : List Str) (ks : RefK), vs = [.ref l, .ref lt] ∧ SqA H l (ss.map V.str) ∧ H lt = some (.lst (rk ks)) ∧ TK H ks ∧ Two ks ∧ ss.length ≤ 500 ∧ ks.length < 64 ∧
    ∀ p H' ss' ks', H p = none → Same H H' → Pln H' p ss' ks' → PlnOf ss (ks.map (·.2)) ss' (ks'.map (·.2)) → Q (.ref p) H'
theorem rk_at {ks : RefK} {i : Nat} {x : V} (h : (rk ks)[i]? = some x) : ∃ k, ks[i]? = some k ∧ x = .ref k.1 := by
  unfold rk at h
  rw [List.map_map, List.getElem?_map] at h
  cases e : ks[i]? with
  | none => rw [e] at h; cases h
  | some k => rw [e] at h; exact ⟨k, rfl, (Option.some.inj h).symm⟩
theorem rk_len (ks : RefK) : (rk ks).length = ks.length := by
  unfold rk
  rw [List.length_map, List.length_map]
section
variable {P : Program} {w : World} {K : PySem.W.Frag} {mg : Str → Option Value} {base : Heap}
theorem sc_plain : FnScope ["places", "ties", "found", "a", "b"] ["places", "ties"] (defScope s_law_plain) := ⟨rfl, rfl, rfl, by decide +kernel, rfl, by decide +kernel, by decide +kernel⟩
theorem ok_law_plain {f : Addr} {fd : FuncData} (F : Fun K "_law_plain" "_law_plain" s_law_plain f fd) (T : Txt K mg) (DT : Dfn P w K mg base "_law_tie" 1 ["a", "b"] spTie) : FnOk P w K mg base CX0 2 f fd ["places", "ties"] spPlain := by
  refine F.ok sc_plain (fun vs H Q E h => ?_) (fun cdv A outer s H vs Q E hr h => ?_)
  · obtain ⟨l, lt, ss, ks, rfl, _⟩ := h
    rfl
  · obtain ⟨l, lt, ss, ks, rfl, hl, hlt, hk, h2, hn, hm, k⟩ := h
    have hu8 := Nat.lt_of_le_of_lt (Nat.add_le_add_left (by decide : 8 ≤ 64) _) hr.units
    refine ⟨_, pss_cons (ps_set (i := 2) sc_plain.nd rfl (Or.inl rfl) (pe_callTy call_list_of (by rfl) T.n_list (by decide +kernel) (pa_cons (pv 0) pa_nil)))
      (pss_cons (ps_for PassesOwn.never rfl (pi_list (pv 1)) (pg_tup (n := 2) rfl (pgs_cons (pg_name (i := 3) sc_plain.nd rfl (Or.inl rfl)) (pgs_cons (pg_name (i := 4) sc_plain.nd rfl (Or.inl rfl)) pgs_nil)))
        (pss_one (ps_expr (pe_bm PySem.F.plainAttrs_list PySem.F.slot_list_extend PySem.F.type_list_extend mt_extend (pv 2) (pa_cons (pe_lst (pa_cons (pv 3) (pa_cons (pv 4) pa_nil))) pa_nil)))))
      (pss_one (ps_ret (pe_disp (pps_cons pe_str (ZS.pe_sortTx rfl T.n_sorted T.n_set (pv 2))
        (pps_cons pe_str (pe_sortTT rfl hu8 T.n_sorted T.n_set
          (pe_lc (own := [("a", 3), ("b", 4)]) (g := gTup K 2 (gCons (gName 3) (gCons (gName 4) gNil))) (tt := tYes) rfl sc_plain.nd (pi_list (pv 1)) (blkOk_by (own := [("a", 3), ("b", 4)]) (N := ["places", "ties", "found", "a", "b"]) (sc := defScope s_law_plain) (by decide +kernel))
            (fun _ _ _ _ _ => pg_tup rfl (pgs_cons (pg_name (i := 3) sc_plain.nd rfl (Or.inl rfl)) (pgs_cons (pg_name (i := 4) sc_plain.nd rfl (Or.inl rfl)) pgs_nil)))
            (fun _ _ _ _ _ => pts_nil) (fun _ _ _ _ _ => pe_d DT (hr.mono (by decide)) (pa_cons (pv 3) (pa_cons (pv 4) pa_nil))))) pps_nil)) (by rfl) (by rfl) (fun z => by cases z) (by decide))))), ?_⟩
    walk_at "rr"
    refine ⟨l, ss.map V.str, rfl, hl.imp SqL.of SqT.of, fun fa hfa => ?_⟩
    walk_at "rr"
    have hltf : lt ≠ fa := ne_of_none hlt hfa
    refine ⟨⟨rk ks, SqL.of (by rw [upd_ne hltf]; exact hlt)⟩, ?_⟩
    refine for_list (K := K) (a := lt) (xs := rk ks) (fun i σ H' => ∃ (va vb : Option V) (fs : List Str), σ = [some (.ref l), some (.ref lt), some (.ref fa), va, vb] ∧ H' fa = some (.lst (fs.map V.str)) ∧ fs = ss ++ ((ks.take i).map (·.2)).flatten ∧ fs.length = ss.length + 2 * i ∧ Same H H')
      ⟨_, _, ss, rfl, upd_same, by simp, rfl, same_new hfa⟩ (fun i σ H' _ ⟨va, vb, fs, _, _, _, _, S⟩ => SqL.of (S _ _ hlt)) ?_ ?_
    · rintro i x σ H' hx ⟨va, vb, fs, rfl, hf, hfs, hfl, S⟩
      obtain ⟨k0, hk0, rfl⟩ := rk_at hx
      have hmem := List.mem_of_getElem? hk0
      have hi := (List.getElem?_eq_some_iff.mp hk0).1
      obtain ⟨a, b, eab⟩ := h2 k0 hmem
      have ht := S _ _ (hk k0 hmem)
      rw [eab] at ht
      refine ⟨k0.1, [.str a, .str b], rfl, SqT.of ht, rfl, ?_⟩
      walk_at "rr"
      refine ⟨.inl ⟨rfl, _, SqL.of hf⟩, ?_⟩
      walk_at "rr"
      have hz : (1000 : Nat) < sizeLine := line1000
      refine ⟨show (2 : Nat) ≤ sizeLine by omega, fun q hq => ?_⟩
      have hqf : fa ≠ q := ne_of_none hf hq
      refine ⟨fa, q, fs.map V.str, [V.str a, V.str b], rfl, rfl, by rw [upd_ne hqf]; exact hf, upd_same, by rw [List.length_map]; show _ + 2 ≤ sizeLine; omega, ?_⟩
      walk_at "rr"
      refine ⟨_, _, fs ++ [a, b], rfl, by rw [upd_same, List.map_append]; rfl, ?_, by rw [List.length_append, hfl]; show _ + 2 = _; omega, same_own (S.new hq) hfa⟩
      rw [hfs, take_more hk0, List.map_append, List.flatten_append, List.append_assoc, List.map_singleton, List.flatten_singleton, eab]
    · rintro σ H' ⟨va, vb, fs, rfl, hf, hfs, hfl, S⟩
      rw [rk_len] at hfl hfs
      rw [List.take_length] at hfs
      refine fun p hp => ?_
      have hpf : fa ≠ p := ne_of_none hf hp
      have hp0 : H p = none := S.none hp
      walk_at "rr"
      refine ⟨fa, fs, rfl, .inl (SqL.of (by rw [upd_ne hpf]; exact hf)), by omega, fun ys l1 pm1 so1 hl1 => ?_⟩
      have hl1p : p ≠ l1 := ne_of_none upd_same hl1
      obtain ⟨HX, eX⟩ : ∃ X, upd (upd H' p (.dK [])) l1 (.lst (ys.map V.str)) = X := ⟨_, rfl⟩
      have hXl1 : HX l1 = some (.lst (ys.map V.str)) := by rw [← eX, upd_same]
      have hXp : HX p = some (.dK []) := by rw [← eX, upd_ne hl1p, upd_same]
      have SX : Same H HX := by rw [← eX]; exact (S.new hp).new hl1
      have SX' : Same H' HX := by rw [← eX]; exact (same_new hp).new hl1
      rw [eX]
      walk_at "rr"
      refine ⟨⟨rk ks, SqL.of (SX _ _ hlt)⟩, fun D hD => ?_⟩
      refine lc_list (K := K) (a := lt) (xs := rk ks) (fun i H2 => ∃ kts : RefK, H2 D = some (.lst (rk kts)) ∧ TK H2 kts ∧ kts.map (·.2) = ((ks.take i).map (·.2)).map tieL ∧ Same HX H2)
        ⟨[], upd_same, (fun _ h => nomatch h), rfl, same_new hD⟩ (fun i H2 _ ⟨_, _, _, _, S2⟩ => SqL.of (S2 _ _ (SX _ _ hlt))) ?_ ?_
      · rintro i x H2 hx ⟨kts, hkD, hkt, hkm, S2⟩
        obtain ⟨k0, hk0, rfl⟩ := rk_at hx
        have hmem := List.mem_of_getElem? hk0
        have hi := (List.getElem?_eq_some_iff.mp hk0).1
        obtain ⟨a, b, eab⟩ := h2 k0 hmem
        have ht := S2 _ _ (SX _ _ (hk k0 hmem))
        rw [eab] at ht
        refine ⟨k0.1, [.str a, .str b], rfl, SqT.of ht, rfl, ?_⟩
        walk_at "rr"
        refine ⟨rfl, ?_⟩
        walk_at "rr"
        refine fun t ht0 => ?_
        have htD : D ≠ t := ne_of_none hkD ht0
        have hlen : kts.length = i := by
          have := congrArg List.length hkm
          rw [List.length_map, List.length_map, List.length_map, List.length_take] at this
          omega
        have hz : (1000 : Nat) < sizeLine := line1000
        refine ⟨rk kts, by rw [upd_ne htD]; exact hkD, by rw [rk_len]; omega, kts ++ [(t, tieS a b)], ?_, ?_, ?_, same_own (S2.new ht0) hD⟩
        · rw [upd_same]
          unfold rk
          rw [List.map_append, List.map_append]
          rfl
        · intro q hq
          rcases List.mem_append.mp hq with hq | hq
          · have h0 := hkt q hq
            rw [upd_ne (by rintro e; rw [e, hkD] at h0; cases h0), upd_ne (ne_of_none h0 ht0)]
            exact h0
          · rw [List.mem_singleton.mp hq]
            show upd _ _ _ t = _
            rw [upd_ne htD.symm, upd_same]
        · rw [take_more hk0, List.map_append, List.map_append, List.map_append, hkm]
          congr 1
          show [tieS a b] = [tieL k0.2]
          rw [eab]
          rfl
      · rintro H2 ⟨kts, hkD, hkt, hkm, S2⟩
        rw [rk_len, List.take_length] at hkm
        have hlen : kts.length = ks.length := by
          have := congrArg List.length hkm
          rw [List.length_map, List.length_map, List.length_map] at this
          exact this
        have hsh : ∀ q ∈ kts, ∃ a b : Str, q.2 = tieS a b ∧ ∃ k0 ∈ ks, k0.2 = [a, b] := fun q hq => by
          have h1 : q.2 ∈ kts.map (·.2) := List.mem_map_of_mem hq
          rw [hkm, List.map_map] at h1
          obtain ⟨k0, h3, h4⟩ := List.mem_map.mp h1
          obtain ⟨a, b, eab⟩ := h2 k0 h3
          refine ⟨a, b, ?_, k0, h3, eab⟩
          rw [← h4]
          show tieL k0.2 = _
          rw [eab]
          rfl
        refine ⟨kts, ⟨⟨D, rfl, .inl (SqL.of hkD)⟩, fun q hq => SqT.of (hkt q hq)⟩, by omega, fun q hq => ?_, fun L l2 hL1 hL2 hasc hl2 => ?_⟩
        · obtain ⟨a, b, e, _⟩ := hsh q hq
          rw [e]
          exact List.cons_ne_nil _ _
        have h2p : H2 p = some (.dK []) := S2 _ _ hXp
        have hl2p : p ≠ l2 := ne_of_none h2p hl2
        obtain ⟨HY, eY⟩ : ∃ X, upd H2 l2 (.lst ((L.map (·.1)).map V.ref)) = X := ⟨_, rfl⟩
        have hYp : HY p = some (.dK []) := by rw [← eY, upd_ne hl2p]; exact h2p
        have hYl2 : HY l2 = some (.lst (rk L)) := by rw [← eY, upd_same]; rfl
        have SY : Same HX HY := by rw [← eY]; exact S2.new hl2
        have SY2 : Same H2 HY := by rw [← eY]; exact same_new hl2
        rw [eY]
        walk_at "rr"
        refine ⟨hYp, [(Sum.inr "places", .ref l1), (Sum.inr "ties", .ref l2)], rfl, (show (2 : Nat) ≤ 15 by decide), ?_⟩
        have hYl1 := SY _ _ hXl1
        have n1 : l1 ≠ p := by rintro e; rw [e, hYp] at hYl1; cases hYl1
        have n2 : l2 ≠ p := by rintro e; rw [e, hYp] at hYl2; cases hYl2
        have fin : Same H (upd HY p (.dK [(Sum.inr "places", .ref l1), (Sum.inr "ties", .ref l2)])) := same_own (SX.trans SY) hp0
        refine k p _ ys L hp0 fin ⟨⟨l1, l2, upd_same, by rw [upd_ne n1]; exact hYl1, by rw [upd_ne n2]; exact hYl2⟩, fun q hq => ?_⟩ ?_
        · have h5 := SY2 _ _ (hkt q (hL1 q hq))
          rw [upd_ne (by rintro e; rw [e, hYp] at h5; cases h5)]
          exact h5
        refine ⟨asc_of_sorted so1 (pm1.nodup_iff.mpr (ZS.nub_nodup fs)), fun x => ?_, hasc, fun t => ?_⟩
        · rw [pm1.mem_iff, ZS.nub_mem, hfs, List.mem_append, List.mem_flatten]
        · constructor
          · intro ht
            obtain ⟨q, hq, rfl⟩ := List.mem_map.mp ht
            obtain ⟨a, b, e, k0, h3, h4⟩ := hsh q (hL1 q hq)
            exact ⟨k0.2, List.mem_map_of_mem h3, by rw [h4, e]; rfl⟩
          · rintro ⟨u, hu, rfl⟩
            have h6 : tieL u ∈ kts.map (·.2) := by
              rw [hkm]
              exact List.mem_map_of_mem hu
            obtain ⟨q, hq, e⟩ := List.mem_map.mp h6
            rw [← e]
            exact hL2 q hq
end
end K5
namespace K5
open PySem PySem.Spec PyProof.Rows L2 RS RZ
local macro_rules | `(tactic| walk_at "r1") => `(tactic| first | refine ⟨_, rfl, ?_⟩ | refine ⟨_, _, rfl, rfl, ?_⟩ | refine ⟨_, _, rfl, ?_⟩ | refine .inl ⟨_, rfl, ?_⟩ | refine .inr ⟨_, rfl, ?_⟩ | refine ⟨⟨_, rfl⟩, ?_⟩)
local macro_rules | `(tactic| walk_at "rr") => `(tactic| repeat walk_at "r1")
/-! ### a list or a tuple, whichever -/
def SqK (K : PySem.W.Frag) (H : Hp) (a : Addr) (xs : List V) : Prop := SqL K H a xs ∨ SqT K H a xs
theorem SqA.k {K : PySem.W.Frag} {H : Hp} {a : Addr} {xs : List V} (h : SqA H a xs) : SqK K H a xs := h.imp SqL.of SqT.of
theorem SqA.same {H H' : Hp} {a : Addr} {xs : List V} (h : SqA H a xs) (S : Same H H') : SqA H' a xs := h.imp (S _ _) (S _ _)
def iSeq (K : PySem.W.Frag) (tl : TE) : TI := fun σ H R => tl σ H fun x H1 => ∃ a xs, x = .ref a ∧ SqA H1 a xs ∧ ∀ it : It, (it = Itl K a ∧ H1 a = some (.lst xs)) ∨ (it = Itt K a ∧ H1 a = some (.tup xs)) → R it H1
theorem pi_seq {X : Cx} {tg l : Expr} {tl : TE} (hl : PE X l tl) : PI X tg l (iSeq X.K tl) := by
  refine ⟨fun pins s σ H R I h => thn (hl.run pins s σ H _ I h) fun v s1 hh => ?_⟩
  obtain ⟨x, H1, I1, r1, a, xs, rfl, hq, q⟩ := hh
  cases r1
  rcases hq with hq | hq
  · obtain ⟨its, rv, p, hz⟩ := I1.list (SqL.of hq)
    exact wpAny_pyIter_list p.isList (pi_one I1 _ (turn_list a s1.heap.objs.size) ⟨_, Heap.get?_push_size s1.heap rfl, rfl, rfl⟩ (q _ (.inl ⟨rfl, hq⟩)))
  · obtain ⟨its, rv, p, hz⟩ := I1.tuple (SqT.of hq)
    exact wpAny_pyIter_tuple p (pi_one I1 _ (turn_tuple a s1.heap.objs.size) ⟨_, Heap.get?_push_size s1.heap rfl, rfl, rfl⟩ (q _ (.inr ⟨rfl, hq⟩)))
/-- xs[lo:hi], not the whole -/
def rSlA2 (K : PySem.W.Frag) : V → Option Int → Option Int → Hp → VK → Prop := fun x lo hi H Q => ∃ a xs, x = .ref a ∧ SqK K H a xs ∧ ¬ (HT.sIx xs.length 0 lo = 0 ∧ HT.sIx xs.length xs.length hi = xs.length) ∧
  ∀ p o, H p = none → (o = .lst (cutV xs lo hi) ∨ o = .tup (cutV xs lo hi)) → Q (.ref p) (upd H p o)
theorem sl_seq {X : Cx} : SlR X (rSlA2 X.K) := by
  intro pins s σ H x v vl vu lo hi sl Q I rx hs pl pu h
  obtain ⟨a, xs, e, hq, hn, q⟩ := h
  rcases hq with hq | hq
  · exact sl_list pins s σ H x v vl vu lo hi sl Q I rx hs pl pu ⟨a, xs, e, hq, fun p hp => q p _ hp (.inl rfl)⟩
  · exact sl_tup pins s σ H x v vl vu lo hi sl Q I rx hs pl pu ⟨a, xs, e, hq, hn, fun p hp => q p _ hp (.inr rfl)⟩
def rIxA2 (K : PySem.W.Frag) : R2 := fun x y H Q => ∃ a xs i v, x = .ref a ∧ y = .int i ∧ SqK K H a xs ∧ atI xs i = some v ∧ Q v H
theorem ix_sq {X : Cx} : IxR X (rIxA2 X.K) := by
  intro value slice pins s σ H x y v u Q I rx ry h e
  obtain ⟨a, xs, i, z, rfl, rfl, hq, hz, q⟩ := h
  rcases hq with hq | hq
  · exact ix_list value slice pins s σ H _ _ v u Q I rx ry ⟨a, xs, i, z, rfl, rfl, hq, hz, q⟩ e
  · exact ix_tup value slice pins s σ H _ _ v u Q I rx ry ⟨a, xs, i, z, rfl, rfl, hq, hz, q⟩ e
theorem lc_seq {K : PySem.W.Frag} {a : Addr} {xs : List V} {g : TG} {tt : TT} {te : TE} {vs : List Nat} {σ : L2.St} {H1 : Hp} {D : Addr} {Qd : Hp → Prop} {it : It} {H0 : Hp} (hit : (it = Itl K a ∧ H0 a = some (.lst xs)) ∨ (it = Itt K a ∧ H0 a = some (.tup xs))) (Pv : Nat → Hp → Prop) (h0 : Pv 0 (upd H1 D (.lst [])))
    (hq : ∀ i H, Pv i H → Same H0 H)
    (hs : ∀ (i : Nat) (x : V) (H : Hp), xs[i]? = some x → Pv i H → g x (wipe σ vs) H fun σ2 H2 => wipe σ2 vs = wipe σ vs ∧ tt σ2 H2 fun b H3 => if b = true then te σ2 H3 fun y H4 => ∃ acc, H4 D = some (HO.lst acc) ∧ acc.length < sizeLine ∧ Pv (i + 1) (upd H4 D (HO.lst (acc ++ [y]))) else Pv (i + 1) H3)
    (hd : ∀ H, Pv xs.length H → Qd H) : ∃ W : Nat → Nat → Hp → Prop, (∃ m, W 0 m (upd H1 D (HO.lst []))) ∧ ∀ (i m : Nat) (H : Hp), W i m H → it.stop i H ∧ Qd H ∨ it.go i H ∧ ∃ Nx : Hp → Prop, (∀ (H' : Hp), Nx H' → ∃ m', m' < m ∧ W (i + 1) m' H') ∧ ∀ (x : V) (H' : Hp), it.yld i H x H' →
        g x (wipe σ vs) H' fun σ2 H2 => wipe σ2 vs = wipe σ vs ∧ tt σ2 H2 fun b H3 => if b = true then te σ2 H3 fun y H4 => ∃ acc, H4 D = some (HO.lst acc) ∧ acc.length < sizeLine ∧ Nx (upd H4 D (HO.lst (acc ++ [y]))) else Nx H3 := by
  rcases hit with ⟨rfl, hl⟩ | ⟨rfl, hl⟩
  · exact lc_list Pv h0 (fun i H hi hp => SqL.of (hq i H hp _ _ hl)) hs hd
  · exact lc_tup Pv h0 (fun i H hi hp => SqT.of (hq i H hp _ _ hl)) hs hd
theorem for_seq {K : PySem.W.Frag} {a : Addr} {xs : List V} {g : TG} {tb : TS} {D : Ends} {σ : L2.St} {H H0 : Hp} {it : It} (hit : (it = Itl K a ∧ H0 a = some (.lst xs)) ∨ (it = Itt K a ∧ H0 a = some (.tup xs))) (Pv : Nat → L2.St → Hp → Prop) (h0 : Pv 0 σ H) (hq : ∀ i σ H, Pv i σ H → ∀ o, H0 a = some o → H a = some o)
    (hs : ∀ (i : Nat) (x : V) (σ : L2.St) (H : Hp), xs[i]? = some x → Pv i σ H → g x σ H fun σ2 H2 => tb { nx := Pv (i + 1), rt := D.rt, bk := D.nx, ct := Pv (i + 1) } σ2 H2)
    (hd : ∀ (σ : L2.St) (H : Hp), Pv xs.length σ H → D.nx σ H) : ∃ W : Nat → Nat → L2.St → Hp → Prop, (∃ m, W 0 m σ H) ∧ ∀ (i m : Nat) (σ : L2.St) (H : Hp), W i m σ H → it.stop i H ∧ D.nx σ H ∨ it.go i H ∧ ∃ N : L2.St → Hp → Prop, (∀ (σ' : L2.St) (H' : Hp), N σ' H' → ∃ m', m' < m ∧ W (i + 1) m' σ' H') ∧ ∀ (x : V) (H' : Hp), it.yld i H x H' →
        g x σ H' fun σ2 H2 => tb { nx := N, rt := D.rt, bk := D.nx, ct := N } σ2 H2 := by
  rcases hit with ⟨rfl, hl⟩ | ⟨rfl, hl⟩
  · exact for_list Pv h0 (fun i σ H hi hp => SqL.of (hq i σ H hp _ hl)) hs hd
  · exact for_tup Pv h0 (fun i σ H hi hp => SqT.of (hq i σ H hp _ hl)) hs hd
theorem SqA.it {K : PySem.W.Frag} {H : Hp} {a : Addr} {xs : List V} (h : SqA H a xs) : SqA H a xs := h
end K5
namespace K5
open PySem PySem.Spec PyProof.Rows L2 RS RZ
local macro_rules | `(tactic| walk_at "r1") => `(tactic| first | refine ⟨_, rfl, ?_⟩ | refine ⟨_, _, rfl, rfl, ?_⟩ | refine ⟨_, _, rfl, ?_⟩ | refine .inl ⟨_, rfl, ?_⟩ | refine .inr ⟨_, rfl, ?_⟩ | refine ⟨⟨_, rfl⟩, ?_⟩)
local macro_rules | `(tactic| walk_at "rr") => `(tactic| repeat walk_at "r1")
/-! ### _law_pairs -/
def pairsS : List Str → List (List Str)
  | [] => []
  | a :: r => r.map (tieS a) ++ pairsS r
def SrtT (ts : List (List Str)) : Prop := ts.Pairwise fun a b => lexT b a = false
structure spPairs (vs : List V) (H : Hp) (Q : VK) (E : XK) : Prop where
  h : ∃ (l : Addr) (ss : List Str), vs = [.ref l] ∧ SqA H l (ss.map V.str) ∧ ss.length ≤ 30 ∧
    ∀ p H' ks, H p = none → Same H H' → H' p = some (.lst (rk ks)) → TK H' ks → (ks.map (·.2)).Perm (pairsS ss) → SrtT (ks.map (·.2)) → Q (.ref p) H'
theorem pairs_drop {ss : List Str} {i : Nat} {a : Str} (h : ss[i]? = some a) : pairsS (ss.drop i) = (ss.drop (i + 1)).map (tieS a) ++ pairsS (ss.drop (i + 1)) := by
  have hi := (List.getElem?_eq_some_iff.mp h)
  obtain ⟨hi, e⟩ := hi
  rw [List.drop_eq_getElem_cons hi, e]
  rfl
theorem pairs_ne {ss : List Str} : ∀ t ∈ pairsS ss, ∃ a b, t = tieS a b := by
  induction ss with
  | nil => intro t h; cases h
  | cons a r ih =>
    intro t h
    rcases List.mem_append.mp h with h | h
    · obtain ⟨b, _, rfl⟩ := List.mem_map.mp h
      exact ⟨a, b, rfl⟩
    · exact ih t h
theorem str_at {ss : List Str} {i : Nat} {x : V} (h : (ss.map V.str)[i]? = some x) : ∃ z, ss[i]? = some z ∧ x = .str z := by
  rw [List.getElem?_map] at h
  cases e : ss[i]? with
  | none => rw [e] at h; cases h
  | some k => rw [e] at h; exact ⟨k, rfl, (Option.some.inj h).symm⟩
theorem cut_from (xs : List V) (k : Nat) : cutV xs (some (k : Int)) none = xs.drop k := by
  unfold cutV
  rw [HT.sIx_nat]
  show (xs.drop (min k xs.length)).take (xs.length - min k xs.length) = _
  rw [List.take_of_length_le (by rw [List.length_drop]; omega)]
  by_cases h : k ≤ xs.length
  · rw [Nat.min_eq_left h]
  · rw [Nat.min_eq_right (by omega), List.drop_length, List.drop_eq_nil_of_le (by omega)]
section
variable {P : Program} {w : World} {K : PySem.W.Frag} {mg : Str → Option Value} {base : Heap}
theorem sc_pairs : FnScope ["places", "found", "at", "other"] ["places"] (defScope s_law_pairs) := ⟨rfl, rfl, rfl, by decide +kernel, rfl, by decide +kernel, by decide +kernel⟩
theorem ok_law_pairs {f : Addr} {fd : FuncData} (F : Fun K "_law_pairs" "_law_pairs" s_law_pairs f fd) (T : Txt K mg) (DT : Dfn P w K mg base "_law_tie" 1 ["a", "b"] spTie) : FnOk P w K mg base CX0 2 f fd ["places"] spPairs := by
  refine F.ok sc_pairs (fun vs H Q E h => ?_) (fun cdv A outer s H vs Q E hr h => ?_)
  · obtain ⟨l, ss, rfl, _⟩ := h
    rfl
  · obtain ⟨l, ss, rfl, hl, hn, k⟩ := h
    refine ⟨_, pss_cons (ps_set (i := 1) sc_pairs.nd rfl (Or.inl rfl) (pe_lst pa_nil))
      (pss_cons (ps_for PassesOwn.never rfl (pi_range1 (by rfl) T.n_range (pa_cons (pe_callB call_len (by rfl) T.n_len (by decide +kernel) (pa_cons (pv 0) pa_nil)) pa_nil)) (pg_name (i := 2) sc_pairs.nd rfl (Or.inr rfl))
        (pss_one (ps_expr (pe_bm PySem.F.plainAttrs_list PySem.F.slot_list_extend PySem.F.type_list_extend mt_extend (pv 1) (pa_cons
          (pe_lc (own := [("other", 3)]) (g := gName 3) (tt := tYes) rfl sc_pairs.nd (pi_seq (pe_slice sl_seq (pv 0) (po_some (pe_op op_add (pv 2) pe_int)) po_none)) (blkOk_by (own := [("other", 3)]) (N := ["places", "found", "at", "other"]) (sc := defScope s_law_pairs) (by decide +kernel))
            (fun _ _ _ _ _ => pg_name (i := 3) sc_pairs.nd rfl (Or.inl rfl)) (fun _ _ _ _ _ => pts_nil) (fun _ _ _ _ _ => pe_d DT hr (pa_cons (pe_ix (show IxR _ (rIxA2 K) from ix_sq) (pv 0) (pv 2) (fun _ _ => rfl)) (pa_cons (pv 3) pa_nil)))) pa_nil)))))
      (pss_one (ps_ret (pe_callB cr_sortTT (by rfl) T.n_sorted (by decide +kernel) (pa_cons (pv 1) pa_nil))))), ?_⟩
    walk_at "rr"
    refine ⟨Nat.zero_le _, fun fa hfa => ?_⟩
    walk_at "rr"
    have S0 : Same H (upd H fa (.lst [])) := same_new hfa
    have hz : (1000 : Nat) < sizeLine := line1000
    refine ⟨_, ss.length, rfl, ?_, ?_⟩
    · rcases hl with hl | hl
      · exact .inl ⟨_, SqL.of (S0 _ _ hl), by rw [List.length_map]⟩
      · exact .inr ⟨_, SqT.of (S0 _ _ hl), by rw [List.length_map]⟩
    refine ⟨_, rfl, by omega, by omega, ?_⟩
    rw [Int.toNat_natCast]
    refine for_range (lo := 0) (n := ss.length) (fun i σ H' => ∃ (va : Option V) (ks : RefK), σ = [some (.ref l), some (.ref fa), va, none] ∧ H' fa = some (.lst (rk ks)) ∧ TK H' ks ∧ ks.length ≤ 30 * i ∧ ks.map (·.2) ++ pairsS (ss.drop i) = pairsS ss ∧ Same H H')
      ⟨none, [], rfl, upd_same, (fun _ h => nomatch h), Nat.le_refl _, rfl, S0⟩ ?_ ?_
    · rintro i σ H' hi ⟨va, ks, rfl, hf, hk, hkl, hkp, S⟩
      walk_at "rr"
      refine ⟨.inl ⟨rfl, _, SqL.of hf⟩, ?_⟩
      walk_at "rr"
      have ei : (0 + (i : Int) + 1) = ((i + 1 : Nat) : Int) := by omega
      obtain ⟨za, hza⟩ : ∃ z, ss[i]? = some z := ⟨_, List.getElem?_eq_getElem hi⟩
      refine ⟨l, ss.map V.str, rfl, (hl.same S).k, ?_, fun p o hp ho => ?_⟩
      · rw [ei, HT.sIx_nat, List.length_map]
        omega
      rw [ei, cut_from, ← List.map_drop] at ho
      obtain ⟨HX, eX⟩ : ∃ X, upd H' p o = X := ⟨_, rfl⟩
      have hXa : SqA HX p ((ss.drop (i + 1)).map V.str) := by
        rw [← eX]
        rcases ho with rfl | rfl
        · exact .inl upd_same
        · exact .inr upd_same
      have SX' : Same H' HX := by rw [← eX]; exact same_new hp
      have SX : Same H HX := S.trans SX'
      have hXf := SX' _ _ hf
      have hkX := hk.same SX'
      rw [eX]
      walk_at "rr"
      refine ⟨_, _, rfl, hXa, fun it hit D hD => ?_⟩
      have hDl : fa ≠ D := ne_of_none hXf hD
      refine lc_seq (H0 := HX) hit (fun j H2 => ∃ kts : RefK, H2 D = some (.lst (rk kts)) ∧ TK H2 kts ∧ kts.map (·.2) = ((ss.drop (i + 1)).take j).map (tieS za) ∧ Same HX H2)
        ⟨[], upd_same, (fun _ h => nomatch h), rfl, same_new hD⟩ (fun j H2 ⟨_, _, _, _, S2⟩ => S2) ?_ ?_
      · rintro j x H2 hx ⟨kts, hkD, hkt, hkm, S2⟩
        obtain ⟨z, hz0, rfl⟩ := str_at hx
        walk_at "rr"
        refine ⟨rfl, ?_⟩
        walk_at "rr"
        refine ⟨l, ss.map V.str, _, .str za, rfl, rfl, ((hl.same SX).same S2).k, ?_, ?_⟩
        · rw [Int.zero_add]
          refine atI_nat ?_
          rw [List.getElem?_map, hza]
          rfl
        walk_at "rr"
        refine fun t ht0 => ?_
        have htD : D ≠ t := ne_of_none hkD ht0
        have hlen : kts.length ≤ 30 := by
          have := congrArg List.length hkm
          rw [List.length_map, List.length_map, List.length_take, List.length_drop] at this
          omega
        refine ⟨rk kts, by rw [upd_ne htD]; exact hkD, by rw [rk_len]; omega, kts ++ [(t, tieS za z)], ?_, ?_, ?_, same_own (S2.new ht0) hD⟩
        · rw [upd_same]
          unfold rk
          rw [List.map_append, List.map_append]
          rfl
        · intro q hq
          rcases List.mem_append.mp hq with hq | hq
          · have h0 := hkt q hq
            rw [upd_ne (by rintro e; rw [e, hkD] at h0; cases h0), upd_ne (ne_of_none h0 ht0)]
            exact h0
          · rw [List.mem_singleton.mp hq]
            show upd _ _ _ t = _
            rw [upd_ne htD.symm, upd_same]
        · rw [take_more hz0, List.map_append, List.map_append, hkm]
          rfl
      · rintro H2 ⟨kts, hkD, hkt, hkm, S2⟩
        rw [List.length_map, List.take_length] at hkm
        walk_at "rr"
        have hf2 := S2 _ _ hXf
        have hlen : kts.length ≤ 30 := by
          have := congrArg List.length hkm
          rw [List.length_map, List.length_map, List.length_drop] at this
          omega
        have hi30 : i < 30 := by omega
        refine ⟨fa, D, rk ks, rk kts, rfl, rfl, hf2, hkD, by rw [rk_len, rk_len]; omega, ?_⟩
        walk_at "rr"
        refine ⟨_, ks ++ kts, rfl, ?_, fun q hq => ?_, by rw [List.length_append]; omega, ?_, same_own (SX.trans S2) hfa⟩
        · rw [upd_same]
          unfold rk
          rw [List.map_append, List.map_append]
        · have h0 : H2 q.1 = some (.tup (q.2.map V.str)) := by
            rcases List.mem_append.mp hq with hq | hq
            · exact S2 _ _ (hkX q hq)
            · exact hkt q hq
          rw [upd_ne (by rintro e; rw [e, hf2] at h0; cases h0)]
          exact h0
        · rw [List.map_append, hkm, List.append_assoc, ← pairs_drop hza]
          exact hkp
    · rintro σ H' ⟨va, ks, rfl, hf, hk, hkl, hkp, S⟩
      rw [List.drop_length] at hkp
      have hkp : ks.map (·.2) = pairsS ss := by rw [← hkp]; exact (List.append_nil _).symm
      walk_at "rr"
      refine ⟨fa, ks, rfl, SqL.of hf, fun q hq => SqT.of (hk q hq), fun q hq => ?_, fun L p pm srt hp => ?_⟩
      · obtain ⟨a, b, e⟩ := pairs_ne q.2 (by rw [← hkp]; exact List.mem_map_of_mem hq)
        rw [e]
        exact List.cons_ne_nil _ _
      · refine k p _ L (S.none hp) (S.new hp) upd_same (fun q hq => ?_) ?_ srt
        · exact same_new hp _ _ (hk q (pm.mem_iff.mp hq))
        · rw [← hkp]
          exact pm.map _
end
end K5
namespace K5
open PySem PySem.Spec PyProof.Rows L2 RS RZ
local macro_rules | `(tactic| walk_at "r1") => `(tactic| first | refine ⟨_, rfl, ?_⟩ | refine ⟨_, _, rfl, rfl, ?_⟩ | refine ⟨_, _, rfl, ?_⟩ | refine .inl ⟨_, rfl, ?_⟩ | refine .inr ⟨_, rfl, ?_⟩ | refine ⟨⟨_, rfl⟩, ?_⟩)
local macro_rules | `(tactic| walk_at "rr") => `(tactic| repeat walk_at "r1")
/-! ### _law_beside -/
def selA (z : Str) : List Str → Option Str
  | [a, b] => if a = z then some b else none
  | _ => none
def selB (z : Str) : List Str → Option Str
  | [a, b] => if b = z then some a else none
  | _ => none
def besS (ts : List (List Str)) (z : Str) : List Str := ts.filterMap (selA z) ++ ts.filterMap (selB z)
structure spBeside (vs : List V) (H : Hp) (Q : VK) (E : XK) : Prop where
  h : ∃ (p : Addr) (z : Str) (ss : List Str) (ks : RefK), vs = [.ref p, .str z] ∧ Pln H p ss ks ∧ Two ks ∧ ks.length ≤ 30 ∧
    ∀ q H' ys, H q = none → Same H H' → H' q = some (.lst (ys.map V.str)) → ys.Perm (besS (ks.map (·.2)) z) → sortedS ys = true → Q (.ref q) H'
theorem filterMap_le {α β : Type} (f : α → Option β) (l : List α) : (l.filterMap f).length ≤ l.length := List.length_filterMap_le f l
theorem dget_places {H : Hp} {p : Addr} {x y : V} (h : H p = some (.dK [(Sum.inr "places", x), (Sum.inr "ties", y)])) : DGet H p (.str "places") (some x) := DGet.k (k := Sum.inr "places") h
theorem dget_ties {H : Hp} {p : Addr} {x y : V} (h : H p = some (.dK [(Sum.inr "places", x), (Sum.inr "ties", y)])) : DGet H p (.str "ties") (some y) := by
  have := DGet.k (k := Sum.inr "ties") h
  exact this
theorem fm_step {f : List Str → Option Str} {ks : RefK} {i : Nat} {k0 : Addr × List Str} (h : ks[i]? = some k0) : ((ks.take (i + 1)).map (·.2)).filterMap f = ((ks.take i).map (·.2)).filterMap f ++ (match f k0.2 with | some y => [y] | none => []) := by
  rw [take_more h, List.map_append, List.filterMap_append]
  congr 1
  show List.filterMap f [k0.2] = _
  rw [List.filterMap_cons]
  cases f k0.2 <;> rfl
section
variable {P : Program} {w : World} {K : PySem.W.Frag} {mg : Str → Option Value} {base : Heap}
theorem sc_beside : FnScope ["plain", "place", "found", "a", "b"] ["plain", "place"] (defScope s_law_beside) := ⟨rfl, rfl, rfl, by decide +kernel, rfl, by decide +kernel, by decide +kernel⟩
theorem ok_law_beside {f : Addr} {fd : FuncData} (F : Fun K "_law_beside" "_law_beside" s_law_beside f fd) (T : Txt K mg) : FnOk P w K mg base CX0 1 f fd ["plain", "place"] spBeside := by
  refine F.ok sc_beside (fun vs H Q E h => ?_) (fun cdv A outer s H vs Q E hr h => ?_)
  · obtain ⟨p, z, ss, ks, rfl, _⟩ := h
    rfl
  · obtain ⟨p, z, ss, ks, rfl, hp, h2, hn, k⟩ := h
    have hu := hu_of hr
    refine ⟨_, pss_cons (ps_setLc (i := 2) (own := [("a", 3), ("b", 4)]) (g := gTup K 2 (gCons (gName 3) (gCons (gName 4) gNil))) rfl sc_beside.nd rfl rfl (sw_true rfl rfl rfl (by decide +kernel)) (pi_list (pe_dget hu (pv 0) pe_str (fun _ _ => rfl))) (blkOk_by (own := [("a", 3), ("b", 4)]) (N := ["plain", "place", "found", "a", "b"]) (sc := defScope s_law_beside) (by decide +kernel))
          (fun _ _ _ _ _ => pg_tup rfl (pgs_cons (pg_name (i := 3) sc_beside.nd rfl (Or.inl rfl)) (pgs_cons (pg_name (i := 4) sc_beside.nd rfl (Or.inl rfl)) pgs_nil)))
          (fun _ _ _ _ _ => pts_one (pt_cmpR op_eq (pv 3) (pv 1) (nomark _))) (fun _ _ _ _ _ => pv 4))
      (pss_one (ps_ret (pe_callB cr_sortedS (by rfl) T.n_sorted (by decide +kernel) (pa_cons (pe_op op_cat (pv 2)
        (pe_lc (own := [("a", 3), ("b", 4)]) (g := gTup K 2 (gCons (gName 3) (gCons (gName 4) gNil))) rfl sc_beside.nd (pi_list (pe_dget hu (pv 0) pe_str (fun _ _ => rfl))) (blkOk_by (own := [("a", 3), ("b", 4)]) (N := ["plain", "place", "found", "a", "b"]) (sc := defScope s_law_beside) (by decide +kernel))
          (fun _ _ _ _ _ => pg_tup rfl (pgs_cons (pg_name (i := 3) sc_beside.nd rfl (Or.inl rfl)) (pgs_cons (pg_name (i := 4) sc_beside.nd rfl (Or.inl rfl)) pgs_nil)))
          (fun _ _ _ _ _ => pts_one (pt_cmpR op_eq (pv 4) (pv 1) (nomark _))) (fun _ _ _ _ _ => pv 3))) pa_nil)))), ?_⟩
    obtain ⟨⟨l1, l2, hd, hl1, hl2⟩, hk⟩ := hp
    have hz : (1000 : Nat) < sizeLine := line1000
    walk_at "rr"
    refine ⟨_, _, rfl, dget_ties hd, ?_⟩
    walk_at "rr"
    refine ⟨⟨rk ks, SqL.of hl2⟩, fun D hD => ?_⟩
    refine lc_list (K := K) (a := l2) (xs := rk ks) (fun i H2 => ∃ ys : List Str, H2 D = some (.lst (ys.map V.str)) ∧ ys = ((ks.take i).map (·.2)).filterMap (selA z) ∧ Same H H2)
      ⟨[], upd_same, rfl, same_new hD⟩ (fun i H2 _ ⟨_, _, _, S2⟩ => SqL.of (S2 _ _ hl2)) ?_ ?_
    · rintro i x H2 hx ⟨ys, hyD, hye, S2⟩
      obtain ⟨k0, hk0, rfl⟩ := rk_at hx
      have hmem := List.mem_of_getElem? hk0
      have hi := (List.getElem?_eq_some_iff.mp hk0).1
      obtain ⟨a, b, eab⟩ := h2 k0 hmem
      have ht := S2 _ _ (hk k0 hmem)
      rw [eab] at ht
      refine ⟨k0.1, [.str a, .str b], rfl, SqT.of ht, rfl, ?_⟩
      walk_at "rr"
      refine ⟨rfl, ?_⟩
      walk_at "rr"
      refine ⟨rfl, _, rfl, ?_⟩
      refine ite2 (fun h => ?_) (fun h => ?_)
      · have hab : a = z := V.str.inj (of_decide_eq_true h)
        walk_at "rr"
        have hyl : ys.length ≤ 30 := by
          rw [hye]
          refine Nat.le_trans (filterMap_le _ _) ?_
          rw [List.length_map, List.length_take]
          omega
        refine ⟨_, hyD, by rw [List.length_map]; omega, ys ++ [b], by rw [upd_same, List.map_append]; rfl, ?_, same_own S2 hD⟩
        rw [fm_step hk0, eab, hye]
        show _ = _ ++ (match (if a = z then some b else none) with | some y => [y] | none => [])
        rw [if_pos hab]
      · have hab : ¬ a = z := fun e => h (by rw [e]; exact decide_eq_true rfl)
        refine ⟨ys, hyD, ?_, S2⟩
        rw [fm_step hk0, eab, ← hye]
        show _ = _ ++ (match (if a = z then some b else none) with | some y => [y] | none => [])
        rw [if_neg hab]
        exact (List.append_nil _).symm
    · rintro H2 ⟨ys, hyD, hye, S2⟩
      rw [rk_len, List.take_length] at hye
      walk_at "rr"
      refine ⟨_, _, rfl, dget_ties (S2 _ _ hd), ?_⟩
      walk_at "rr"
      refine ⟨⟨rk ks, SqL.of (S2 _ _ hl2)⟩, fun D' hD' => ?_⟩
      obtain ⟨H0, e0⟩ : ∃ X, H2 = X := ⟨_, rfl⟩
      subst e0
      have hD0 : H D' = none := S2.none hD'
      refine lc_list (K := K) (a := l2) (xs := rk ks) (fun i H3 => ∃ zs : List Str, H3 D' = some (.lst (zs.map V.str)) ∧ zs = ((ks.take i).map (·.2)).filterMap (selB z) ∧ Same H2 H3)
        ⟨[], upd_same, rfl, same_new hD'⟩ (fun i H3 _ ⟨_, _, _, S3⟩ => SqL.of (S3 _ _ (S2 _ _ hl2))) ?_ ?_
      · rintro i x H3 hx ⟨ys', hyD', hye', S3⟩
        obtain ⟨k0, hk0, rfl⟩ := rk_at hx
        have hmem := List.mem_of_getElem? hk0
        have hi := (List.getElem?_eq_some_iff.mp hk0).1
        obtain ⟨a, b, eab⟩ := h2 k0 hmem
        have ht := S3 _ _ (S2 _ _ (hk k0 hmem))
        rw [eab] at ht
        refine ⟨k0.1, [.str a, .str b], rfl, SqT.of ht, rfl, ?_⟩
        walk_at "rr"
        refine ⟨rfl, ?_⟩
        walk_at "rr"
        refine ⟨rfl, _, rfl, ?_⟩
        refine ite2 (fun h => ?_) (fun h => ?_)
        · have hab : b = z := V.str.inj (of_decide_eq_true h)
          walk_at "rr"
          have hyl : ys'.length ≤ 30 := by
            rw [hye']
            refine Nat.le_trans (filterMap_le _ _) ?_
            rw [List.length_map, List.length_take]
            omega
          refine ⟨_, hyD', by rw [List.length_map]; omega, ys' ++ [a], by rw [upd_same, List.map_append]; rfl, ?_, same_own S3 hD'⟩
          rw [fm_step hk0, eab, hye']
          show _ = _ ++ (match (if b = z then some a else none) with | some y => [y] | none => [])
          rw [if_pos hab]
        · have hab : ¬ b = z := fun e => h (by rw [e]; exact decide_eq_true rfl)
          refine ⟨ys', hyD', ?_, S3⟩
          rw [fm_step hk0, eab, ← hye']
          show _ = _ ++ (match (if b = z then some a else none) with | some y => [y] | none => [])
          rw [if_neg hab]
          exact (List.append_nil _).symm
      · rintro H3 ⟨zs, hzD, hze, S3⟩
        rw [rk_len, List.take_length] at hze
        walk_at "rr"
        have hyl : ys.length ≤ 30 := by
          rw [hye]
          refine Nat.le_trans (filterMap_le _ _) ?_
          rw [List.length_map]
          omega
        have hzl : zs.length ≤ 30 := by
          rw [hze]
          refine Nat.le_trans (filterMap_le _ _) ?_
          rw [List.length_map]
          omega
        refine ⟨D, D', _, _, rfl, rfl, S3 _ _ hyD, hzD, by rw [List.length_map, List.length_map]; omega, fun c hc => ?_⟩
        walk_at "rr"
        refine ⟨c, ys ++ zs, rfl, SqL.of (by rw [upd_same, List.map_append]), by rw [List.length_append]; omega, fun vs q pm srt hq => ?_⟩
        refine k q _ vs ?_ ?_ upd_same (by rw [hye, hze] at pm; exact pm) srt
        · exact ((S2.trans S3).new hc).none hq
        · exact ((S2.trans S3).new hc).new hq
end
end K5
namespace K5
open PySem PySem.Spec PyProof.Rows L2 RS RZ
local macro_rules | `(tactic| walk_at "r1") => `(tactic| first | refine ⟨_, rfl, ?_⟩ | refine ⟨_, _, rfl, rfl, ?_⟩ | refine ⟨_, _, rfl, ?_⟩ | refine .inl ⟨_, rfl, ?_⟩ | refine .inr ⟨_, rfl, ?_⟩ | refine ⟨⟨_, rfl⟩, ?_⟩)
local macro_rules | `(tactic| walk_at "rr") => `(tactic| repeat walk_at "r1")
/-! ### comprehensions that give tuples of texts; _law_wheel -/
structure PvT (HX : Hp) (D : Addr) (ts : List (List Str)) (i : Nat) (H : Hp) : Prop where
  ks : ∃ kts : RefK, H D = some (.lst (rk kts)) ∧ TK H kts ∧ kts.map (·.2) = ts.take i
  s : Same HX H
theorem PvT.start {HX : Hp} {D : Addr} {ts : List (List Str)} (hD : HX D = none) : PvT HX D ts 0 (upd HX D (.lst [])) := ⟨⟨[], upd_same, (fun _ h => nomatch h), rfl⟩, same_new hD⟩
theorem rk_app (ks ks2 : RefK) : rk (ks ++ ks2) = rk ks ++ rk ks2 := by
  unfold rk
  rw [List.map_append, List.map_append]
theorem PvT.put {HX : Hp} {D : Addr} {ts : List (List Str)} {i : Nat} {H : Hp} {q : Addr} {t : List Str} (h : PvT HX D ts i H) (hD : HX D = none) (hl : ts.length ≤ 1000) (ht : ts[i]? = some t) (hq : H q = none) :
    ∃ acc, (upd H q (.tup (t.map V.str))) D = some (.lst acc) ∧ acc.length < sizeLine ∧ PvT HX D ts (i + 1) (upd (upd H q (.tup (t.map V.str))) D (.lst (acc ++ [.ref q]))) := by
  obtain ⟨⟨kts, hkD, hkt, hkm⟩, S⟩ := h
  have hz := line1000
  have hlen : kts.length ≤ 1000 := by
    have := congrArg List.length hkm
    rw [List.length_map, List.length_take] at this
    omega
  have hqD : D ≠ q := ne_of_none hkD hq
  refine ⟨rk kts, by rw [upd_ne hqD]; exact hkD, by rw [rk_len]; omega, ⟨kts ++ [(q, t)], by rw [upd_same, rk_app]; rfl, fun k hk => ?_, by rw [List.map_append, hkm, take_more ht]; rfl⟩, same_own (S.new hq) hD⟩
  rcases List.mem_append.mp hk with hk | hk
  · have h0 := hkt k hk
    rw [upd_ne (by rintro e; rw [e, hkD] at h0; cases h0), upd_ne (ne_of_none h0 hq)]
    exact h0
  · rw [List.mem_singleton.mp hk]
    show upd _ _ _ q = _
    rw [upd_ne hqD.symm, upd_same]
theorem PvT.fin {HX : Hp} {D : Addr} {ts : List (List Str)} {H : Hp} (h : PvT HX D ts ts.length H) : ∃ kts : RefK, H D = some (.lst (rk kts)) ∧ TK H kts ∧ kts.map (·.2) = ts := by
  obtain ⟨⟨kts, a, b, c⟩, _⟩ := h
  rw [List.take_length] at c
  exact ⟨kts, a, b, c⟩
/-- each with the one before it, round -/
def befS (rs : List Str) (i : Nat) : Str := rs.getD (if i = 0 then rs.length - 1 else i - 1) ""
def cyc (rs : List Str) : List (List Str) := (List.range rs.length).map fun i => [rs.getD i "", befS rs i]
theorem cyc_len (rs : List Str) : (cyc rs).length = rs.length := by
  unfold cyc
  rw [List.length_map, List.length_range]
theorem cyc_at {rs : List Str} {i : Nat} (h : i < rs.length) : (cyc rs)[i]? = some [rs.getD i "", befS rs i] := by
  unfold cyc
  rw [List.getElem?_map, List.getElem?_range h]
  rfl
theorem at_str {rs : List Str} {i : Nat} (h : i < rs.length) : (rs.map V.str)[i]? = some (.str (rs.getD i "")) := by
  rw [List.getElem?_map, List.getD_eq_getElem?_getD, List.getElem?_eq_getElem h]
  rfl
theorem atI_bef {rs : List Str} {i : Nat} (h : i < rs.length) : atI (rs.map V.str) ((i : Int) - 1) = some (.str (befS rs i)) := by
  unfold befS
  by_cases e : i = 0
  · subst e
    rw [if_pos rfl]
    have hne : rs ≠ [] := by rintro rfl; exact absurd h (Nat.lt_irrefl 0)
    rw [← List.dropLast_concat_getLast hne, List.map_append, List.length_append, List.getD_eq_getElem?_getD, List.length_dropLast, show rs.length - 1 + [rs.getLast hne].length - 1 = rs.dropLast.length by rw [List.length_dropLast]; exact Nat.add_sub_cancel _ _, List.getElem?_concat_length]
    exact atI_last _ _
  · rw [if_neg e, show ((i : Int) - 1) = ((i - 1 : Nat) : Int) by omega]
    exact atI_nat (at_str (by omega))
structure spWheel (vs : List V) (H : Hp) (Q : VK) (E : XK) : Prop where
  h : ∃ (r : Addr) (hub : Str) (rs : List Str), vs = [.str hub, .ref r] ∧ SqA H r (rs.map V.str) ∧ rs.length ≤ 20 ∧
    ∀ p H' ss' ks', H p = none → Same H H' → Pln H' p ss' ks' → PlnOf [] (rs.map (fun x => [hub, x]) ++ cyc rs) ss' (ks'.map (·.2)) → Q (.ref p) H'
section
variable {P : Program} {w : World} {K : PySem.W.Frag} {mg : Str → Option Value} {base : Heap}
theorem sc_wheel : FnScope ["hub", "ring", "ties", "place", "at"] ["hub", "ring"] (defScope s_law_wheel) := ⟨rfl, rfl, rfl, by decide +kernel, rfl, by decide +kernel, by decide +kernel⟩
theorem ok_law_wheel {f : Addr} {fd : FuncData} (F : Fun K "_law_wheel" "_law_wheel" s_law_wheel f fd) (T : Txt K mg) (DP : Dfn P w K mg base "_law_plain" 2 ["places", "ties"] spPlain) : FnOk P w K mg base CX0 3 f fd ["hub", "ring"] spWheel := by
  refine F.ok sc_wheel (fun vs H Q E h => ?_) (fun cdv A outer s H vs Q E hr h => ?_)
  · obtain ⟨r, hub, rs, rfl, _⟩ := h
    rfl
  · obtain ⟨r, hub, rs, rfl, hl, hn, k⟩ := h
    refine ⟨_, pss_cons (ps_setLc (i := 2) (own := [("place", 3)]) (g := gName 3) (tt := tYes) rfl sc_wheel.nd rfl rfl (sw_true rfl rfl rfl (by decide +kernel)) (pi_seq (pv 1)) (blkOk_by (own := [("place", 3)]) (N := ["hub", "ring", "ties", "place", "at"]) (sc := defScope s_law_wheel) (by decide +kernel))
          (fun _ _ _ _ _ => pg_name (i := 3) sc_wheel.nd rfl (Or.inl rfl)) (fun _ _ _ _ _ => pts_nil) (fun _ _ _ _ _ => pe_tup (pa_cons (pv 0) (pa_cons (pv 3) pa_nil))))
      (pss_one (ps_ret (pe_d DP hr (pa_cons (pe_lst pa_nil) (pa_cons (pe_op op_cat (pv 2)
        (pe_lc (own := [("at", 4)]) (g := gName 4) (tt := tYes) rfl sc_wheel.nd (pi_range1 (by rfl) T.n_range (pa_cons (pe_callB call_len (by rfl) T.n_len (by decide +kernel) (pa_cons (pv 1) pa_nil)) pa_nil)) (blkOk_by (own := [("at", 4)]) (N := ["hub", "ring", "ties", "place", "at"]) (sc := defScope s_law_wheel) (by decide +kernel))
          (fun _ _ _ _ _ => pg_name (i := 4) sc_wheel.nd rfl (Or.inl rfl)) (fun _ _ _ _ _ => pts_nil) (fun _ _ _ _ _ => pe_tup (pa_cons (pe_ix (show IxR _ (rIxA2 K) from ix_sq) (pv 1) (pv 4) (fun _ _ => rfl)) (pa_cons (pe_ix (show IxR _ (rIxA2 K) from ix_sq) (pv 1) (pe_op op_sub (pv 4) pe_int) (fun _ _ => rfl)) pa_nil))))) pa_nil))))), ?_⟩
    have hz : (1000 : Nat) < sizeLine := line1000
    walk_at "rr"
    refine ⟨r, rs.map V.str, rfl, hl, fun it hit D hD => ?_⟩
    have h2z : (2 : Nat) ≤ sizeLine := by omega
    refine lc_seq (H0 := H) hit (PvT H D (rs.map fun x => [hub, x])) (PvT.start hD) (fun j H2 h => h.s) ?_ ?_
    · rintro j x H2 hx hP
      obtain ⟨z, hz0, rfl⟩ := str_at hx
      walk_at "rr"
      refine ⟨rfl, ?_⟩
      walk_at "rr"
      refine ⟨h2z, fun t ht => ?_⟩
      exact hP.put (t := [hub, z]) hD (by rw [List.length_map]; omega) (by rw [List.getElem?_map, hz0]; rfl) ht
    · rintro H2 hP
      have S2 := hP.s
      rw [List.length_map, ← List.length_map (as := rs) (f := fun x => [hub, x])] at hP
      obtain ⟨kts, hkD, hkt, hkm⟩ := hP.fin
      walk_at "rr"
      refine ⟨Nat.zero_le _, fun e1 he1 => ?_⟩
      have S3 : Same H2 (upd H2 e1 (.lst [])) := same_new he1
      obtain ⟨H3, e3⟩ : ∃ X, upd H2 e1 (.lst []) = X := ⟨_, rfl⟩
      have h3e : H3 e1 = some (.lst []) := by rw [← e3, upd_same]
      rw [e3] at S3
      have S30 : Same H H3 := S2.trans S3
      rw [e3]
      walk_at "rr"
      refine ⟨_, rs.length, rfl, ?_, ?_⟩
      · rcases hl with hl | hl
        · exact .inl ⟨_, SqL.of (S30 _ _ hl), by rw [List.length_map]⟩
        · exact .inr ⟨_, SqT.of (S30 _ _ hl), by rw [List.length_map]⟩
      refine ⟨_, rfl, by omega, by omega, fun D2 hD2 => ?_⟩
      rw [Int.toNat_natCast]
      refine lc_range (lo := 0) (n := rs.length) (PvT H3 D2 (cyc rs)) (PvT.start hD2) ?_ ?_
      · rintro i H4 hi hP4
        have hl4 := hl.same (S30.trans hP4.s)
        walk_at "rr"
        refine ⟨rfl, ?_⟩
        walk_at "rr"
        refine ⟨r, _, _, _, rfl, rfl, hl4.k, by rw [Int.zero_add]; exact atI_nat (at_str hi), ?_⟩
        walk_at "rr"
        refine ⟨r, _, _, _, rfl, rfl, hl4.k, by rw [Int.zero_add]; exact atI_bef hi, ?_⟩
        walk_at "rr"
        refine ⟨h2z, fun t ht => ?_⟩
        exact hP4.put (t := [rs.getD i "", befS rs i]) hD2 (by rw [cyc_len]; omega) (cyc_at hi) ht
      · rintro H4 hP4
        have S4 := hP4.s
        rw [← cyc_len rs] at hP4
        obtain ⟨kt2, hkD2, hkt2, hkm2⟩ := hP4.fin
        have hkD4 := S4 _ _ (S3 _ _ hkD)
        have hl1 : kts.length = rs.length := by have := congrArg List.length hkm; rwa [List.length_map, List.length_map] at this
        have hl2 : kt2.length = rs.length := by have := congrArg List.length hkm2; rwa [List.length_map, cyc_len] at this
        walk_at "rr"
        refine ⟨D, D2, rk kts, rk kt2, rfl, rfl, hkD4, hkD2, by rw [rk_len, rk_len]; omega, fun c hc => ?_⟩
        have S5 : Same H4 (upd H4 c (.lst (rk (kts ++ kt2)))) := same_new hc
        walk_at "rr"
        rw [← rk_app]
        refine ⟨e1, c, [], kts ++ kt2, rfl, .inl (S5 _ _ (S4 _ _ h3e)), upd_same, fun q hq => ?_, fun q hq => ?_, Nat.zero_le _, by rw [List.length_append]; omega, fun p H5 ss' ks' hp S6 hpl hof => ?_⟩
        · rcases List.mem_append.mp hq with hq | hq
          · exact S5 _ _ (S4 _ _ (S3 _ _ (hkt q hq)))
          · exact S5 _ _ (hkt2 q hq)
        · have h0 : q.2 ∈ (kts ++ kt2).map (·.2) := List.mem_map_of_mem hq
          rw [List.map_append, hkm, hkm2] at h0
          rcases List.mem_append.mp h0 with h0 | h0
          · obtain ⟨x, _, e⟩ := List.mem_map.mp h0
            exact ⟨hub, x, e.symm⟩
          · obtain ⟨x, _, e⟩ := List.mem_map.mp h0
            exact ⟨_, _, e.symm⟩
        · rw [List.map_append, hkm, hkm2] at hof
          have S7 : Same H H5 := ((S30.trans S4).trans S5).trans S6
          exact k p H5 ss' ks' (((S30.trans S4).trans S5).none hp) S7 hpl hof
end
end K5
namespace K5
open PySem PySem.Spec PyProof.Rows L2 RS RZ
local macro_rules | `(tactic| walk_at "r1") => `(tactic| first | refine ⟨_, rfl, ?_⟩ | refine ⟨_, _, rfl, rfl, ?_⟩ | refine ⟨_, _, rfl, ?_⟩ | refine .inl ⟨_, rfl, ?_⟩ | refine .inr ⟨_, rfl, ?_⟩ | refine ⟨⟨_, rfl⟩, ?_⟩)
local macro_rules | `(tactic| walk_at "rr") => `(tactic| repeat walk_at "r1")
/-! ### min of a list of texts -/
theorem argBest_str (k : Nat → Str) : ∀ n, argBest (fun i j => ltS (k i) (k j)) n ≤ n ∧ ∀ j, j ≤ n → ltS (k j) (k (argBest (fun i j => ltS (k i) (k j)) n)) = false
  | 0 => ⟨Nat.le_refl _, fun j hj => by
    rw [Nat.le_zero.mp hj]
    exact ltS_irrefl _⟩
  | n + 1 => by
    obtain ⟨h1, h2⟩ := argBest_str k n
    have e : argBest (fun i j => ltS (k i) (k j)) (n + 1) = (if ltS (k (n + 1)) (k (argBest (fun i j => ltS (k i) (k j)) n)) = true then n + 1 else argBest (fun i j => ltS (k i) (k j)) n) := rfl
    rw [e]
    by_cases c : ltS (k (n + 1)) (k (argBest (fun i j => ltS (k i) (k j)) n)) = true
    · rw [if_pos c]
      refine ⟨Nat.le_refl _, fun j hj => ?_⟩
      rcases Nat.lt_or_ge j (n + 1) with hj' | hj'
      · cases e2 : ltS (k j) (k (n + 1)) with
        | false => rfl
        | true => exact absurd (ltS_trans e2 c) (by rw [h2 j (by omega)]; exact Bool.false_ne_true)
      · rw [show j = n + 1 by omega]
        exact ltS_irrefl _
    · rw [if_neg c]
      refine ⟨by omega, fun j hj => ?_⟩
      rcases Nat.lt_or_ge j (n + 1) with hj' | hj'
      · exact h2 j (by omega)
      · rw [show j = n + 1 by omega]
        exact Bool.eq_false_iff.mpr c
theorem strs_key : ∀ {vs : List Value} {ss : List Str}, StrsAre vs ss → ∀ (i : Nat) (v : Value), vs[i]? = some v → ∃ t, v = .str (ss.getD i "") t ∧ i < ss.length := by
  intro vs ss h i v hv
  have hlen := h.length
  have hi := (List.getElem?_eq_some_iff.mp hv)
  obtain ⟨hi, e⟩ := hi
  obtain ⟨t, e2⟩ := strs_getD h i hi
  exact ⟨t, by rw [← e, e2], by omega⟩
theorem min_strs {prog : Program} {w : World} {A : Around} {E : Value → Shared → Prop} {s : Shared} {l : Addr} {items : Array Value} {ss : List Str} {Q : Value → Shared → Prop} (hh : A.handled = none) (hl : s.heap.IsList l items) (hs : StrsAre items.toList ss) (hne : ss ≠ [])
    (h : ∀ (h' : Heap) (tk : Nat) (m : Str) (t : Tok), (∀ (c : Addr) (o : Obj), s.heap.get? c = some o → h'.get? c = some o) → m ∈ ss → (∀ y ∈ ss, ltS y m = false) → Q (.str m t) { heap := h', gens := s.gens, drawn := s.drawn, toks := tk, os := s.os }) : wpAny (model prog w) A (call (.builtin "min") [.ref l]) Q E s := by
  have hn : items.size = ss.length := by rw [← Array.length_toList]; exact hs.length
  have hpos : 0 < ss.length := List.length_pos_iff.mpr hne
  have hsz : l < s.heap.objs.size := by
    obtain ⟨o, ho, _⟩ := hl
    exact Heap.lt_size ho
  refine call_min_walk (wpAny_pyIter_list hl ?_)
  refine ⟨s.heap.objs.size, _, _, _, _, _, (fun i j => ltS (ss.getD i "") (ss.getD j "")), rfl, Walks.list (prog := prog) (w := w) (A := A.in1) hh s.heap.objs.size l (Nat.ne_of_lt hsz) items, ⟨⟨_, Heap.get?_push_size _ rfl, rfl, rfl⟩, Heap.IsList.push hl _⟩, ?_, by rw [hn]; exact hpos, ?_, fun v h' tk hP hk => ?_⟩
  · intro c hc
    show c < (s.heap.push _).objs.size
    rw [Heap.size_push]
    rcases List.mem_cons.mp hc with rfl | hc
    · exact Nat.lt_succ_self _
    · rcases List.mem_cons.mp hc with rfl | hc
      · exact Nat.lt_succ_of_lt hsz
      · cases hc
  · intro i j vi vj s Q E hi hj hq
    obtain ⟨t1, rfl, _⟩ := strs_key hs i vi (by rw [Array.getElem?_toList]; exact hi)
    obtain ⟨t2, rfl, _⟩ := strs_key hs j vj (by rw [Array.getElem?_toList]; exact hj)
    exact lt_str hq
  · obtain ⟨t, rfl, hb⟩ := strs_key hs _ v (by rw [Array.getElem?_toList]; exact hP)
    obtain ⟨_, h2⟩ := argBest_str (fun i => ss.getD i "") (items.size - 1)
    refine h h' tk _ t (fun c o e => hk c o (fun hm => ?_) (Heap.get?_push_of_some _ e)) ?_ fun y hy => ?_
    · rcases List.mem_cons.mp hm with e1 | hm
      · have := Heap.lt_size e
        rw [e1] at this
        exact absurd this (Nat.lt_irrefl _)
      · cases hm
    · rw [List.getD_eq_getElem?_getD, List.getElem?_eq_getElem hb]
      exact List.getElem_mem _
    · obtain ⟨j, hj, rfl⟩ := List.mem_iff_getElem.mp hy
      have := h2 j (by omega)
      rw [List.getD_eq_getElem?_getD, List.getElem?_eq_getElem hj] at this
      exact this
def rMinL (K : PySem.W.Frag) : List V → Hp → VK → Prop := fun vs H Q => ∃ (a : Addr) (ss : List Str), vs = [.ref a] ∧ SqL K H a (ss.map V.str) ∧ ss ≠ [] ∧ ∀ m, m ∈ ss → (∀ y ∈ ss, ltS y m = false) → Q (.str m) H
theorem call_minL {X : Cx} (hc : X.calm = true) : CallR X (.builtin "min") (rMinL X.K) := by
  intro pins s σ H xs us Q I r h
  obtain ⟨a, ss, rfl, hl, hne, q⟩ := h
  cases r with
  | cons r1 r2 =>
  cases r2
  cases r1
  obtain ⟨its, rv, pl, hz⟩ := I.list hl
  refine min_strs (I.ok.hd hc) pl.isList (by simpa using strsAre_of rv) hne fun h' tk m t k h1 h2 => ?_
  exact ⟨.str m, H, I.kept k, ⟨t, rfl⟩, q m h1 h2⟩
end K5
namespace K5
open PySem PySem.Spec PyProof.Rows L2 RS RZ
local macro_rules | `(tactic| walk_at "r1") => `(tactic| first | refine ⟨_, rfl, ?_⟩ | refine ⟨_, _, rfl, rfl, ?_⟩ | refine ⟨_, _, rfl, ?_⟩ | refine .inl ⟨_, rfl, ?_⟩ | refine .inr ⟨_, rfl, ?_⟩ | refine ⟨⟨_, rfl⟩, ?_⟩)
local macro_rules | `(tactic| walk_at "rr") => `(tactic| repeat walk_at "r1")
/-! ### _law_plain_ring -/
structure spPlainRing (vs : List V) (H : Hp) (Q : VK) (E : XK) : Prop where
  h : ∃ (l : Addr) (rs : List Str), vs = [.ref l] ∧ H l = some (.lst (rs.map V.str)) ∧ 2 ≤ rs.length ∧ rs.length ≤ 20 ∧
    ∀ (p : Addr) (H' : Hp) (ys : List Str), H p = none → Same H H' → H' p = some (.tup (ys.map V.str)) → ys.Perm rs → Q (.ref p) H'
theorem cut_to (xs : List V) (k : Nat) : cutV xs none (some (k : Int)) = xs.take k := by
  unfold cutV
  rw [HT.sIx_nat]
  show (xs.drop 0).take (min k xs.length - 0) = _
  rw [List.drop_zero, Nat.sub_zero]
  by_cases h : k ≤ xs.length
  · rw [Nat.min_eq_left h]
  · rw [Nat.min_eq_right (by omega), List.take_length, List.take_of_length_le (by omega)]
theorem strs_flat (ss : List Str) : (ss.map V.str).all flatV = true := by
  induction ss with
  | nil => rfl
  | cons x l ih => exact ih
theorem eqV_str {x m : Str} (h : x ≠ m) : eqV (.str x) (.str m) = false := by
  unfold eqV
  exact decide_eq_false h
theorem first_at : ∀ {ss : List Str} {m : Str}, m ∈ ss → ∃ j, j < ss.length ∧ (ss.map V.str)[j]? = some (.str m) ∧ ∀ (k : Nat) (z : V), k < j → (ss.map V.str)[k]? = some z → eqV z (.str m) = false
  | [], m, h => nomatch h
  | x :: ss, m, h => by
    by_cases e : x = m
    · subst e
      exact ⟨0, Nat.succ_pos _, rfl, fun k z hk => absurd hk (Nat.not_lt_zero _)⟩
    · obtain ⟨j, h1, h2, h3⟩ := first_at ((List.mem_cons.mp h).resolve_left (Ne.symm e))
      refine ⟨j + 1, Nat.succ_lt_succ h1, h2, fun k z hk hz => ?_⟩
      cases k with
      | zero =>
        have ez : V.str x = z := Option.some.inj hz
        rw [← ez]
        exact eqV_str e
      | succ k => exact h3 k z (Nat.lt_of_succ_lt_succ hk) hz
theorem last_at {ss : List Str} (h : ss ≠ []) : atI (ss.map V.str) (-1) = some (.str (ss.getLast h)) := by
  conv => lhs; rw [← List.dropLast_concat_getLast h, List.map_append]
  exact atI_last _ _
section
variable {P : Program} {w : World} {K : PySem.W.Frag} {mg : Str → Option Value} {base : Heap}
theorem sc_plain_ring : FnScope ["ring", "at", "turned_one", "other"] ["ring"] (defScope s_law_plain_ring) := ⟨rfl, rfl, rfl, by decide +kernel, rfl, by decide +kernel, by decide +kernel⟩
theorem ok_law_plain_ring {f : Addr} {fd : FuncData} (F : Fun K "_law_plain_ring" "_law_plain_ring" s_law_plain_ring f fd) (T : Txt K mg) : FnOk P w K mg base CX0 1 f fd ["ring"] spPlainRing := by
  refine F.ok sc_plain_ring (fun vs H Q E h => ?_) (fun cdv A outer s H vs Q E hr h => ?_)
  · obtain ⟨l, rs, rfl, _⟩ := h
    rfl
  · obtain ⟨l, rs, rfl, hl, h2, hn, k⟩ := h
    refine ⟨_, pss_cons (ps_set (i := 1) sc_plain_ring.nd rfl (Or.inl rfl) (pe_bm PySem.F.plainAttrs_list PySem.F.slot_list_index PySem.F.type_list_index mt_index (pe_callTy call_list_of (by rfl) T.n_list (by decide +kernel) (pa_cons (pv 0) pa_nil))
          (pa_cons (pe_callB (call_minL rfl) (by rfl) T.n_min (by decide +kernel) (pa_cons (pv 0) pa_nil)) pa_nil)))
      (pss_cons (ps_set (i := 2) sc_plain_ring.nd rfl (Or.inl rfl) (pe_op op_cat
          (pe_slice sl_list (pe_callTy call_list_of (by rfl) T.n_list (by decide +kernel) (pa_cons (pv 0) pa_nil)) (po_some (pv 1)) po_none)
          (pe_slice sl_list (pe_callTy call_list_of (by rfl) T.n_list (by decide +kernel) (pa_cons (pv 0) pa_nil)) po_none (po_some (pv 1)))))
      (pss_cons (ps_set (i := 3) sc_plain_ring.nd rfl (Or.inl rfl) (pe_op op_cat (pe_slice sl_list (pv 2) po_none (po_some pe_int)) (pe_revL (pe_slice sl_list (pv 2) (po_some pe_int) po_none))))
      (pss_one (ps_ret (pe_callTy call_tuple_of (by rfl) T.n_tuple (by decide +kernel) (pa_cons
        (pe_ifExp (pt_cmpR op_lt_str (pe_ix ix_list (pv 2) pe_int (fun _ _ => rfl)) (pe_ix ix_list (pv 2) (pe_un un_neg pe_int) (fun _ _ => rfl)) (nomark _)) (pv 2) (pv 3)) pa_nil)))))), ?_⟩
    have hz : (1000 : Nat) < sizeLine := line1000
    walk_at "rr"
    refine ⟨l, rs.map V.str, rfl, .inl (SqL.of hl), fun a1 ha1 => ?_⟩
    have S1 : Same H (upd H a1 (.lst (rs.map V.str))) := same_new ha1
    walk_at "rr"
    refine ⟨.inl ⟨rfl, _, SqL.of upd_same⟩, ?_⟩
    walk_at "rr"
    have hne : rs ≠ [] := by rintro rfl; exact absurd h2 (by decide)
    refine ⟨l, rs, rfl, SqL.of (S1 _ _ hl), hne, fun m hm _ => ?_⟩
    obtain ⟨j, hj, hjm, hj0⟩ := first_at hm
    walk_at "rr"
    refine ⟨a1, _, _, j, .str m, rfl, rfl, SqL.of upd_same, rfl, strs_flat rs, hjm, by unfold eqV; exact beq_self_eq_true m, hj0, ?_⟩
    obtain ⟨HX, eX⟩ : ∃ X, upd H a1 (.lst (rs.map V.str)) = X := ⟨_, rfl⟩
    rw [eX] at S1 ⊢
    walk_at "rr"
    refine ⟨l, rs.map V.str, rfl, .inl (SqL.of (S1 _ _ hl)), fun a2 ha2 => ?_⟩
    have S2 := same_new (o := .lst (rs.map V.str)) ha2
    walk_at "rr"
    refine ⟨a2, rs.map V.str, rfl, SqL.of upd_same, fun b2 hb2 => ?_⟩
    have S3 := same_new (o := .lst (cutV (rs.map V.str) (some (j : Int)) none)) hb2
    obtain ⟨H3, e3⟩ : ∃ X, upd (upd HX a2 (.lst (rs.map V.str))) b2 (.lst (cutV (rs.map V.str) (some (j : Int)) none)) = X := ⟨_, rfl⟩
    have h3b : H3 b2 = some (.lst ((rs.drop j).map V.str)) := by rw [← e3, upd_same, cut_from, List.map_drop]
    have S03 : Same H H3 := by rw [← e3]; exact (S1.trans S2).trans S3
    rw [e3]
    walk_at "rr"
    refine ⟨l, rs.map V.str, rfl, .inl (SqL.of (S03 _ _ hl)), fun a4 ha4 => ?_⟩
    have S4 := same_new (o := .lst (rs.map V.str)) ha4
    walk_at "rr"
    refine ⟨a4, rs.map V.str, rfl, SqL.of upd_same, fun b4 hb4 => ?_⟩
    have S5 := same_new (o := .lst (cutV (rs.map V.str) none (some (j : Int)))) hb4
    obtain ⟨H5, e5⟩ : ∃ X, upd (upd H3 a4 (.lst (rs.map V.str))) b4 (.lst (cutV (rs.map V.str) none (some (j : Int)))) = X := ⟨_, rfl⟩
    have h5b : H5 b4 = some (.lst ((rs.take j).map V.str)) := by rw [← e5, upd_same, cut_to, List.map_take]
    have S35 : Same H3 H5 := by rw [← e5]; exact S4.trans S5
    rw [e5]
    walk_at "rr"
    obtain ⟨ts, ets⟩ : ∃ t, rs.drop j ++ rs.take j = t := ⟨_, rfl⟩
    have pts : ts.Perm rs := by
      rw [← ets]
      exact List.perm_append_comm.trans (by rw [List.take_append_drop])
    have htl := pts.length_eq
    refine ⟨b2, b4, _, _, rfl, rfl, S35 _ _ h3b, h5b, by rw [List.length_map, List.length_map, List.length_drop, List.length_take]; omega, fun c hc => ?_⟩
    rw [← List.map_append, ets]
    have S6 := same_new (o := .lst (ts.map V.str)) hc
    obtain ⟨H6, e6⟩ : ∃ X, upd H5 c (.lst (ts.map V.str)) = X := ⟨_, rfl⟩
    have h6 : H6 c = some (.lst (ts.map V.str)) := by rw [← e6, upd_same]
    rw [e6] at S6 ⊢
    have S06 : Same H H6 := (S03.trans S35).trans S6
    walk_at "rr"
    refine ⟨c, ts.map V.str, rfl, SqL.of h6, fun b7 hb7 => ?_⟩
    rw [show (1 : Int) = ((1 : Nat) : Int) from rfl, cut_to, ← List.map_take]
    have S7 := same_new (o := .lst ((ts.take 1).map V.str)) hb7
    obtain ⟨H7, e7⟩ : ∃ X, upd H6 b7 (.lst ((ts.take 1).map V.str)) = X := ⟨_, rfl⟩
    have h7 : H7 b7 = some (.lst ((ts.take 1).map V.str)) := by rw [← e7, upd_same]
    rw [e7] at S7 ⊢
    walk_at "rr"
    refine ⟨c, ts.map V.str, rfl, SqL.of (S7 _ _ h6), fun b8 hb8 => ?_⟩
    rw [cut_from, ← List.map_drop]
    have S8 := same_new (o := .lst ((ts.drop 1).map V.str)) hb8
    walk_at "rr"
    refine ⟨b8, (ts.drop 1).map V.str, rfl, SqL.of upd_same, fun b9 hb9 => ?_⟩
    rw [← List.map_reverse]
    have S9 := same_new (o := .lst ((ts.drop 1).reverse.map V.str)) hb9
    obtain ⟨H9, e9⟩ : ∃ X, upd (upd H7 b8 (.lst ((ts.drop 1).map V.str))) b9 (.lst ((ts.drop 1).reverse.map V.str)) = X := ⟨_, rfl⟩
    have h9 : H9 b9 = some (.lst ((ts.drop 1).reverse.map V.str)) := by rw [← e9, upd_same]
    have S79 : Same H7 H9 := by rw [← e9]; exact S8.trans S9
    rw [e9]
    walk_at "rr"
    refine ⟨b7, b9, _, _, rfl, rfl, S79 _ _ h7, h9, by rw [List.length_map, List.length_map, List.length_reverse, List.length_drop, List.length_take]; omega, fun d hd => ?_⟩
    rw [← List.map_append]
    have po : (ts.take 1 ++ (ts.drop 1).reverse).Perm rs := ((List.reverse_perm _).append_left _).trans (by rw [List.take_append_drop]; exact pts)
    obtain ⟨os, eos⟩ : ∃ t, ts.take 1 ++ (ts.drop 1).reverse = t := ⟨_, rfl⟩
    rw [eos] at po ⊢
    have S10 := same_new (o := .lst (os.map V.str)) hd
    obtain ⟨H10, e10⟩ : ∃ X, upd H9 d (.lst (os.map V.str)) = X := ⟨_, rfl⟩
    have h10 : H10 d = some (.lst (os.map V.str)) := by rw [← e10, upd_same]
    rw [e10] at S10 ⊢
    have S610 : Same H6 H10 := (S7.trans S79).trans S10
    have S010 := S06.trans S610
    have htn : ts ≠ [] := by rintro rfl; rw [List.length_nil] at htl; omega
    walk_at "rr"
    refine ⟨c, ts.map V.str, 1, _, rfl, rfl, SqL.of (S610 _ _ h6), atI_nat (j := 1) (at_str (by omega)), ?_⟩
    walk_at "rr"
    refine ⟨c, ts.map V.str, -1, _, rfl, rfl, SqL.of (S610 _ _ h6), last_at htn, ?_⟩
    walk_at "rr"
    refine ite2 (fun _ => ?_) (fun _ => ?_)
    · walk_at "rr"
      refine ⟨c, ts.map V.str, rfl, .inl ⟨SqL.of (S610 _ _ h6), fun p hp => ?_⟩⟩
      exact k p _ ts (S010.none hp) (S010.new hp) upd_same pts
    · walk_at "rr"
      refine ⟨d, os.map V.str, rfl, .inl ⟨SqL.of h10, fun p hp => ?_⟩⟩
      exact k p _ os (S010.none hp) (S010.new hp) upd_same po
end
end K5
namespace K5
open PySem PySem.Spec PyProof.Rows L2 RS RZ
local macro_rules | `(tactic| walk_at "r1") => `(tactic| first | refine ⟨_, rfl, ?_⟩ | refine ⟨_, _, rfl, rfl, ?_⟩ | refine ⟨_, _, rfl, ?_⟩ | refine .inl ⟨_, rfl, ?_⟩ | refine .inr ⟨_, rfl, ?_⟩ | refine ⟨⟨_, rfl⟩, ?_⟩)
local macro_rules | `(tactic| walk_at "rr") => `(tactic| repeat walk_at "r1")
/-! ### _law_behind -/
theorem inV_str (x : Str) : ∀ ss : List Str, inV (.str x) (ss.map V.str) = decide (x ∈ ss)
  | [] => rfl
  | y :: ss => by
    have ih := inV_str x ss
    unfold inV at *
    rw [List.map_cons, List.any_cons, ih]
    have e : eqV (.str y) (.str x) = decide (x = y) := by
      unfold eqV
      show (y == x) = _
      by_cases h : x = y
      · subst h
        rw [decide_eq_true rfl]
        exact beq_self_eq_true x
      · rw [decide_eq_false h]
        exact beq_eq_false_iff_ne.mpr (Ne.symm h)
    rw [e]
    by_cases h : x = y
    · rw [decide_eq_true h, Bool.true_or, decide_eq_true (List.mem_cons.mpr (.inl h))]
    · rw [decide_eq_false h, Bool.false_or]
      exact decide_eq_decide.mpr ⟨fun m => List.mem_cons_of_mem _ m, fun m => (List.mem_cons.mp m).resolve_left h⟩
def keepT (z : Str) (ms : List Str) : List Str → Bool
  | [a, b] => !decide (z ∈ [a, b]) || (!decide (a ∈ ms) && !decide (b ∈ ms))
  | _ => false
inductive StepAt (H : Hp) (st : Addr) (ts : List (List Str)) : List (List Str) → Prop where
  | tie (a b : Str) (h : H st = some (.tup [.str "tie", .str a, .str b])) : StepAt H st ts (ts ++ [[a, b]])
  | split (z n : Str) (mv : Addr) (ms : List Str) (h : H st = some (.tup [.str "split", .str z, .str n, .ref mv])) (hm : H mv = some (.tup (ms.map V.str))) (hl : ms.length ≤ 10) : StepAt H st ts (ts.filter (keepT z ms) ++ ms.map (fun o => [n, o]) ++ [[z, n]])
structure spBehind (vs : List V) (H : Hp) (Q : VK) (E : XK) : Prop where
  h : ∃ (p st : Addr) (ss : List Str) (ks : RefK) (ts' : List (List Str)), vs = [.ref p, .ref st] ∧ Pln H p ss ks ∧ Two ks ∧ ss.length ≤ 20 ∧ ks.length ≤ 50 ∧ StepAt H st (ks.map (·.2)) ts' ∧
    ∀ q H' ss2 ks2, H q = none → Same H H' → Pln H' q ss2 ks2 → PlnOf ss ts' ss2 (ks2.map (·.2)) → Q (.ref q) H'
section
variable {P : Program} {w : World} {K : PySem.W.Frag} {mg : Str → Option Value} {base : Heap}
theorem sc_behind : FnScope ["plain", "step", "place", "new", "moved", "ties", "tie", "other"] ["plain", "step"] (defScope s_law_behind) := ⟨rfl, rfl, rfl, by decide +kernel, rfl, by decide +kernel, by decide +kernel⟩
theorem ok_law_behind {f : Addr} {fd : FuncData} (F : Fun K "_law_behind" "_law_behind" s_law_behind f fd) (T : Txt K mg) (DP : Dfn P w K mg base "_law_plain" 2 ["places", "ties"] spPlain) : FnOk P w K mg base CX0 3 f fd ["plain", "step"] spBehind := by
  refine F.ok sc_behind (fun vs H Q E h => ?_) (fun cdv A outer s H vs Q E hr h => ?_)
  · obtain ⟨p, st, ss, ks, ts', rfl, _⟩ := h
    rfl
  · obtain ⟨p, st, ss, ks, ts', rfl, hp, h2, hsl, hkl, hst, k⟩ := h
    have hu := hu_of hr
    refine ⟨_, pss_cons (ps_if (pt_cmpR op_eq (pe_ix ix_tup (pv 1) pe_int (fun _ _ => rfl)) pe_str (nomark _))
          (pss_one (ps_ret (pe_d DP hr (pa_cons (pe_dget hu (pv 0) pe_str (fun _ _ => rfl)) (pa_cons (pe_op op_cat (pe_dget hu (pv 0) pe_str (fun _ _ => rfl))
            (pe_lst (pa_cons (pe_tup (pa_cons (pe_ix ix_tup (pv 1) pe_int (fun _ _ => rfl)) (pa_cons (pe_ix ix_tup (pv 1) pe_int (fun _ _ => rfl)) pa_nil))) pa_nil))) pa_nil))))) pss_nil)
      (pss_cons (ps_asg (pe_tup (pa_cons (pe_ix ix_tup (pv 1) pe_int (fun _ _ => rfl)) (pa_cons (pe_ix ix_tup (pv 1) pe_int (fun _ _ => rfl)) (pa_cons (pe_ix ix_tup (pv 1) pe_int (fun _ _ => rfl)) pa_nil))))
          (pg_tup (n := 3) rfl (pgs_cons (pg_name (i := 2) sc_behind.nd rfl (Or.inr rfl)) (pgs_cons (pg_name (i := 3) sc_behind.nd rfl (Or.inr rfl)) (pgs_cons (pg_name (i := 4) sc_behind.nd rfl (Or.inr rfl)) pgs_nil)))))
      (pss_cons (ps_setLc (i := 5) (own := [("tie", 6)]) (g := gName 6) rfl sc_behind.nd rfl rfl (sw_true rfl rfl rfl (by decide +kernel)) (pi_list (pe_dget hu (pv 0) pe_str (fun _ _ => rfl))) (blkOk_by (own := [("tie", 6)]) (N := ["plain", "step", "place", "new", "moved", "ties", "tie", "other"]) (sc := defScope s_law_behind) (by decide +kernel))
          (fun _ _ _ _ _ => pg_name (i := 6) sc_behind.nd rfl (Or.inl rfl))
          (fun _ _ _ _ _ => pts_one (PW.pt (pw_or (pt_cmpR (show OpR _ _ (rIn K true) from op_notIn_seq) (pv 2) (pv 6) (by rfl)) (pw_or1 (PW.pt (pw_and (pt_cmpR (show OpR _ _ (rIn K true) from op_notIn_seq) (pe_ix (show IxR _ (rIxT K) from ix_tup) (pv 6) pe_int (fun _ _ => rfl)) (pv 4) (by rfl)) (pw_and1 (pt_cmpR (show OpR _ _ (rIn K true) from op_notIn_seq) (pe_ix (show IxR _ (rIxT K) from ix_tup) (pv 6) pe_int (fun _ _ => rfl)) (pv 4) (by rfl)))))))))
          (fun _ _ _ _ _ => pv 6))
      (pss_one (ps_ret (pe_d DP hr (pa_cons (pe_dget hu (pv 0) pe_str (fun _ _ => rfl)) (pa_cons (pe_op op_cat (pe_op op_cat (pv 5)
          (pe_lc (own := [("other", 7)]) (g := gName 7) (tt := tYes) rfl sc_behind.nd (pi_tup (pv 4)) (blkOk_by (own := [("other", 7)]) (N := ["plain", "step", "place", "new", "moved", "ties", "tie", "other"]) (sc := defScope s_law_behind) (by decide +kernel))
            (fun _ _ _ _ _ => pg_name (i := 7) sc_behind.nd rfl (Or.inl rfl)) (fun _ _ _ _ _ => pts_nil) (fun _ _ _ _ _ => pe_tup (pa_cons (pv 3) (pa_cons (pv 7) pa_nil)))))
          (pe_lst (pa_cons (pe_tup (pa_cons (pv 2) (pa_cons (pv 3) pa_nil))) pa_nil))) pa_nil))))))), ?_⟩
    have hz : (1000 : Nat) < sizeLine := line1000
    obtain ⟨⟨l1, l2, hd, hl1, hl2⟩, hk⟩ := hp
    walk_at "rr"
    have h2z : (2 : Nat) ≤ sizeLine := by omega
    cases hst with
    | tie a b h =>
      refine ⟨st, _, 0, .str "tie", rfl, rfl, SqT.of h, rfl, ?_⟩
      walk_at "rr"
      refine ⟨rfl, _, rfl, ?_⟩
      refine ifT (by decide +kernel) ?_
      walk_at "rr"
      refine ⟨_, _, rfl, dget_places hd, ?_⟩
      walk_at "rr"
      refine ⟨_, _, rfl, dget_ties hd, ?_⟩
      walk_at "rr"
      refine ⟨st, _, 1, .str a, rfl, rfl, SqT.of h, rfl, ?_⟩
      walk_at "rr"
      refine ⟨st, _, 2, .str b, rfl, rfl, SqT.of h, rfl, ?_⟩
      walk_at "rr"
      refine ⟨h2z, fun t ht => ?_⟩
      have S1 := same_new (o := .tup [.str a, .str b]) ht
      walk_at "rr"
      refine ⟨(by omega : (1 : Nat) ≤ sizeLine), fun q hq => ?_⟩
      have S2 := same_new (o := .lst [.ref t]) hq
      obtain ⟨H2, e2⟩ : ∃ X, upd (upd H t (.tup [.str a, .str b])) q (.lst [.ref t]) = X := ⟨_, rfl⟩
      have S02 : Same H H2 := by rw [← e2]; exact S1.trans S2
      have h2q : H2 q = some (.lst [.ref t]) := by rw [← e2, upd_same]
      have h2t : H2 t = some (.tup [.str a, .str b]) := by rw [← e2]; exact S2 _ _ upd_same
      rw [e2]
      walk_at "rr"
      refine ⟨l2, q, rk ks, [.ref t], rfl, rfl, S02 _ _ hl2, h2q, by rw [rk_len]; show _ + 1 ≤ _; omega, fun c hc => ?_⟩
      have S3 := same_new (o := .lst (rk ks ++ [.ref t])) hc
      walk_at "rr"
      refine ⟨l1, c, ss, ks ++ [(t, [a, b])], rfl, .inl (S3 _ _ (S02 _ _ hl1)), by rw [upd_same, rk_app]; rfl, fun q' hq' => ?_, fun q' hq' => ?_, by omega, by rw [List.length_append]; show _ + 1 < 64; omega, fun r H4 ss2 ks2 hr0 S4 hpl hof => ?_⟩
      · rcases List.mem_append.mp hq' with hq' | hq'
        · exact S3 _ _ (S02 _ _ (hk q' hq'))
        · rw [List.mem_singleton.mp hq']
          exact S3 _ _ h2t
      · rcases List.mem_append.mp hq' with hq' | hq'
        · exact h2 q' hq'
        · rw [List.mem_singleton.mp hq']
          exact ⟨a, b, rfl⟩
      · rw [List.map_append] at hof
        exact k r H4 ss2 ks2 ((S02.trans S3).none hr0) ((S02.trans S3).trans S4) hpl hof
    | split z n mv ms h hm hl =>
      refine ⟨st, _, 0, .str "split", rfl, rfl, SqT.of h, rfl, ?_⟩
      walk_at "rr"
      refine ⟨rfl, _, rfl, ?_⟩
      refine ifF (by decide +kernel) ?_
      walk_at "rr"
      refine ⟨st, _, 1, .str z, rfl, rfl, SqT.of h, rfl, ?_⟩
      walk_at "rr"
      refine ⟨st, _, 2, .str n, rfl, rfl, SqT.of h, rfl, ?_⟩
      walk_at "rr"
      refine ⟨st, _, 3, .ref mv, rfl, rfl, SqT.of h, rfl, ?_⟩
      walk_at "rr"
      refine ⟨(by omega : (3 : Nat) ≤ sizeLine), fun t ht => ?_⟩
      have S1 := same_new (o := .tup [.str z, .str n, .ref mv]) ht
      walk_at "rr"
      refine ⟨t, _, rfl, SqT.of upd_same, rfl, ?_⟩
      obtain ⟨H1, e1⟩ : ∃ X, upd H t (.tup [.str z, .str n, .ref mv]) = X := ⟨_, rfl⟩
      rw [e1] at S1 ⊢
      walk_at "rr"
      refine ⟨_, _, rfl, dget_ties (S1 _ _ hd), ?_⟩
      walk_at "rr"
      refine ⟨⟨rk ks, SqL.of (S1 _ _ hl2)⟩, fun D hD => ?_⟩
      refine lc_list (K := K) (a := l2) (xs := rk ks) (fun i H2 => H2 D = some (.lst (rk ((ks.take i).filter fun k => keepT z ms k.2))) ∧ Same H1 H2)
        ⟨upd_same, same_new hD⟩ (fun i H2 _ ⟨_, S2⟩ => SqL.of (S2 _ _ (S1 _ _ hl2))) ?_ ?_
      · rintro i x H2 hx ⟨hkD, S2⟩
        obtain ⟨k0, hk0, rfl⟩ := rk_at hx
        have hmem := List.mem_of_getElem? hk0
        have hi := (List.getElem?_eq_some_iff.mp hk0).1
        obtain ⟨a, b, eab⟩ := h2 k0 hmem
        have ht := S2 _ _ (S1 _ _ (hk k0 hmem))
        have hmv := S2 _ _ (S1 _ _ hm)
        rw [eab] at ht
        have eT : keepT z ms k0.2 = (!decide (z ∈ [a, b]) || (!decide (a ∈ ms) && !decide (b ∈ ms))) := by rw [eab]; rfl
        walk_at "rr"
        refine ⟨rfl, ?_⟩
        walk_at "rr"
        have kept : keepT z ms k0.2 = true → upd H2 D (.lst (rk ((ks.take i).filter fun k => keepT z ms k.2) ++ [.ref k0.1])) D = some (.lst (rk ((ks.take (i + 1)).filter fun k => keepT z ms k.2))) := fun e => by
          rw [upd_same, take_more hk0, List.filter_append, rk_app]
          rw [show [k0].filter (fun k => keepT z ms k.2) = [k0] by rw [List.filter_cons, if_pos e]; rfl]
          rfl
        have gone : keepT z ms k0.2 = false → H2 D = some (.lst (rk ((ks.take (i + 1)).filter fun k => keepT z ms k.2))) := fun e => by
          rw [hkD, take_more hk0, List.filter_append]
          rw [show [k0].filter (fun k => keepT z ms k.2) = [] by rw [List.filter_cons, if_neg (by rw [e]; exact Bool.false_ne_true)]; rfl, List.append_nil]
        have hlen : (rk ((ks.take i).filter fun k => keepT z ms k.2)).length < sizeLine := by
          rw [rk_len]
          have := List.length_filter_le (fun k : Addr × List Str => keepT z ms k.2) (ks.take i)
          rw [List.length_take] at this
          omega
        refine ⟨k0.1, _, rfl, .inr (SqT.of ht), rfl, strs_flat [a, b], _, rfl, ?_⟩
        rw [inV_str]
        cases c1 : decide (z ∈ [a, b]) with
        | false =>
          refine ifT rfl ?_
          refine ifT rfl ?_
          exact ⟨_, rfl, _, hkD, hlen, kept (by rw [eT, c1]; rfl), same_own S2 hD⟩
        | true =>
          refine ifF rfl ?_
          walk_at "rr"
          refine ⟨k0.1, _, 0, .str a, rfl, rfl, SqT.of ht, rfl, ?_⟩
          walk_at "rr"
          refine ⟨mv, _, rfl, .inr (SqT.of hmv), rfl, strs_flat ms, _, rfl, ?_⟩
          rw [inV_str]
          cases c2 : decide (a ∈ ms) with
          | true =>
            refine ifF rfl ?_
            refine ifF rfl ?_
            exact ⟨gone (by rw [eT, c1, c2]; rfl), S2⟩
          | false =>
            refine ifT rfl ?_
            walk_at "rr"
            refine ⟨k0.1, _, 1, .str b, rfl, rfl, SqT.of ht, rfl, ?_⟩
            walk_at "rr"
            refine ⟨mv, _, rfl, .inr (SqT.of hmv), rfl, strs_flat ms, _, rfl, ?_⟩
            rw [inV_str]
            cases c3 : decide (b ∈ ms) with
            | true =>
              refine ifF rfl ?_
              exact ⟨gone (by rw [eT, c1, c2, c3]; rfl), S2⟩
            | false =>
              refine ifT rfl ?_
              exact ⟨_, rfl, _, hkD, hlen, kept (by rw [eT, c1, c2, c3]; rfl), same_own S2 hD⟩
      · rintro H2 ⟨hkD, S2⟩
        rw [rk_len, List.take_length] at hkD
        obtain ⟨kf, ekf⟩ : ∃ X, ks.filter (fun k => keepT z ms k.2) = X := ⟨_, rfl⟩
        have hkf : ∀ q ∈ kf, q ∈ ks := fun q hq => by rw [← ekf] at hq; exact (List.mem_filter.mp hq).1
        have hkm : kf.map (·.2) = (ks.map (·.2)).filter (keepT z ms) := by rw [← ekf, List.filter_map]; rfl
        have hkfl : kf.length ≤ 50 := by rw [← ekf]; exact Nat.le_trans (List.length_filter_le _ _) hkl
        rw [ekf] at hkD
        walk_at "rr"
        have S02 : Same H H2 := S1.trans S2
        have hkT : TK H2 kf := fun q hq => S02 _ _ (hk q (hkf q hq))
        refine ⟨_, _, rfl, dget_places (S02 _ _ hd), ?_⟩
        walk_at "rr"
        refine ⟨⟨_, SqT.of (S02 _ _ hm)⟩, fun D2 hD2 => ?_⟩
        refine lc_tup (K := K) (a := mv) (xs := ms.map V.str) (PvT H2 D2 (ms.map fun o => [n, o])) (PvT.start hD2) (fun i H3 _ hP => SqT.of (hP.s _ _ (S02 _ _ hm))) ?_ ?_
        · rintro j x H3 hx hP
          obtain ⟨o, ho, rfl⟩ := str_at hx
          walk_at "rr"
          refine ⟨rfl, ?_⟩
          walk_at "rr"
          refine ⟨h2z, fun t2 ht2 => ?_⟩
          exact hP.put (t := [n, o]) hD2 (by rw [List.length_map]; omega) (by rw [List.getElem?_map, ho]; rfl) ht2
        · rintro H3 hP
          have S3 := hP.s
          rw [List.length_map, ← List.length_map (as := ms) (f := fun o => [n, o])] at hP
          obtain ⟨kt2, hkD2, hkt2, hkm2⟩ := hP.fin
          have hkl2 : kt2.length = ms.length := by have := congrArg List.length hkm2; rwa [List.length_map, List.length_map] at this
          walk_at "rr"
          refine ⟨D, D2, rk kf, rk kt2, rfl, rfl, S3 _ _ hkD, hkD2, by rw [rk_len, rk_len]; omega, fun c hc => ?_⟩
          rw [← rk_app]
          have S4 := same_new (o := .lst (rk (kf ++ kt2))) hc
          obtain ⟨H4, e4⟩ : ∃ X, upd H3 c (.lst (rk (kf ++ kt2))) = X := ⟨_, rfl⟩
          have h4c : H4 c = some (.lst (rk (kf ++ kt2))) := by rw [← e4, upd_same]
          rw [e4] at S4 ⊢
          walk_at "rr"
          refine ⟨h2z, fun t2 ht2 => ?_⟩
          have S5 := same_new (o := .tup [.str z, .str n]) ht2
          walk_at "rr"
          refine ⟨(by omega : (1 : Nat) ≤ sizeLine), fun q hq => ?_⟩
          have S6 := same_new (o := .lst [.ref t2]) hq
          obtain ⟨H6, e6⟩ : ∃ X, upd (upd H4 t2 (.tup [.str z, .str n])) q (.lst [.ref t2]) = X := ⟨_, rfl⟩
          have S46 : Same H4 H6 := by rw [← e6]; exact S5.trans S6
          have h6q : H6 q = some (.lst [.ref t2]) := by rw [← e6, upd_same]
          have h6t : H6 t2 = some (.tup [.str z, .str n]) := by rw [← e6]; exact S6 _ _ upd_same
          rw [e6]
          walk_at "rr"
          refine ⟨c, q, rk (kf ++ kt2), [.ref t2], rfl, rfl, S46 _ _ h4c, h6q, by rw [rk_len, List.length_append]; show _ + 1 ≤ _; omega, fun c2 hc2 => ?_⟩
          have S7 := same_new (o := .lst (rk (kf ++ kt2) ++ [.ref t2])) hc2
          have S26 : Same H2 H6 := (S3.trans S4).trans S46
          have S06 : Same H H6 := S02.trans S26
          walk_at "rr"
          refine ⟨l1, c2, ss, kf ++ kt2 ++ [(t2, [z, n])], rfl, .inl (S7 _ _ (S06 _ _ hl1)), by rw [upd_same, rk_app _ [(t2, [z, n])]]; rfl, fun q' hq' => ?_, fun q' hq' => ?_, by omega, by rw [List.length_append, List.length_append]; show _ + 1 < 64; omega, fun r H8 ss2 ks2 hr0 S8 hpl hof => ?_⟩
          · rcases List.mem_append.mp hq' with hq' | hq'
            · rcases List.mem_append.mp hq' with hq' | hq'
              · exact S7 _ _ (S26 _ _ (hkT q' hq'))
              · exact S7 _ _ (S46 _ _ (S4 _ _ (hkt2 q' hq')))
            · rw [List.mem_singleton.mp hq']
              exact S7 _ _ h6t
          · rcases List.mem_append.mp hq' with hq' | hq'
            · rcases List.mem_append.mp hq' with hq' | hq'
              · exact h2 q' (hkf q' hq')
              · have h0 : q'.2 ∈ kt2.map (·.2) := List.mem_map_of_mem hq'
                rw [hkm2] at h0
                obtain ⟨o, _, e⟩ := List.mem_map.mp h0
                exact ⟨n, o, e.symm⟩
            · rw [List.mem_singleton.mp hq']
              exact ⟨z, n, rfl⟩
          · rw [List.map_append, List.map_append, hkm, hkm2] at hof
            exact k r H8 ss2 ks2 ((S06.trans S7).none hr0) ((S06.trans S7).trans S8) hpl hof
end
end K5
namespace K5
open PySem PySem.Spec PyProof.Rows L2 RS RZ
local macro_rules | `(tactic| walk_at "r1") => `(tactic| first | refine ⟨_, rfl, ?_⟩ | refine ⟨_, _, rfl, rfl, ?_⟩ | refine ⟨_, _, rfl, ?_⟩ | refine .inl ⟨_, rfl, ?_⟩ | refine .inr ⟨_, rfl, ?_⟩ | refine ⟨⟨_, rfl⟩, ?_⟩)
local macro_rules | `(tactic| walk_at "rr") => `(tactic| repeat walk_at "r1")
/-! ### a tuple of texts in a list of these -/
def tD (t : List Str) : PyData := .tuple (t.map PyData.str)
theorem eqv_str (a b : Str) : PyData.eqv (.str a) (.str b) = decide (a = b) := by
  unfold PyData.eqv
  by_cases h : a = b
  · subst h
    rw [decide_eq_true rfl]
    exact beq_self_eq_true a
  · rw [decide_eq_false h]
    exact beq_eq_false_iff_ne.mpr h
theorem eqv_strs : ∀ a b : List Str, PyData.eqvAll (a.map PyData.str) (b.map PyData.str) = decide (a = b)
  | [], [] => by unfold PyData.eqvAll; rfl
  | [], _ :: _ => by unfold PyData.eqvAll; rfl
  | _ :: _, [] => by unfold PyData.eqvAll; rfl
  | x :: a, y :: b => by
    rw [List.map_cons, List.map_cons]
    unfold PyData.eqvAll
    rw [eqv_str, eqv_strs a b]
    by_cases h : x = y
    · subst h
      rw [decide_eq_true rfl, Bool.true_and]
      exact decide_eq_decide.mpr ⟨fun e => by rw [e], fun e => (List.cons.inj e).2⟩
    · rw [decide_eq_false h, Bool.false_and]
      exact (decide_eq_false fun e => h (List.cons.inj e).1).symm
theorem eqv_tD (a b : List Str) : PyData.eqv (tD a) (tD b) = decide (a = b) := by
  unfold tD PyData.eqv
  exact eqv_strs a b
def okT (t : List Str) : Prop := ∀ x ∈ t, PyData.strOk x = true
theorem strs_ok : ∀ t : List Str, okT t → PyData.canLayAll0 (t.map PyData.str) = true ∧ PyData.depthAll (t.map PyData.str) = 0
  | [], _ => ⟨by unfold PyData.canLayAll0; rfl, by unfold PyData.depthAll; rfl⟩
  | x :: t, h => by
    obtain ⟨h1, h2⟩ := strs_ok t fun y hy => h y (List.mem_cons_of_mem _ hy)
    rw [List.map_cons]
    unfold PyData.canLayAll0 PyData.depthAll
    rw [h1, h2]
    unfold PyData.canLay0 PyData.depth
    exact ⟨by rw [h x List.mem_cons_self]; rfl, rfl⟩
theorem tD_ok (t : List Str) (h : okT t) : (tD t).canLay0 = true ∧ (tD t).depth = 1 := by
  obtain ⟨h1, h2⟩ := strs_ok t h
  unfold tD PyData.canLay0 PyData.depth
  exact ⟨h1, by rw [h2]⟩
theorem tDs_ok : ∀ ts : List (List Str), (∀ t ∈ ts, okT t) → PyData.canLayAll0 (ts.map tD) = true ∧ PyData.depthAll (ts.map tD) ≤ 1
  | [], _ => ⟨by unfold PyData.canLayAll0; rfl, by unfold PyData.depthAll; exact Nat.zero_le _⟩
  | t :: ts, h => by
    obtain ⟨h1, h2⟩ := tDs_ok ts fun y hy => h y (List.mem_cons_of_mem _ hy)
    obtain ⟨h3, h4⟩ := tD_ok t (h t List.mem_cons_self)
    rw [List.map_cons]
    unfold PyData.canLayAll0 PyData.depthAll
    rw [h1, h3, h4]
    exact ⟨rfl, by omega⟩
theorem dp_strs {K : PySem.W.Frag} {H : Hp} : ∀ t : List Str, DpAll K H (t.map V.str) (t.map PyData.str)
  | [] => .nil
  | x :: t => .cons (.str x) (dp_strs t)
theorem dp_rk {K : PySem.W.Frag} {H : Hp} : ∀ ks : RefK, TK H ks → DpAll K H (rk ks) ((ks.map (·.2)).map tD)
  | [], _ => .nil
  | k :: ks, h => .cons (.tup (SqT.of (h k List.mem_cons_self)) (dp_strs k.2)) (dp_rk ks fun q hq => h q (List.mem_cons_of_mem _ hq))
theorem any_tD (t : List Str) : ∀ ts : List (List Str), (ts.map tD).any (fun z => PyData.eqv z (tD t)) = decide (t ∈ ts)
  | [] => rfl
  | u :: ts => by
    rw [List.map_cons, List.any_cons, any_tD t ts, eqv_tD]
    by_cases h : u = t
    · rw [decide_eq_true h, Bool.true_or, decide_eq_true (List.mem_cons.mpr (.inl h.symm))]
    · rw [decide_eq_false h, Bool.false_or]
      exact decide_eq_decide.mpr ⟨fun m => List.mem_cons_of_mem _ m, fun m => (List.mem_cons.mp m).resolve_left (Ne.symm h)⟩
def rNinTT : R2 := fun x y H Q => ∃ (a l : Addr) (t : List Str) (ks : RefK), x = .ref a ∧ y = .ref l ∧ H a = some (.tup (t.map V.str)) ∧ H l = some (.lst (rk ks)) ∧ TK H ks ∧ okT t ∧ (∀ k ∈ ks, okT k.2) ∧ Q (.bl (!decide (t ∈ ks.map (·.2)))) H
theorem op_notInTT {X : Cx} (hu : X.A.units + 65 < cLine) : OpR X (compareOp .NotIn) rNinTT := by
  intro pins s σ H x y v u Q I rx ry h
  obtain ⟨a, l, t, ks, rfl, rfl, ha, hl, hk, ot, ok, q⟩ := h
  have ok2 : ∀ u ∈ ks.map (·.2), okT u := fun u hu => by
    obtain ⟨k, hk, rfl⟩ := List.mem_map.mp hu
    exact ok k hk
  refine op_notInD hu pins s σ H _ _ v u Q I rx ry ⟨tD t, (ks.map (·.2)).map tD, .tup (SqT.of ha) (dp_strs t), .lst (SqL.of hl) (dp_rk ks hk), ?_, ?_, ?_⟩
  · obtain ⟨h1, h2⟩ := tD_ok t ot
    unfold SeqAt.shaped
    rw [h1, h2]
    rfl
  · obtain ⟨h1, h2⟩ := tDs_ok _ ok2
    unfold SeqAt.shaped PyData.canLay0 PyData.depth
    rw [h1, Bool.true_and]
    exact decide_eq_true (by omega)
  · rw [any_tD]
    exact q
end K5
namespace K5
open PySem PySem.Spec PyProof.Rows L2 RS RZ
local macro_rules | `(tactic| walk_at "r1") => `(tactic| first | refine ⟨_, rfl, ?_⟩ | refine ⟨_, _, rfl, rfl, ?_⟩ | refine ⟨_, _, rfl, ?_⟩ | refine .inl ⟨_, rfl, ?_⟩ | refine .inr ⟨_, rfl, ?_⟩ | refine ⟨⟨_, rfl⟩, ?_⟩)
local macro_rules | `(tactic| walk_at "rr") => `(tactic| repeat walk_at "r1")
/-! ### webs, by themselves -/
structure Wb (ss : List Str) (ts : List (List Str)) : Prop where
  as : AscS ss
  at_ : Asc ts
  el : ∀ t ∈ ts, ∃ a b, t = [a, b] ∧ ltS a b = true ∧ a ∈ ss ∧ b ∈ ss
theorem AscS.nodup {ss : List Str} (h : AscS ss) : ss.Nodup := h.imp fun hl e => by
  rw [e, ltS_irrefl] at hl
  cases hl
theorem Asc.nodup {ts : List (List Str)} (h : Asc ts) : ts.Nodup := List.Pairwise.imp (fun hl e => by
  rw [e, lexT_irrefl] at hl
  cases hl) h
theorem nodup_le {α : Type} [DecidableEq α] : ∀ {xs ys : List α}, xs.Nodup → (∀ x ∈ xs, x ∈ ys) → xs.length ≤ ys.length
  | [], _, _, _ => Nat.zero_le _
  | x :: xs, ys, nd, h => by
    obtain ⟨n1, n2⟩ := List.nodup_cons.mp nd
    have hx := h x List.mem_cons_self
    have := nodup_le (ys := ys.erase x) n2 fun y hy => (List.mem_erase_of_ne (fun e => n1 (by rw [← e]; exact hy))).mpr (h y (List.mem_cons_of_mem _ hy))
    rw [List.length_erase_of_mem hx] at this
    have hp := List.length_pos_of_mem hx
    rw [List.length_cons]
    omega
theorem tieS_lt {a b : Str} (h : ltS a b = true) : tieS a b = [a, b] := by
  unfold tieS minS maxS
  rw [if_pos h, if_neg (by rw [ltS_asym h]; exact Bool.false_ne_true)]
theorem tieS_gt {a b : Str} (h : ltS b a = true) : tieS a b = [b, a] := by
  unfold tieS minS maxS
  rw [if_pos h, if_neg (by rw [ltS_asym h]; exact Bool.false_ne_true)]
theorem lt_or {a b : Str} (h : a ≠ b) : ltS a b = true ∨ ltS b a = true := by
  cases e : ltS a b with
  | true => exact .inl rfl
  | false =>
    cases e2 : ltS b a with
    | true => exact .inr rfl
    | false => exact absurd (ltS_total e e2) h
theorem tieS_ne {a b : Str} (h : a ≠ b) : ∃ x y, tieS a b = [x, y] ∧ ltS x y = true ∧ ((x = a ∧ y = b) ∨ (x = b ∧ y = a)) := by
  rcases lt_or h with e | e
  · exact ⟨a, b, tieS_lt e, e, .inl ⟨rfl, rfl⟩⟩
  · exact ⟨b, a, tieS_gt e, e, .inr ⟨rfl, rfl⟩⟩
theorem Wb.of {ss ss' : List Str} {ts ts' : List (List Str)} (h : PlnOf ss ts ss' ts') (hne : ∀ t ∈ ts, ∃ a b, t = [a, b] ∧ a ≠ b) : Wb ss' ts' := by
  refine ⟨h.as, h.at_, fun t ht => ?_⟩
  obtain ⟨u, hu, rfl⟩ := (h.mt t).mp ht
  obtain ⟨a, b, rfl, hab⟩ := hne u hu
  have ha : a ∈ ss' := (h.ms a).mpr (.inr ⟨_, hu, List.mem_cons_self⟩)
  have hb : b ∈ ss' := (h.ms b).mpr (.inr ⟨_, hu, List.mem_cons_of_mem _ List.mem_cons_self⟩)
  obtain ⟨x, y, e, hl, h3⟩ := tieS_ne hab
  refine ⟨x, y, e, hl, ?_⟩
  rcases h3 with ⟨rfl, rfl⟩ | ⟨rfl, rfl⟩
  · exact ⟨ha, hb⟩
  · exact ⟨hb, ha⟩
theorem pairs_mem : ∀ {ss : List Str}, AscS ss → ∀ {a b : Str}, a ∈ ss → b ∈ ss → ltS a b = true → [a, b] ∈ pairsS ss
  | [], _, _, _, h, _, _ => nomatch h
  | x :: ss, as, a, b, ha, hb, hl => by
    obtain ⟨h1, h2⟩ := List.pairwise_cons.mp as
    rcases List.mem_cons.mp ha with rfl | ha
    · rcases List.mem_cons.mp hb with rfl | hb
      · rw [ltS_irrefl] at hl
        cases hl
      · exact List.mem_append_left _ (List.mem_map.mpr ⟨b, hb, tieS_lt hl⟩)
    · rcases List.mem_cons.mp hb with e | hb
      · have := h1 a ha
        rw [e, ltS_asym this] at hl
        cases hl
      · exact List.mem_append_right _ (pairs_mem h2 ha hb hl)
theorem pairs_el : ∀ {ss : List Str}, ∀ t ∈ pairsS ss, ∃ a b, t = tieS a b ∧ a ∈ ss ∧ b ∈ ss ∧ (ss.Nodup → a ≠ b)
  | [], t, h => nomatch h
  | x :: ss, t, h => by
    rcases List.mem_append.mp h with h | h
    · obtain ⟨b, hb, rfl⟩ := List.mem_map.mp h
      exact ⟨x, b, rfl, List.mem_cons_self, List.mem_cons_of_mem _ hb, fun nd e => (List.nodup_cons.mp nd).1 (by rw [e]; exact hb)⟩
    · obtain ⟨a, b, e, ha, hb, hn⟩ := pairs_el t h
      exact ⟨a, b, e, List.mem_cons_of_mem _ ha, List.mem_cons_of_mem _ hb, fun nd => hn (List.nodup_cons.mp nd).2⟩
theorem pairs_len : ∀ ss : List Str, 2 * (pairsS ss).length = ss.length * (ss.length - 1)
  | [] => rfl
  | x :: ss => by
    have ih := pairs_len ss
    show 2 * (ss.map (tieS x) ++ pairsS ss).length = (ss.length + 1) * (ss.length + 1 - 1)
    rw [List.length_append, List.length_map, Nat.mul_add, ih, Nat.add_sub_cancel]
    cases e : ss.length with
    | zero => rfl
    | succ n =>
      rw [Nat.add_sub_cancel, Nat.mul_comm 2, ← Nat.mul_add, Nat.mul_comm (n + 1 + 1), Nat.add_comm 2 n]
theorem Wb.few {ss : List Str} {ts : List (List Str)} (h : Wb ss ts) : 2 * ts.length ≤ ss.length * (ss.length - 1) := by
  rw [← pairs_len]
  refine Nat.mul_le_mul_left 2 (nodup_le (Asc.nodup h.at_) fun t ht => ?_)
  obtain ⟨a, b, rfl, hl, ha, hb⟩ := h.el t ht
  exact pairs_mem h.as ha hb hl
theorem Wb.few7 {ss : List Str} {ts : List (List Str)} (h : Wb ss ts) (hs : ss.length ≤ 7) : ts.length ≤ 21 := by
  have h1 := h.few
  have h2 : ss.length * (ss.length - 1) ≤ 7 * 6 := Nat.mul_le_mul hs (by omega)
  omega
theorem Wb.two {ss : List Str} {ks : RefK} (h : Wb ss (ks.map (·.2))) : Two ks := fun k hk => by
  obtain ⟨a, b, e, _⟩ := h.el k.2 (List.mem_map_of_mem hk)
  exact ⟨a, b, e⟩
def names16 : List Str := ["a", "b", "c", "d", "e", "f", "g", "h", "k", "m", "place", "q", "tie", "zz", "zzzzzzzz", "ab"]
theorem names_nd : names16.Nodup := by decide +kernel
theorem names_ok : ∀ x ∈ names16, PyData.strOk x = true := by decide +kernel
theorem names_word : ∀ x ∈ names16, isNameV (.str x) = true := by decide +kernel
end K5
namespace K5
open PySem PySem.Spec PyProof.Rows L2 RS RZ
local macro_rules | `(tactic| walk_at "r1") => `(tactic| first | refine ⟨_, rfl, ?_⟩ | refine ⟨_, _, rfl, rfl, ?_⟩ | refine ⟨_, _, rfl, ?_⟩ | refine .inl ⟨_, rfl, ?_⟩ | refine .inr ⟨_, rfl, ?_⟩ | refine ⟨⟨_, rfl⟩, ?_⟩)
local macro_rules | `(tactic| walk_at "rr") => `(tactic| repeat walk_at "r1")
/-! ### _law_names, _law_drawn_step -/
structure spNames (vs : List V) (H : Hp) (Q : VK) (E : XK) : Prop where
  h : vs = [] ∧ ∀ p, H p = none → Q (.ref p) (upd H p (.lst (names16.map V.str)))
theorem perm_strs {zs : List V} {ys : List Str} (h : zs.Perm (ys.map V.str)) : ∃ l : List Str, zs = l.map V.str ∧ l.Perm ys := by
  let g : V → Str := fun v => match v with | .str x => x | _ => ""
  have hg : ∀ l : List Str, (l.map V.str).map g = l := fun l => by
    rw [List.map_map]
    exact List.map_id l
  refine ⟨zs.map g, ?_, ?_⟩
  · have hall : ∀ v ∈ zs, V.str (g v) = v := fun v hv => by
      obtain ⟨x, _, rfl⟩ := List.mem_map.mp (h.mem_iff.mp hv)
      rfl
    clear h
    induction zs with
    | nil => rfl
    | cons v zs ih =>
      rw [List.map_cons, List.map_cons, hall v List.mem_cons_self, ← ih fun u hu => hall u (List.mem_cons_of_mem _ hu)]
  · have := h.map g
    rw [hg] at this
    exact this
structure spStep (vs : List V) (H : Hp) (Q : VK) (E : XK) : Prop where
  h : ∃ (d p : Addr) (nw : V) (ss : List Str) (ks : RefK), vs = [.ref d, .ref p, nw] ∧ Dice H d ∧ Pln H p ss ks ∧ Wb ss (ks.map (·.2)) ∧ (∀ x ∈ ss, PyData.strOk x = true) ∧ ss.length ≤ 7 ∧ (nw = .non ∨ ∃ n, nw = .str n) ∧
    (∀ H', Go d H H' → Q .non H') ∧
    (∀ (st : Addr) (H' : Hp) (a b : Str), Go d H H' → H st = none → H' st = some (.tup [.str "tie", .str a, .str b]) → a ∈ ss → b ∈ ss → ltS a b = true → ¬ [a, b] ∈ ks.map (·.2) → Q (.ref st) H') ∧
    (∀ (st mv : Addr) (H' : Hp) (z n : Str) (ms rest : List Str), nw = .str n → Go d H H' → H st = none → H' st = some (.tup [.str "split", .str z, .str n, .ref mv]) → H' mv = some (.tup (ms.map V.str)) → z ∈ ss → (ms ++ rest).Perm (besS (ks.map (·.2)) z) → 2 ≤ ms.length → 2 ≤ rest.length → sortedS ms = true → Q (.ref st) H')
section
variable {P : Program} {w : World} {K : PySem.W.Frag} {mg : Str → Option Value} {base : Heap}
theorem sc_names : FnScope [] [] (defScope s_law_names) := ⟨rfl, rfl, rfl, by decide +kernel, rfl, by decide +kernel, by decide +kernel⟩
theorem ok_law_names {f : Addr} {fd : FuncData} (F : Fun K "_law_names" "_law_names" s_law_names f fd) (T : Txt K mg) : FnOk P w K mg base CX0 1 f fd [] spNames := by
  refine F.ok sc_names (fun vs H Q E h => ?_) (fun cdv A outer s H vs Q E hr h => ?_)
  · obtain ⟨rfl, _⟩ := h
    rfl
  · obtain ⟨rfl, k⟩ := h
    refine ⟨_, pss_one (ps_ret (pe_lst (pa_cons pe_str (pa_cons pe_str (pa_cons pe_str (pa_cons pe_str (pa_cons pe_str (pa_cons pe_str (pa_cons pe_str (pa_cons pe_str (pa_cons pe_str (pa_cons pe_str (pa_cons pe_str (pa_cons pe_str (pa_cons pe_str (pa_cons pe_str (pa_cons pe_str (pa_cons pe_str pa_nil)))))))))))))))))), ?_⟩
    walk_at "rr"
    exact ⟨show (16 : Nat) ≤ sizeLine by decide, fun p hp => k p hp⟩
theorem sc_step : FnScope ["dice", "plain", "new", "free", "tie", "wide", "place", "some", "moved", "a", "b"] ["dice", "plain", "new"] (defScope s_law_drawn_step) := ⟨rfl, rfl, rfl, by decide +kernel, rfl, by decide +kernel, by decide +kernel⟩
theorem ok_law_drawn_step {f : Addr} {fd : FuncData} (F : Fun K "_law_drawn_step" "_law_drawn_step" s_law_drawn_step f fd) (T : Txt K mg) (DR : Dfn P w K mg base "_law_roll" 1 ["dice", "total"] spRoll) (DP : Dfn P w K mg base "_law_pick" 2 ["dice", "items"] spPick)
    (DM : Dfn P w K mg base "_law_mixed" 2 ["dice", "items"] spMixed) (DA : Dfn P w K mg base "_law_pairs" 2 ["places"] spPairs) (DB : Dfn P w K mg base "_law_beside" 1 ["plain", "place"] spBeside) : FnOk P w K mg base CX0 3 f fd ["dice", "plain", "new"] spStep := by
  refine F.ok sc_step (fun vs H Q E h => ?_) (fun cdv A outer s H vs Q E hr h => ?_)
  · obtain ⟨d, p, nw, ss, ks, rfl, _⟩ := h
    rfl
  · obtain ⟨d, p, nw, ss, ks, rfl, hd, hp, hw, hok, hsl, hnw, k0, k1, k2⟩ := h
    have hu := hu_of hr
    have hu0 := Nat.lt_of_succ_lt hu
    have hu65 := Nat.lt_of_le_of_lt (Nat.add_le_add_left (by decide : 65 ≤ 200) _) (Nat.lt_of_le_of_lt (Nat.add_le_add_right (Nat.le_add_right _ (16 * 2)) 200) hr.un)
    have hr1 := hr.mono (by decide : 1 ≤ 2)
    refine ⟨_, pss_cons (ps_setLc (i := 3) (own := [("tie", 4)]) (g := gName 4) rfl sc_step.nd rfl rfl (sw_true rfl rfl rfl (by decide +kernel)) (pi_list (pe_d DA hr (pa_cons (pe_dget hu (pv 1) pe_str (fun _ _ => rfl)) pa_nil))) (blkOk_by (own := [("tie", 4)]) (N := ["dice", "plain", "new", "free", "tie", "wide", "place", "some", "moved", "a", "b"]) (sc := defScope s_law_drawn_step) (by decide +kernel))
          (fun _ _ _ _ _ => pg_name (i := 4) sc_step.nd rfl (Or.inl rfl))
          (fun _ _ _ _ _ => pts_one (pt_cmpR (show OpR _ _ rNinTT from op_notInTT hu65) (pv 4) (show PE _ _ (tDGet (tVar 1) (tC (.str "ties"))) from pe_dget hu (pv 1) pe_str (fun _ _ => rfl)) (by rfl)))
          (fun _ _ _ _ _ => pv 4))
      (pss_cons (ps_setLc (i := 5) (own := [("place", 6)]) (g := gName 6) rfl sc_step.nd rfl rfl (sw_true rfl rfl rfl (by decide +kernel)) (pi_list (pe_dget hu (pv 1) pe_str (fun _ _ => rfl))) (blkOk_by (own := [("place", 6)]) (N := ["dice", "plain", "new", "free", "tie", "wide", "place", "some", "moved", "a", "b"]) (sc := defScope s_law_drawn_step) (by decide +kernel))
          (fun _ _ _ _ _ => pg_name (i := 6) sc_step.nd rfl (Or.inl rfl))
          (fun _ _ _ _ _ => pts_one (pt_cmpR op_gt (show PE _ _ (tCB (rLen K) (tCons (tCall spBeside [] E0 (tCons (tVar 1) (tCons (tVar 6) tNil))) tNil)) from pe_callB call_len (by rfl) T.n_len (by decide +kernel) (pa_cons (pe_d DB hr1 (pa_cons (pv 1) (pa_cons (pv 6) pa_nil))) pa_nil)) pe_int (nomark _)))
          (fun _ _ _ _ _ => pv 6))
      (pss_cons (ps_if (PW.pt (pw_and (pt_cmpR (op_neNil hu0) (pv 5) (pe_lst pa_nil) (nomark _)) (pw_and (pt_cmpR op_notN (pv 2) pe_non (nomark _)) (pw_and1 (PW.pt (pw_or (pt_cmpR (op_eqNil hu0) (pv 3) (pe_lst pa_nil) (nomark _)) (pw_or1 (pt_cmpR op_eq (pe_d DR hr1 (pa_cons (pv 0) (pa_cons pe_int pa_nil))) pe_int (nomark _)))))))))
          (pss_cons (ps_set (i := 6) sc_step.nd rfl (Or.inl rfl) (pe_d DP hr (pa_cons (pv 0) (pa_cons (pv 5) pa_nil))))
          (pss_cons (ps_set (i := 7) sc_step.nd rfl (Or.inl rfl) (pe_d DM hr (pa_cons (pv 0) (pa_cons (pe_d DB hr1 (pa_cons (pv 1) (pa_cons (pv 6) pa_nil))) pa_nil))))
          (pss_cons (ps_set (i := 8) sc_step.nd rfl (Or.inl rfl) (pe_slice sl_list (pv 7) po_none (po_some (pe_op op_add pe_int (pe_d DR hr1 (pa_cons (pv 0) (pa_cons (pe_op op_sub (pe_callB call_len (by rfl) T.n_len (by decide +kernel) (pa_cons (pv 7) pa_nil)) pe_int) pa_nil)))))))
          (pss_one (ps_ret (pe_tup (pa_cons pe_str (pa_cons (pv 6) (pa_cons (pv 2) (pa_cons (pe_callTy call_tuple_of (by rfl) T.n_tuple (by decide +kernel) (pa_cons (pe_callB cr_sortedS (by rfl) T.n_sorted (by decide +kernel) (pa_cons (pv 8) pa_nil)) pa_nil)) pa_nil)))))))))) pss_nil)
      (pss_cons (ps_if (pt_cmpR (op_eqNil hu0) (pv 3) (pe_lst pa_nil) (nomark _)) (pss_one (ps_ret pe_non)) pss_nil)
      (pss_cons (ps_asg (pe_d DP hr (pa_cons (pv 0) (pa_cons (pv 3) pa_nil))) (pg_tup (n := 2) rfl (pgs_cons (pg_name (i := 9) sc_step.nd rfl (Or.inl rfl)) (pgs_cons (pg_name (i := 10) sc_step.nd rfl (Or.inl rfl)) pgs_nil))))
      (pss_one (ps_ret (pe_tup (pa_cons pe_str (pa_cons (pv 9) (pa_cons (pv 10) pa_nil)))))))))), ?_⟩
    have hz : (1000 : Nat) < sizeLine := line1000
    have hpl := hp
    obtain ⟨⟨l1, l2, hpd, hl1, hl2⟩, hk⟩ := hp
    walk_at "rr"
    refine ⟨_, _, rfl, dget_places hpd, ?_⟩
    walk_at "rr"
    refine ⟨l1, ss, rfl, .inl hl1, by omega, fun lp H1 kp hlp S1 hlp1 hkp pm srt => ?_⟩
    have few := hw.few7 hsl
    rw [List.length_map] at few
    have few2 : kp.length ≤ 21 := by
      have h1 := pm.length_eq
      rw [List.length_map] at h1
      have h2 := pairs_len ss
      have h3 : ss.length * (ss.length - 1) ≤ 7 * 6 := Nat.mul_le_mul hsl (by omega)
      omega
    have okk : ∀ k ∈ ks, okT k.2 := fun k hk => by
      obtain ⟨a, b, e, _, ha, hb⟩ := hw.el k.2 (List.mem_map_of_mem hk)
      intro x hx
      rw [e] at hx
      rcases List.mem_cons.mp hx with rfl | hx
      · exact hok _ ha
      · rw [List.mem_singleton.mp hx]
        exact hok _ hb
    have hkpE : ∀ k ∈ kp, ∃ a b, k.2 = [a, b] ∧ ltS a b = true ∧ a ∈ ss ∧ b ∈ ss := fun k hk => by
      obtain ⟨a, b, e, ha, hb, hne⟩ := pairs_el k.2 (pm.mem_iff.mp (List.mem_map_of_mem hk))
      obtain ⟨x, y, e2, hl, h3⟩ := tieS_ne (hne hw.as.nodup)
      refine ⟨x, y, by rw [e, e2], hl, ?_⟩
      rcases h3 with ⟨rfl, rfl⟩ | ⟨rfl, rfl⟩
      · exact ⟨ha, hb⟩
      · exact ⟨hb, ha⟩
    have okp : ∀ k ∈ kp, okT k.2 := fun k hk => by
      obtain ⟨a, b, e, _, ha, hb⟩ := hkpE k hk
      intro x hx
      rw [e] at hx
      rcases List.mem_cons.mp hx with rfl | hx
      · exact hok _ ha
      · rw [List.mem_singleton.mp hx]
        exact hok _ hb
    have hk1 := hk.same S1
    walk_at "rr"
    refine ⟨⟨_, SqL.of hlp1⟩, fun D hD => ?_⟩
    refine lc_list (K := K) (a := lp) (xs := rk kp) (fun i H2 => H2 D = some (.lst (rk ((kp.take i).filter fun k => !decide (k.2 ∈ ks.map (·.2))))) ∧ Same H1 H2)
        ⟨upd_same, same_new hD⟩ (fun i H2 _ ⟨_, S2⟩ => SqL.of (S2 _ _ hlp1)) ?_ ?_
    · rintro i x H2 hx ⟨hkD, S2⟩
      obtain ⟨q0, hq0, rfl⟩ := rk_at hx
      have hmem := List.mem_of_getElem? hq0
      have hi := (List.getElem?_eq_some_iff.mp hq0).1
      have S02 := S1.trans S2
      walk_at "rr"
      refine ⟨rfl, ?_⟩
      walk_at "rr"
      refine ⟨_, _, rfl, dget_ties (S02 _ _ hpd), ?_⟩
      walk_at "rr"
      refine ⟨q0.1, l2, q0.2, ks, rfl, rfl, S2 _ _ (hkp q0 hmem), S02 _ _ hl2, hk.same S02, okp q0 hmem, okk, ?_⟩
      refine ⟨_, rfl, ?_⟩
      have hlen : (rk ((kp.take i).filter fun k => !decide (k.2 ∈ ks.map (·.2)))).length < sizeLine := by
        rw [rk_len]
        have := List.length_filter_le (fun k : Addr × List Str => !decide (k.2 ∈ ks.map (·.2))) (kp.take i)
        rw [List.length_take] at this
        omega
      refine ite2 (fun e => ?_) (fun e => ?_)
      · refine ⟨_, rfl, _, hkD, hlen, ?_, same_own S2 hD⟩
        rw [upd_same, take_more hq0, List.filter_append, rk_app]
        rw [show [q0].filter (fun k => !decide (k.2 ∈ ks.map (·.2))) = [q0] by rw [List.filter_cons, if_pos e]; rfl]
        rfl
      · refine ⟨?_, S2⟩
        rw [hkD, take_more hq0, List.filter_append]
        rw [show [q0].filter (fun k => !decide (k.2 ∈ ks.map (·.2))) = [] by rw [List.filter_cons, if_neg e]; rfl, List.append_nil]
    · rintro H2 ⟨hkD, S2⟩
      rw [rk_len, List.take_length] at hkD
      obtain ⟨kf, ekf⟩ : ∃ X, kp.filter (fun k => !decide (k.2 ∈ ks.map (·.2))) = X := ⟨_, rfl⟩
      rw [ekf] at hkD
      have hkfl : kf.length ≤ 21 := by rw [← ekf]; exact Nat.le_trans (List.length_filter_le _ _) few2
      have hkf : ∀ q ∈ kf, q ∈ kp ∧ ¬ q.2 ∈ ks.map (·.2) := fun q hq => by
        rw [← ekf] at hq
        obtain ⟨h1, h2⟩ := List.mem_filter.mp hq
        exact ⟨h1, by simpa using h2⟩
      have S02 := S1.trans S2
      have hkT : TK H2 kf := fun q hq => S2 _ _ (hkp q (hkf q hq).1)
      walk_at "rr"
      refine ⟨_, _, rfl, dget_places (S02 _ _ hpd), ?_⟩
      walk_at "rr"
      refine ⟨⟨_, SqL.of (S02 _ _ hl1)⟩, fun D2 hD2 => ?_⟩
      obtain ⟨wf, ewf⟩ : ∃ f : Str → Bool, (fun z => decide (3 < (besS (ks.map (·.2)) z).length)) = f := ⟨_, rfl⟩
      refine lc_list (K := K) (a := l1) (xs := ss.map V.str) (fun i H3 => H3 D2 = some (.lst (((ss.take i).filter wf).map V.str)) ∧ Same H2 H3)
        ⟨upd_same, same_new hD2⟩ (fun i H3 _ ⟨_, S3⟩ => SqL.of (S3 _ _ (S02 _ _ hl1))) ?_ ?_
      · rintro i x H3 hx ⟨hkD3, S3⟩
        obtain ⟨z, hz0, rfl⟩ := str_at hx
        have S03 := S02.trans S3
        walk_at "rr"
        refine ⟨rfl, ?_⟩
        walk_at "rr"
        refine ⟨p, z, ss, ks, rfl, hpl.same S03, hw.two, by omega, fun q H4 ys hq S4 hys pmy sty => ?_⟩
        walk_at "rr"
        refine ⟨_, ys.length, rfl, .inl ⟨_, SqL.of hys, by rw [List.length_map]⟩, ?_⟩
        walk_at "rr"
        have hlen : (((ss.take i).filter wf).map V.str).length < sizeLine := by
          rw [List.length_map]
          have := List.length_filter_le wf (ss.take i)
          rw [List.length_take] at this
          omega
        have e3 : decide ((3 : Int) < (ys.length : Int)) = wf z := by
          rw [← ewf, pmy.length_eq]
          exact decide_eq_decide.mpr ⟨fun h => by omega, fun h => by omega⟩
        rw [e3]
        refine ite2 (fun e => ?_) (fun e => ?_)
        · refine ⟨_, rfl, _, S4 _ _ hkD3, hlen, ?_, same_own (S3.trans S4) hD2⟩
          rw [upd_same, take_more hz0, List.filter_append, List.map_append]
          rw [show [z].filter wf = [z] by rw [List.filter_cons, if_pos e]; rfl]
          rfl
        · refine ⟨?_, S3.trans S4⟩
          rw [S4 _ _ hkD3, take_more hz0, List.filter_append]
          rw [show [z].filter wf = [] by rw [List.filter_cons, if_neg e]; rfl, List.append_nil]
      · rintro H3 ⟨hkD3, S3⟩
        rw [List.length_map, List.take_length] at hkD3
        obtain ⟨ws, ews⟩ : ∃ X, ss.filter wf = X := ⟨_, rfl⟩
        rw [ews] at hkD3
        have hws : ∀ z ∈ ws, z ∈ ss ∧ 4 ≤ (besS (ks.map (·.2)) z).length := fun z hz => by
          rw [← ews] at hz
          obtain ⟨h1, h2⟩ := List.mem_filter.mp hz
          rw [← ewf] at h2
          have := of_decide_eq_true h2
          exact ⟨h1, by omega⟩
        have hwl : ws.length ≤ 7 := by rw [← ews]; exact Nat.le_trans (List.length_filter_le _ _) hsl
        have S03 := S02.trans S3
        have g3 : Go d H H3 := (Go.refl hd).same S03
        have h3D : H3 D = some (.lst (rk kf)) := S3 _ _ hkD
        have hT3 : TK H3 kf := hkT.same S3
        walk_at "rr"
        refine ⟨Nat.zero_le _, fun e1 he1 => ?_⟩
        have S4 := same_new (o := .lst []) he1
        obtain ⟨H4, e4⟩ : ∃ X, upd H3 e1 (.lst []) = X := ⟨_, rfl⟩
        have h4e : H4 e1 = some (.lst []) := by rw [← e4, upd_same]
        rw [e4] at S4 ⊢
        have g4 := g3.same S4
        have h4D := S4 _ _ h3D
        have hT4 := hT3.same S4
        walk_at "rr"
        refine ⟨D2, e1, _, rfl, rfl, SqL.of (S4 _ _ hkD3), SqL.of h4e, ?_⟩
        walk_at "rr"
        refine ite2 (fun c1 => ?_) (fun c1 => ?_)
        · walk_at "rr"
          have hwne : ws ≠ [] := by
            rintro rfl
            cases c1
          rcases hnw with rfl | ⟨n, rfl⟩
          · refine ⟨rfl, _, rfl, ?_⟩
            refine ifF rfl ?_
            walk_at "rr"
            refine ⟨Nat.zero_le _, fun e5 he5 => ?_⟩
            have g6 := Go.new g4 (o := .lst []) he5
            have S6 := same_new (o := .lst []) he5
            have h6D := S6 _ _ h4D
            have hT6 := TK.same hT4 S6
            walk_at "rr"
            refine ⟨D, e5, _, rfl, rfl, SqL.of h6D, SqL.of upd_same, ?_⟩
            walk_at "rr"
            refine ite2 (fun c => ?_) (fun c => ?_)
            · walk_at "rr"
              exact k0 _ g6
            · walk_at "rr"
              refine pick_at g6.dice h6D (dice_ne_refs g6.dice h6D) (fun e => c (by rw [e]; rfl)) (by rw [rk_len]; omega) fun y H7 hy g7 => ?_
              obtain ⟨j, hj⟩ := List.getElem?_of_mem hy
              obtain ⟨q0, hq0, rfl⟩ := rk_at hj
              have hmem := List.mem_of_getElem? hq0
              obtain ⟨a, b, eab, hl, ha, hb⟩ := hkpE q0 (hkf q0 hmem).1
              have hnt := (hkf q0 hmem).2
              have h7 := hT6.go g6.dice g7 q0 hmem
              rw [eab] at h7 hnt
              refine ⟨q0.1, [.str a, .str b], rfl, SqT.of h7, rfl, ?_⟩
              walk_at "rr"
              refine ⟨(by omega : (3 : Nat) ≤ sizeLine), fun t ht => ?_⟩
              have g8 := g6.trans g7
              exact k1 t _ a b (g8.new ht) (g8.free ht) upd_same ha hb hl hnt
          · refine ⟨rfl, _, rfl, ?_⟩
            refine ifT rfl ?_
            walk_at "rr"
            refine ⟨Nat.zero_le _, fun e2 he2 => ?_⟩
            have S5 := same_new (o := .lst []) he2
            obtain ⟨H5, e5⟩ : ∃ X, upd H4 e2 (.lst []) = X := ⟨_, rfl⟩
            have h5e : H5 e2 = some (.lst []) := by rw [← e5, upd_same]
            rw [e5] at S5 ⊢
            have g5 := g4.same S5
            have h5D := S5 _ _ h4D
            have hT5 := hT4.same S5
            have h5D2 := S5 _ _ (S4 _ _ hkD3)
            walk_at "rr"
            refine ⟨D, e2, _, rfl, rfl, SqL.of h5D, SqL.of h5e, ?_⟩
            walk_at "rr"
            refine ite2 (fun c2 => ?_) (fun c2 => ?_)
            · walk_at "rr"
              refine pick_at (Go.dice g5) h5D2 (dice_ne_strs (Go.dice g5) h5D2) (fun e => hwne (List.map_eq_nil_iff.mp e)) (by rw [List.length_map]; omega) fun y H7 hy g7 => ?_
              obtain ⟨z, hz, rfl⟩ := List.mem_map.mp hy
              obtain ⟨hzs, hz4⟩ := hws z hz
              have g07 := Go.trans g5 g7
              walk_at "rr"
              refine ⟨p, z, ss, ks, rfl, hpl.go hd g07, hw.two, by omega, fun q H8 ys hq S8 hys pmy sty => ?_⟩
              have g08 := g07.same S8
              have hyl := pmy.length_eq
              have hyu : (besS (ks.map (·.2)) z).length ≤ 42 := by
                unfold besS
                rw [List.length_append]
                have h1 := filterMap_le (selA z) (ks.map (·.2))
                have h2 := filterMap_le (selB z) (ks.map (·.2))
                rw [List.length_map] at h1 h2
                omega
              walk_at "rr"
              refine ⟨d, q, ys.map V.str, g08.dice, rfl, hys, by rw [List.length_map]; omega, dice_ne_strs g08.dice hys, fun q2 zs H9 g9 hq2 hqd hq2l pm2 => ?_⟩
              obtain ⟨zs, rfl, pmz⟩ := perm_strs pm2
              have hzl := pmz.length_eq
              have g09 := g08.trans g9
              walk_at "rr"
              refine ⟨_, zs.length, rfl, .inl ⟨_, SqL.of hq2l, by rw [List.length_map]⟩, ?_⟩
              walk_at "rr"
              refine roll_go g09.dice (by omega) (by omega) fun j H10 j0 j1 g10 => ?_
              have h10 := g10.keep _ _ hqd hq2l
              have g010 := g09.trans g10
              obtain ⟨m, rfl⟩ : ∃ m : Nat, j = m := ⟨j.toNat, by omega⟩
              walk_at "rr"
              refine ⟨q2, _, rfl, SqL.of h10, fun c hc => ?_⟩
              rw [show ((2 : Int) + (m : Int)) = ((2 + m : Nat) : Int) by omega, cut_to, ← List.map_take]
              have hcD := same_new (o := .lst ((zs.take (2 + m)).map V.str)) hc
              have g11 := g010.new (o := .lst ((zs.take (2 + m)).map V.str)) hc
              walk_at "rr"
              refine ⟨c, _, rfl, SqL.of upd_same, by rw [List.length_take]; omega, fun vs v pmv srv hv => ?_⟩
              have g12 := g11.new (o := .lst (vs.map V.str)) hv
              walk_at "rr"
              refine ⟨v, _, rfl, .inl ⟨SqL.of upd_same, fun mv hmv => ?_⟩⟩
              have g13 := g12.new (o := .tup (vs.map V.str)) hmv
              walk_at "rr"
              refine ⟨(by omega : (4 : Nat) ≤ sizeLine), fun st hst => ?_⟩
              have hvl := pmv.length_eq
              rw [List.length_take] at hvl
              refine k2 st mv _ z n vs (zs.drop (2 + m)) rfl (g13.new hst) (g13.free hst) upd_same (same_new hst _ _ upd_same) hzs ?_ (by omega) (by rw [List.length_drop]; omega) srv
              exact (pmv.append_right _).trans (by rw [List.take_append_drop]; exact pmz.trans pmy)
            · walk_at "rr"
              refine roll_go g5.dice (by decide) (by decide) fun j H6 j0 j1 g6 => ?_
              have g56 := g5.trans g6
              have h6D := g6.keep _ _ (dice_ne_refs g5.dice h5D) h5D
              have hT6 := hT5.go g5.dice g6
              have h6D2 := g6.keep _ _ (dice_ne_strs g5.dice h5D2) h5D2
              walk_at "rr"
              refine ⟨rfl, _, rfl, ?_⟩
              refine ite2 (fun c3 => ?_) (fun c3 => ?_)
              · walk_at "rr"
                refine pick_at (Go.dice g56) h6D2 (dice_ne_strs (Go.dice g56) h6D2) (fun e => hwne (List.map_eq_nil_iff.mp e)) (by rw [List.length_map]; omega) fun y H7 hy g7 => ?_
                obtain ⟨z, hz, rfl⟩ := List.mem_map.mp hy
                obtain ⟨hzs, hz4⟩ := hws z hz
                have g07 := Go.trans g56 g7
                walk_at "rr"
                refine ⟨p, z, ss, ks, rfl, hpl.go hd g07, hw.two, by omega, fun q H8 ys hq S8 hys pmy sty => ?_⟩
                have g08 := g07.same S8
                have hyl := pmy.length_eq
                have hyu : (besS (ks.map (·.2)) z).length ≤ 42 := by
                  unfold besS
                  rw [List.length_append]
                  have h1 := filterMap_le (selA z) (ks.map (·.2))
                  have h2 := filterMap_le (selB z) (ks.map (·.2))
                  rw [List.length_map] at h1 h2
                  omega
                walk_at "rr"
                refine ⟨d, q, ys.map V.str, g08.dice, rfl, hys, by rw [List.length_map]; omega, dice_ne_strs g08.dice hys, fun q2 zs H9 g9 hq2 hqd hq2l pm2 => ?_⟩
                obtain ⟨zs, rfl, pmz⟩ := perm_strs pm2
                have hzl := pmz.length_eq
                have g09 := g08.trans g9
                walk_at "rr"
                refine ⟨_, zs.length, rfl, .inl ⟨_, SqL.of hq2l, by rw [List.length_map]⟩, ?_⟩
                walk_at "rr"
                refine roll_go g09.dice (by omega) (by omega) fun j H10 j0 j1 g10 => ?_
                have h10 := g10.keep _ _ hqd hq2l
                have g010 := g09.trans g10
                obtain ⟨m, rfl⟩ : ∃ m : Nat, j = m := ⟨j.toNat, by omega⟩
                walk_at "rr"
                refine ⟨q2, _, rfl, SqL.of h10, fun c hc => ?_⟩
                rw [show ((2 : Int) + (m : Int)) = ((2 + m : Nat) : Int) by omega, cut_to, ← List.map_take]
                have hcD := same_new (o := .lst ((zs.take (2 + m)).map V.str)) hc
                have g11 := g010.new (o := .lst ((zs.take (2 + m)).map V.str)) hc
                walk_at "rr"
                refine ⟨c, _, rfl, SqL.of upd_same, by rw [List.length_take]; omega, fun vs v pmv srv hv => ?_⟩
                have g12 := g11.new (o := .lst (vs.map V.str)) hv
                walk_at "rr"
                refine ⟨v, _, rfl, .inl ⟨SqL.of upd_same, fun mv hmv => ?_⟩⟩
                have g13 := g12.new (o := .tup (vs.map V.str)) hmv
                walk_at "rr"
                refine ⟨(by omega : (4 : Nat) ≤ sizeLine), fun st hst => ?_⟩
                have hvl := pmv.length_eq
                rw [List.length_take] at hvl
                refine k2 st mv _ z n vs (zs.drop (2 + m)) rfl (g13.new hst) (g13.free hst) upd_same (same_new hst _ _ upd_same) hzs ?_ (by omega) (by rw [List.length_drop]; omega) srv
                exact (pmv.append_right _).trans (by rw [List.take_append_drop]; exact pmz.trans pmy)
              · walk_at "rr"
                refine ⟨Nat.zero_le _, fun e5 he5 => ?_⟩
                have g6 := Go.new g56 (o := .lst []) he5
                have S6 := same_new (o := .lst []) he5
                have h6D := S6 _ _ h6D
                have hT6 := TK.same hT6 S6
                walk_at "rr"
                refine ⟨D, e5, _, rfl, rfl, SqL.of h6D, SqL.of upd_same, ?_⟩
                walk_at "rr"
                refine ite2 (fun c => ?_) (fun c => ?_)
                · walk_at "rr"
                  exact k0 _ g6
                · walk_at "rr"
                  refine pick_at g6.dice h6D (dice_ne_refs g6.dice h6D) (fun e => c (by rw [e]; rfl)) (by rw [rk_len]; omega) fun y H7 hy g7 => ?_
                  obtain ⟨j, hj⟩ := List.getElem?_of_mem hy
                  obtain ⟨q0, hq0, rfl⟩ := rk_at hj
                  have hmem := List.mem_of_getElem? hq0
                  obtain ⟨a, b, eab, hl, ha, hb⟩ := hkpE q0 (hkf q0 hmem).1
                  have hnt := (hkf q0 hmem).2
                  have h7 := hT6.go g6.dice g7 q0 hmem
                  rw [eab] at h7 hnt
                  refine ⟨q0.1, [.str a, .str b], rfl, SqT.of h7, rfl, ?_⟩
                  walk_at "rr"
                  refine ⟨(by omega : (3 : Nat) ≤ sizeLine), fun t ht => ?_⟩
                  have g8 := g6.trans g7
                  exact k1 t _ a b (g8.new ht) (g8.free ht) upd_same ha hb hl hnt
        · walk_at "rr"
          refine ⟨Nat.zero_le _, fun e5 he5 => ?_⟩
          have g6 := Go.new g4 (o := .lst []) he5
          have S6 := same_new (o := .lst []) he5
          have h6D := S6 _ _ h4D
          have hT6 := TK.same hT4 S6
          walk_at "rr"
          refine ⟨D, e5, _, rfl, rfl, SqL.of h6D, SqL.of upd_same, ?_⟩
          walk_at "rr"
          refine ite2 (fun c => ?_) (fun c => ?_)
          · walk_at "rr"
            exact k0 _ g6
          · walk_at "rr"
            refine pick_at g6.dice h6D (dice_ne_refs g6.dice h6D) (fun e => c (by rw [e]; rfl)) (by rw [rk_len]; omega) fun y H7 hy g7 => ?_
            obtain ⟨j, hj⟩ := List.getElem?_of_mem hy
            obtain ⟨q0, hq0, rfl⟩ := rk_at hj
            have hmem := List.mem_of_getElem? hq0
            obtain ⟨a, b, eab, hl, ha, hb⟩ := hkpE q0 (hkf q0 hmem).1
            have hnt := (hkf q0 hmem).2
            have h7 := hT6.go g6.dice g7 q0 hmem
            rw [eab] at h7 hnt
            refine ⟨q0.1, [.str a, .str b], rfl, SqT.of h7, rfl, ?_⟩
            walk_at "rr"
            refine ⟨(by omega : (3 : Nat) ≤ sizeLine), fun t ht => ?_⟩
            have g8 := g6.trans g7
            exact k1 t _ a b (g8.new ht) (g8.free ht) upd_same ha hb hl hnt
end
end K5
namespace K5
open PySem PySem.Spec PyProof.Rows L2 RS RZ
local macro_rules | `(tactic| walk_at "r1") => `(tactic| first | refine ⟨_, rfl, ?_⟩ | refine ⟨_, _, rfl, rfl, ?_⟩ | refine ⟨_, _, rfl, ?_⟩ | refine .inl ⟨_, rfl, ?_⟩ | refine .inr ⟨_, rfl, ?_⟩ | refine ⟨⟨_, rfl⟩, ?_⟩)
local macro_rules | `(tactic| walk_at "rr") => `(tactic| repeat walk_at "r1")
/-! ### growths: by themselves -/
theorem pe_d0 {X : Cx} {x : Str} {k : Nat} {sp : Sp} {p pos : Pos} (D : Dfn X.prog X.w X.K X.mg X.base x k [] sp) (hr : Room k X.A) (hg : Gl X x := by rfl) (hdb : (x == ("__debug__" : Str)) = false := by decide) : PE X (.Call (.Name x p) [] [] pos) (tCall sp [] E0 tNil) := by
  obtain ⟨f, fd, m, kp, b, h⟩ := D
  exact pe_call0 h hr hg m kp b .nil pass0 hdb
theorem befS_mem {rs : List Str} {i : Nat} (h : i < rs.length) : befS rs i ∈ rs := by
  unfold befS
  rw [List.getD_eq_getElem?_getD]
  by_cases e : i = 0
  · rw [if_pos e, List.getElem?_eq_getElem (by omega)]
    exact List.getElem_mem _
  · rw [if_neg e, List.getElem?_eq_getElem (by omega)]
    exact List.getElem_mem _
theorem cyc_ne {rs : List Str} (nd : rs.Nodup) (h2 : 2 ≤ rs.length) : ∀ t ∈ cyc rs, ∃ a b, t = [a, b] ∧ a ≠ b ∧ a ∈ rs ∧ b ∈ rs := by
  intro t ht
  unfold cyc at ht
  obtain ⟨i, hi, rfl⟩ := List.mem_map.mp ht
  have hi := List.mem_range.mp hi
  have ea : rs.getD i "" = rs[i] := by rw [List.getD_eq_getElem?_getD, List.getElem?_eq_getElem hi]; rfl
  refine ⟨_, _, rfl, ?_, by rw [ea]; exact List.getElem_mem _, befS_mem hi⟩
  rw [ea]
  unfold befS
  rw [List.getD_eq_getElem?_getD]
  by_cases e : i = 0
  · rw [if_pos e, List.getElem?_eq_getElem (by omega)]
    subst e
    exact List.pairwise_iff_getElem.mp nd 0 (rs.length - 1) hi (by omega) (by omega)
  · rw [if_neg e, List.getElem?_eq_getElem (by omega)]
    exact (List.pairwise_iff_getElem.mp nd (i - 1) i (by omega) hi (by omega)).symm
theorem PlnOf.sub {ss ss' us : List Str} {ts ts' : List (List Str)} (h : PlnOf ss ts ss' ts') (h1 : ∀ x ∈ ss, x ∈ us) (h2 : ∀ t ∈ ts, ∀ x ∈ t, x ∈ us) : ∀ x ∈ ss', x ∈ us := fun x hx => by
  rcases (h.ms x).mp hx with hx | ⟨t, ht, hx⟩
  · exact h1 x hx
  · exact h2 t ht x hx
theorem PlnOf.len {ss ss' us : List Str} {ts ts' : List (List Str)} (h : PlnOf ss ts ss' ts') (h1 : ∀ x ∈ ss, x ∈ us) (h2 : ∀ t ∈ ts, ∀ x ∈ t, x ∈ us) : ss'.length ≤ us.length := nodup_le h.as.nodup (h.sub h1 h2)
theorem PlnOf.some {ss ss' : List Str} {ts ts' : List (List Str)} (h : PlnOf ss ts ss' ts') (hne : ts ≠ []) : ts' ≠ [] := by
  cases ts with
  | nil => exact absurd rfl hne
  | cons t ts =>
    have := (h.mt (tieL t)).mpr ⟨t, List.mem_cons_self, rfl⟩
    intro e
    rw [e] at this
    cases this
theorem bes_mem {ts : List (List Str)} {z o : Str} (h : o ∈ besS ts z) : ∃ t ∈ ts, o ∈ t := by
  rcases List.mem_append.mp h with h | h
  · obtain ⟨t, ht, e⟩ := List.mem_filterMap.mp h
    refine ⟨t, ht, ?_⟩
    match t, e with
    | [a, b], e =>
      change (if a = z then Option.some b else none) = Option.some o at e
      split at e
      · rw [← Option.some.inj e]
        exact List.mem_cons_of_mem _ List.mem_cons_self
      · cases e
  · obtain ⟨t, ht, e⟩ := List.mem_filterMap.mp h
    refine ⟨t, ht, ?_⟩
    match t, e with
    | [a, b], e =>
      change (if b = z then Option.some a else none) = Option.some o at e
      split at e
      · rw [← Option.some.inj e]
        exact List.mem_cons_self
      · cases e
theorem Wb.mem {ss : List Str} {ts : List (List Str)} (h : Wb ss ts) {t : List Str} (ht : t ∈ ts) {x : Str} (hx : x ∈ t) : x ∈ ss := by
  obtain ⟨a, b, rfl, _, ha, hb⟩ := h.el t ht
  rcases List.mem_cons.mp hx with rfl | hx
  · exact ha
  · rw [List.mem_singleton.mp hx]
    exact hb
theorem Wb.ne {ss : List Str} {ts : List (List Str)} (h : Wb ss ts) {t : List Str} (ht : t ∈ ts) : ∃ a b, t = [a, b] ∧ a ≠ b := by
  obtain ⟨a, b, e, hl, _⟩ := h.el t ht
  exact ⟨a, b, e, fun e2 => by rw [e2, ltS_irrefl] at hl; cases hl⟩
theorem cut_mid (xs : List V) (k : Nat) : cutV xs (some 1) (some ((k + 1 : Nat) : Int)) = (xs.drop 1).take k := by
  unfold cutV
  rw [show (1 : Int) = ((1 : Nat) : Int) from rfl, HT.sIx_nat, HT.sIx_nat]
  cases xs with
  | nil => simp
  | cons x xs =>
    rw [List.length_cons, Nat.min_eq_left (by omega : 1 ≤ xs.length + 1)]
    show (xs.take (min (k + 1) (xs.length + 1) - 1)) = xs.take k
    by_cases h : k ≤ xs.length
    · rw [Nat.min_eq_left (by omega), Nat.add_sub_cancel]
    · rw [Nat.min_eq_right (by omega), Nat.add_sub_cancel, List.take_length, List.take_of_length_le (by omega)]
def Steps (H : Hp) (xs : List V) : Prop := ∀ v ∈ xs, ∃ a ys, v = .ref a ∧ H a = some (.tup ys) ∧ 3 ≤ ys.length
theorem Steps.go {H H' : Hp} {d : Addr} {xs : List V} (h : Steps H xs) (hd : Dice H d) (g : Go d H H') : Steps H' xs := fun v hv => by
  obtain ⟨a, ys, e, h1, h2⟩ := h v hv
  exact ⟨a, ys, e, g.keep _ _ (dice_ne_tup hd h1) h1, h2⟩
theorem Steps.own {H : Hp} {sl : Addr} {xs zs xs' : List V} (h : Steps H xs) (hs : H sl = some (.lst zs)) : Steps (upd H sl (.lst xs')) xs := fun v hv => by
  obtain ⟨a, ys, e, h1, h2⟩ := h v hv
  exact ⟨a, ys, e, by rw [upd_ne (by rintro e2; rw [e2, hs] at h1; cases h1)]; exact h1, h2⟩
theorem Pln.own {H : Hp} {p sl : Addr} {ss : List Str} {ks : RefK} {xs xs' : List V} (h : Pln H p ss ks) (hs : H sl = some (.lst xs)) (hx : Steps H xs) (h2 : Two ks) (n1 : ss ≠ []) (n2 : ks ≠ []) : Pln (upd H sl (.lst xs')) p ss ks := by
  obtain ⟨⟨l1, l2, a, b, c⟩, e⟩ := h
  refine ⟨⟨l1, l2, ?_, ?_, ?_⟩, fun k hk => ?_⟩
  · rw [upd_ne (by rintro e2; rw [e2, hs] at a; cases a)]
    exact a
  · rw [upd_ne ?_]
    · exact b
    · rintro e2
      rw [e2, hs] at b
      cases ss with
      | nil => exact n1 rfl
      | cons z zs =>
        have e3 : xs = .str z :: zs.map V.str := HO.lst.inj (Option.some.inj b)
        obtain ⟨a1, ys, e4, _⟩ := hx (.str z) (by rw [e3]; exact List.mem_cons_self)
        cases e4
  · rw [upd_ne ?_]
    · exact c
    · rintro e2
      rw [e2, hs] at c
      cases ks with
      | nil => exact n2 rfl
      | cons k ks =>
        have e3 : xs = .ref k.1 :: rk ks := HO.lst.inj (Option.some.inj c)
        obtain ⟨a1, ys, e4, h4, h5⟩ := hx (.ref k.1) (by rw [e3]; exact List.mem_cons_self)
        cases e4
        obtain ⟨x, y, e6⟩ := h2 k List.mem_cons_self
        have h7 := e k List.mem_cons_self
        rw [h4, e6] at h7
        have e8 : ys = [.str x, .str y] := HO.tup.inj (Option.some.inj h7)
        rw [e8] at h5
        exact absurd (show 3 ≤ 2 from h5) (by decide)
  · have h1 := e k hk
    rw [upd_ne (by rintro e2; rw [e2, hs] at h1; cases h1)]
    exact h1
/-- what a step leaves -/
theorem step_tie {ss us ss2 : List Str} {ts ts2 : List (List Str)} {a b : Str} (hw : Wb ss ts) (hus : ∀ x ∈ ss, x ∈ us) (ha : a ∈ ss) (hb : b ∈ ss) (hl : ltS a b = true) (hof : PlnOf ss (ts ++ [[a, b]]) ss2 ts2) (hne : ss ≠ []) : Wb ss2 ts2 ∧ (∀ x ∈ ss2, x ∈ us) ∧ ts2 ≠ [] ∧ ss2 ≠ [] := by
  refine ⟨Wb.of hof fun t ht => ?_, hof.sub hus fun t ht x hx => ?_, hof.some (by simp), fun e => ?_⟩
  · rcases List.mem_append.mp ht with ht | ht
    · exact hw.ne ht
    · rw [List.mem_singleton.mp ht]
      exact ⟨a, b, rfl, fun e => by rw [e, ltS_irrefl] at hl; cases hl⟩
  · rcases List.mem_append.mp ht with ht | ht
    · exact hus x (hw.mem ht hx)
    · rw [List.mem_singleton.mp ht] at hx
      rcases List.mem_cons.mp hx with rfl | hx
      · exact hus _ ha
      · rw [List.mem_singleton.mp hx]
        exact hus _ hb
  · have := (hof.ms a).mpr (.inl ha)
    rw [e] at this
    cases this
theorem step_split {ss us ss2 : List Str} {ts ts2 : List (List Str)} {z n : Str} {ms rest : List Str} (hw : Wb ss ts) (hus : ∀ x ∈ ss, x ∈ us) (hz : z ∈ ss) (hn : ¬ n ∈ us) (pm : (ms ++ rest).Perm (besS ts z)) (hof : PlnOf ss (ts.filter (keepT z ms) ++ ms.map (fun o => [n, o]) ++ [[z, n]]) ss2 ts2) : Wb ss2 ts2 ∧ (∀ x ∈ ss2, x ∈ n :: us) ∧ ts2 ≠ [] ∧ ss2 ≠ [] := by
  have hms : ∀ o ∈ ms, o ∈ ss := fun o ho => by
    obtain ⟨t, ht, hx⟩ := bes_mem (pm.mem_iff.mp (List.mem_append_left _ ho))
    exact hw.mem ht hx
  refine ⟨Wb.of hof fun t ht => ?_, hof.sub (fun x hx => List.mem_cons_of_mem _ (hus x hx)) fun t ht x hx => ?_, hof.some (by simp), fun e => ?_⟩
  · rcases List.mem_append.mp ht with ht | ht
    · rcases List.mem_append.mp ht with ht | ht
      · exact hw.ne (List.mem_filter.mp ht).1
      · obtain ⟨o, ho, rfl⟩ := List.mem_map.mp ht
        exact ⟨n, o, rfl, fun e => hn (by rw [e]; exact hus _ (hms o ho))⟩
    · rw [List.mem_singleton.mp ht]
      exact ⟨z, n, rfl, fun e => hn (by rw [← e]; exact hus _ hz)⟩
  · rcases List.mem_append.mp ht with ht | ht
    · rcases List.mem_append.mp ht with ht | ht
      · exact List.mem_cons_of_mem _ (hus x (hw.mem (List.mem_filter.mp ht).1 hx))
      · obtain ⟨o, ho, rfl⟩ := List.mem_map.mp ht
        rcases List.mem_cons.mp hx with rfl | hx
        · exact List.mem_cons_self
        · rw [List.mem_singleton.mp hx]
          exact List.mem_cons_of_mem _ (hus _ (hms o ho))
    · rw [List.mem_singleton.mp ht] at hx
      rcases List.mem_cons.mp hx with rfl | hx
      · exact List.mem_cons_of_mem _ (hus _ hz)
      · rw [List.mem_singleton.mp hx]
        exact List.mem_cons_self
  · have := (hof.ms z).mpr (.inl hz)
    rw [e] at this
    cases this
theorem selA_at {z o : Str} {t : List Str} (h : selA z t = some o) : t = [z, o] := by
  match t, h with
  | [a, b], h =>
    change (if a = z then Option.some b else none) = Option.some o at h
    split at h
    · next e => rw [← Option.some.inj h, e]
    · cases h
theorem selB_at {z o : Str} {t : List Str} (h : selB z t = some o) : t = [o, z] := by
  match t, h with
  | [a, b], h =>
    change (if b = z then Option.some a else none) = Option.some o at h
    split at h
    · next e => rw [← Option.some.inj h, e]
    · cases h
theorem bes_nodup {ss : List Str} {ts : List (List Str)} (h : Wb ss ts) (z : Str) : (besS ts z).Nodup := by
  unfold besS
  have nd := Asc.nodup h.at_
  refine List.nodup_append.mpr ⟨?_, ?_, ?_⟩
  · exact List.pairwise_filterMap.mpr (nd.imp fun hne b hb b' hb' e => hne (by rw [selA_at hb, selA_at hb', e]))
  · exact List.pairwise_filterMap.mpr (nd.imp fun hne b hb b' hb' e => hne (by rw [selB_at hb, selB_at hb', e]))
  · rintro a ha b hb rfl
    obtain ⟨t, ht, e⟩ := List.mem_filterMap.mp ha
    obtain ⟨u, hu, e2⟩ := List.mem_filterMap.mp hb
    have h1 := selA_at e
    have h2 := selB_at e2
    obtain ⟨x, y, e3, hl, _⟩ := h.el t ht
    obtain ⟨x', y', e4, hl', _⟩ := h.el u hu
    rw [h1] at e3
    rw [h2] at e4
    cases e3
    cases e4
    rw [ltS_asym hl] at hl'
    cases hl'
theorem bes_few {ss : List Str} {ts : List (List Str)} (h : Wb ss ts) (z : Str) : (besS ts z).length ≤ ss.length := nodup_le (bes_nodup h z) fun o ho => by
  obtain ⟨t, ht, hx⟩ := bes_mem ho
  exact h.mem ht hx
structure spGrown (vs : List V) (H : Hp) (Q : VK) (E : XK) : Prop where
  h : ∃ (d : Addr) (m c : Nat), vs = [.ref d, .int m, .int c] ∧ Dice H d ∧ 4 ≤ m ∧ m ≤ 7 ∧ c ≤ 100 ∧
    ∀ (l t sl p : Addr) (H' : Hp) (ss : List Str) (ks : RefK), Go d H H' → H l = none → H' l = some (.lst [.ref t, .ref sl, .ref p]) → Pln H' p ss ks → Wb ss (ks.map (·.2)) → (∀ x ∈ ss, x ∈ names16) → ss.length ≤ m → ks ≠ [] → ss ≠ [] → Q (.ref l) H'
end K5
namespace K5
open PySem PySem.Spec PyProof.Rows L2 RS RZ
local macro_rules | `(tactic| walk_at "r1") => `(tactic| first | refine ⟨_, rfl, ?_⟩ | refine ⟨_, _, rfl, rfl, ?_⟩ | refine ⟨_, _, rfl, ?_⟩ | refine .inl ⟨_, rfl, ?_⟩ | refine .inr ⟨_, rfl, ?_⟩ | refine ⟨⟨_, rfl⟩, ?_⟩)
local macro_rules | `(tactic| walk_at "rr") => `(tactic| repeat walk_at "r1")
theorem Go.at_ne' {d p : Addr} {H H1 : Hp} {o : HO} (a : Go d H (upd H1 p o)) (h : H1 p = none) (hd : Dice H1 d) : p ≠ d := by
  rintro rfl
  obtain ⟨x, y, z, e⟩ := hd
  rw [h] at e
  cases e
theorem cut_from1 (xs : List V) : cutV xs (some 1) none = xs.drop 1 := cut_from xs 1
section
variable {P : Program} {w : World} {K : PySem.W.Frag} {mg : Str → Option Value} {base : Heap}
theorem sc_grown : FnScope ["dice", "places", "count", "names", "spokes", "ring", "plain", "steps", "left", "turn", "step"] ["dice", "places", "count"] (defScope s_law_grown) := ⟨rfl, rfl, rfl, by decide +kernel, rfl, by decide +kernel, by decide +kernel⟩
theorem ok_law_grown {f : Addr} {fd : FuncData} (F : Fun K "_law_grown" "_law_grown" s_law_grown f fd) (T : Txt K mg) (DR : Dfn P w K mg base "_law_roll" 1 ["dice", "total"] spRoll) (DM : Dfn P w K mg base "_law_mixed" 2 ["dice", "items"] spMixed) (DN : Dfn P w K mg base "_law_names" 1 [] spNames)
    (DG : Dfn P w K mg base "_law_plain_ring" 1 ["ring"] spPlainRing) (DW : Dfn P w K mg base "_law_wheel" 3 ["hub", "ring"] spWheel) (DS : Dfn P w K mg base "_law_drawn_step" 3 ["dice", "plain", "new"] spStep) (DH : Dfn P w K mg base "_law_behind" 3 ["plain", "step"] spBehind) : FnOk P w K mg base CX0 4 f fd ["dice", "places", "count"] spGrown := by
  refine F.ok sc_grown (fun vs H Q E h => ?_) (fun cdv A outer s H vs Q E hr h => ?_)
  · obtain ⟨d, m, c, rfl, _⟩ := h
    rfl
  · obtain ⟨d, m, c, rfl, hd, hm4, hm7, hc, k⟩ := h
    have hu0 := Nat.lt_of_succ_lt (hu_of hr)
    have hr1 := hr.mono (by decide : 1 ≤ 3)
    have hr2 := hr.mono (by decide : 2 ≤ 3)
    refine ⟨_, pss_cons (ps_set (i := 3) sc_grown.nd rfl (Or.inl rfl) (pe_slice sl_list (pe_d DM hr2 (pa_cons (pv 0) (pa_cons (pe_d0 DN hr1) pa_nil))) po_none (po_some (pv 1))))
      (pss_cons (ps_set (i := 4) sc_grown.nd rfl (Or.inl rfl) (pe_ifExp (PW.pt (pw_or (pt_cmpR op_lt (pv 1) pe_int (nomark _)) (pw_or1 (pt_cmpR op_eq (pe_d DR hr1 (pa_cons (pv 0) (pa_cons pe_int pa_nil))) pe_int (nomark _))))) pe_int
          (pe_op op_add pe_int (pe_d DR hr1 (pa_cons (pv 0) (pa_cons (pe_callB (call_max2 rfl) (by rfl) T.n_max (by decide +kernel) (pa_cons pe_int (pa_cons (pe_callB (call_min2 rfl) (by rfl) T.n_min (by decide +kernel) (pa_cons pe_int (pa_cons (pe_op op_sub (pv 1) pe_int) pa_nil))) pa_nil))) pa_nil))))))
      (pss_cons (ps_set (i := 5) sc_grown.nd rfl (Or.inl rfl) (pe_d DG hr1 (pa_cons (pe_slice sl_list (pv 3) (po_some pe_int) (po_some (pe_op op_add (pv 4) pe_int))) pa_nil)))
      (pss_cons (ps_par (i := 6) (j := 7) rfl sc_grown.nd rfl rfl (by decide) rfl rfl (pa_cons (pe_d DW hr (pa_cons (pe_ix ix_list (pv 3) pe_int (fun _ _ => rfl)) (pa_cons (pv 5) pa_nil))) (pa_cons (pe_lst pa_nil) pa_nil)) (by rfl))
      (pss_cons (ps_set (i := 8) sc_grown.nd rfl (Or.inl rfl) (pe_slice sl_list (pv 3) (po_some (pe_op op_add (pv 4) pe_int)) po_none))
      (pss_cons (ps_for PassesOwn.never rfl (pi_range1 (by rfl) T.n_range (pa_cons (pe_d DR hr1 (pa_cons (pv 0) (pa_cons (pe_op op_add (pv 2) pe_int) pa_nil))) pa_nil)) (pg_name (i := 9) sc_grown.nd rfl (Or.inl rfl))
        (pss_cons (ps_set (i := 10) sc_grown.nd rfl (Or.inl rfl) (pe_d DS hr (pa_cons (pv 0) (pa_cons (pv 6) (pa_cons (pe_ifExp (pt_cmpR (op_neNil hu0) (pv 8) (pe_lst pa_nil) (nomark _)) (pe_ix ix_list (pv 8) pe_int (fun _ _ => rfl)) pe_non) pa_nil)))))
        (pss_one (ps_if (pt_cmpR op_notN (pv 10) pe_non (nomark _))
          (pss_cons (ps_set (i := 8) sc_grown.nd rfl (Or.inl rfl) (pe_ifExp (pt_cmpR op_eq (pe_ix ix_tup (pv 10) pe_int (fun _ _ => rfl)) pe_str (nomark _)) (pe_slice sl_list (pv 8) (po_some pe_int) po_none) (pv 8)))
          (pss_cons (ps_expr (pe_bm PySem.F.plainAttrs_list PySem.F.slot_list_append PySem.F.type_list_append mt_append (pv 7) (pa_cons (pv 10) pa_nil)))
          (pss_one (ps_set (i := 6) sc_grown.nd rfl (Or.inl rfl) (pe_d DH hr (pa_cons (pv 6) (pa_cons (pv 10) pa_nil))))))) pss_nil))))
      (pss_one (ps_ret (pe_lst (pa_cons (pe_tup (pa_cons (pe_ix ix_list (pv 3) pe_int (fun _ _ => rfl)) (pa_cons (pv 5) pa_nil))) (pa_cons (pv 7) (pa_cons (pv 6) pa_nil))))))))))), ?_⟩
    have hz : (1000 : Nat) < sizeLine := line1000
    walk_at "rr"
    refine ⟨rfl, fun n0 hn0 => ?_⟩
    have g1 := (Go.refl hd).new (o := .lst (names16.map V.str)) hn0
    walk_at "rr"
    refine ⟨d, n0, _, g1.dice, rfl, upd_same, (by decide : (16 : Nat) ≤ 1000), g1.at_ne' hn0 hd, fun q zs H2 g2 hq hqd hq2 pm => ?_⟩
    obtain ⟨zs, rfl, pmz⟩ := perm_strs pm
    have g02 := g1.trans g2
    walk_at "rr"
    refine ⟨q, _, rfl, SqL.of hq2, fun an han => ?_⟩
    rw [cut_to, ← List.map_take]
    obtain ⟨ns, ens0⟩ : ∃ l, zs.take m = l := ⟨_, rfl⟩
    have hz16 : zs.length = 16 := pmz.length_eq
    have hnl : ns.length = m := by rw [← ens0, List.length_take]; omega
    have hnd : ns.Nodup := by rw [← ens0]; exact (pmz.nodup_iff.mpr names_nd).sublist (List.take_sublist _ _)
    have hn16 : ∀ x ∈ ns, x ∈ names16 := fun x hx => by
      rw [← ens0] at hx
      exact pmz.mem_iff.mp (List.mem_of_mem_take hx)
    rw [ens0]
    obtain ⟨hub, tl, ens⟩ : ∃ a b, ns = a :: b := by
      cases ns with
      | nil => rw [List.length_nil] at hnl; omega
      | cons a b => exact ⟨a, b, rfl⟩
    have g3 := g02.new (o := .lst (ns.map V.str)) han
    have h3n : upd H2 an (.lst (ns.map V.str)) an = some (.lst (ns.map V.str)) := upd_same
    obtain ⟨H3, e3⟩ : ∃ X, upd H2 an (.lst (ns.map V.str)) = X := ⟨_, rfl⟩
    rw [e3] at g3 h3n ⊢
    walk_at "rr"
    refine ite2 (fun c1 => ?_) (fun c1 => ?_)
    · walk_at "rr"
      refine ⟨an, _, rfl, SqL.of h3n, fun c1 hc1 => ?_⟩
      rw [(show (3 : Int) + 1 = ((3 + 1 : Nat) : Int) from rfl), cut_mid, ← List.map_drop, ← List.map_take]
      have g6 := Go.new g3 (o := .lst (((ns.drop 1).take 3).map V.str)) hc1
      have hns6 := same_new (o := .lst (((ns.drop 1).take 3).map V.str)) hc1 _ _ h3n
      walk_at "rr"
      refine ⟨c1, _, rfl, upd_same, by rw [List.length_take, List.length_drop]; omega, by rw [List.length_take, List.length_drop]; omega, fun rp H7 rs hrp S7 hrp7 pmr => ?_⟩
      have g7 := g6.same S7
      have hns7 := S7 _ _ hns6
      walk_at "rr"
      refine ⟨an, _, 0, .str hub, rfl, rfl, SqL.of hns7, atI_nat (j := 0) (by rw [ens]; rfl), ?_⟩
      walk_at "rr"
      have hrsl : rs.length = 3 := by
        have := pmr.length_eq
        rw [List.length_take, List.length_drop] at this
        omega
      refine ⟨rp, hub, rs, rfl, .inr hrp7, by omega, fun p H8 ss ks hp0 S8 hpl hof => ?_⟩
      have g8 := g7.same S8
      have hns8 := S8 _ _ hns7
      refine ⟨Nat.zero_le _, fun sl hsl => ?_⟩
      have g9 := g8.new (o := .lst []) hsl
      have S9 := same_new (o := .lst []) hsl
      have hsd : sl ≠ d := g8.at_ne hsl
      have hsan : an ≠ sl := ne_of_none hns8 hsl
      have hsl0 : H sl = none := g8.free hsl
      have hns9 := S9 _ _ hns8
      walk_at "rr"
      refine ⟨an, _, rfl, SqL.of hns9, fun ll hll => ?_⟩
      rw [(show (3 : Int) + 1 = ((3 + 1 : Nat) : Int) from rfl), cut_from, ← List.map_drop]
      have g10 := g9.new (o := .lst ((ns.drop (3 + 1)).map V.str)) hll
      have S10 := same_new (o := .lst ((ns.drop (3 + 1)).map V.str)) hll
      have hlls : sl ≠ ll := ne_of_none upd_same hll
      have hs10 := S10 _ _ (upd_same (H := H8) (a := sl) (o := .lst []))
      have hl10 : (upd (upd H8 sl (.lst [])) ll (.lst ((ns.drop (3 + 1)).map V.str))) ll = some (.lst ((ns.drop (3 + 1)).map V.str)) := upd_same
      have hns10 := S10 _ _ hns9
      have hpl10 := (hpl.same S9).same S10
      obtain ⟨H10, e10⟩ : ∃ X, upd (upd H8 sl (.lst [])) ll (.lst ((ns.drop (3 + 1)).map V.str)) = X := ⟨_, rfl⟩
      rw [e10] at g10 hs10 hl10 hns10 hpl10 ⊢
      have hnd2 := hnd
      rw [ens] at hnd2
      have hub0 : ¬ hub ∈ rs := fun hm => by
        have := List.mem_of_mem_take (pmr.mem_iff.mp hm)
        rw [ens] at this
        exact (List.nodup_cons.mp hnd2).1 this
      have hrsn : rs.Nodup := by
        refine pmr.nodup_iff.mpr ?_
        rw [ens]
        exact (List.nodup_cons.mp hnd2).2.sublist (List.take_sublist _ _)
      have hwb : Wb ss (ks.map (·.2)) := Wb.of hof fun t ht => by
        rcases List.mem_append.mp ht with ht | ht
        · obtain ⟨x, hx, rfl⟩ := List.mem_map.mp ht
          exact ⟨hub, x, rfl, fun e => hub0 (by rw [e]; exact hx)⟩
        · obtain ⟨a, b, e, hab, _⟩ := cyc_ne hrsn (by omega) t ht
          exact ⟨a, b, e, hab⟩
      have hss : ∀ x ∈ ss, x ∈ hub :: rs := hof.sub (fun _ h => nomatch h) fun t ht x hx => by
        rcases List.mem_append.mp ht with ht | ht
        · obtain ⟨y, hy, rfl⟩ := List.mem_map.mp ht
          rcases List.mem_cons.mp hx with rfl | hx
          · exact List.mem_cons_self
          · rw [List.mem_singleton.mp hx]
            exact List.mem_cons_of_mem _ hy
        · obtain ⟨a, b, e, _, ha, hb⟩ := cyc_ne hrsn (by omega) t ht
          rw [e] at hx
          rcases List.mem_cons.mp hx with rfl | hx
          · exact List.mem_cons_of_mem _ ha
          · rw [List.mem_singleton.mp hx]
            exact List.mem_cons_of_mem _ hb
      have hks0 : ks.map (·.2) ≠ [] := hof.some (by
        intro e
        have := congrArg List.length e
        rw [List.length_append, List.length_map, cyc_len, hrsl, List.length_nil] at this
        omega)
      have hks0 : ks ≠ [] := fun e => hks0 (by rw [e]; rfl)
      have hss0 : ss ≠ [] := fun e => by
        cases ks with
        | nil => exact hks0 rfl
        | cons k ks =>
          obtain ⟨a, b, _, _, ha, _⟩ := hwb.el k.2 List.mem_cons_self
          rw [e] at ha
          cases ha
      have hall : (hub :: rs ++ ns.drop (3 + 1)).Perm ns := by
        rw [ens]
        show (hub :: (rs ++ tl.drop 3)).Perm _
        refine List.Perm.cons _ ?_
        have h1 : rs.Perm (tl.take 3) := by rw [ens] at pmr; exact pmr
        exact (h1.append_right _).trans (by rw [List.take_append_drop])
      walk_at "rr"
      refine roll_go g10.dice (by omega) (by omega) fun tn H11 tn0 tn1 g11 => ?_
      have g011 := g10.trans g11
      have hs11 := g11.keep _ _ hsd hs10
      have hl11 := g11.keep _ _ (dice_ne_strs g10.dice hl10) hl10
      have hns11 := g11.keep _ _ (dice_ne_strs g10.dice hns10) hns10
      have hpl11 := hpl10.go g10.dice g11
      obtain ⟨tn, rfl⟩ : ∃ z : Nat, tn = z := ⟨tn.toNat, by omega⟩
      have htn : tn ≤ 100 := by omega
      walk_at "rr"
      refine ⟨by omega, by omega, ?_⟩
      rw [Int.toNat_natCast]
      refine for_range (lo := 0) (n := tn) (fun i σ H' => ∃ (vt vst vsp : Option V) (ll p : Addr) (ls us ss : List Str) (ks : RefK) (xs : List V), σ = [some (.ref d), some (.int m), some (.int c), some (.ref an), vsp, some (.ref rp), some (.ref p), some (.ref sl), some (.ref ll), vt, vst] ∧
          Go d H H' ∧ H' an = some (.lst (ns.map V.str)) ∧ H' sl = some (.lst xs) ∧ xs.length ≤ i ∧ Steps H' xs ∧ H' ll = some (.lst (ls.map V.str)) ∧ sl ≠ ll ∧ Pln H' p ss ks ∧ Wb ss (ks.map (·.2)) ∧ (∀ x ∈ ss, x ∈ us) ∧ (us ++ ls).Nodup ∧ (∀ x ∈ us ++ ls, x ∈ names16) ∧ (us ++ ls).length ≤ m ∧ ks ≠ [] ∧ ss ≠ [])
        ⟨_, _, _, ll, p, _, hub :: rs, ss, ks, [], rfl, g011, hns11, hs11, Nat.zero_le _, (fun _ h => nomatch h), hl11, hlls, hpl11, hwb, hss, hall.nodup_iff.mpr hnd, fun x hx => hn16 x (hall.mem_iff.mp hx), by rw [hall.length_eq, hnl]; exact Nat.le_refl _, hks0, hss0⟩ ?_ ?_
      · clear hpl11 hl11 hs11 hns11 hpl10 hl10 hs10 hns10 hlls hpl hof hwb hss hks0 hss0 hall
        rintro i σ H' hi ⟨vt, vst, vsp, ll, p, ls, us, ss, ks, xs, rfl, gg, hns', hs', hxl, hst', hl', hlls, hpl, hwb, hss, hnd', h16, hlen, hks0, hss0⟩
        have hlen2 := hlen
        rw [List.length_append] at hlen2
        have hul := nodup_le hwb.as.nodup hss
        have hss7 : ss.length ≤ 7 := by omega
        have hok : ∀ x ∈ ss, PyData.strOk x = true := fun x hx => names_ok x (h16 x (List.mem_append_left _ (hss x hx)))
        have few := hwb.few7 hss7
        rw [List.length_map] at few
        walk_at "rr"
        refine ⟨Nat.zero_le _, fun e0 he0 => ?_⟩
        have S1 := same_new (o := .lst []) he0
        have gg1 := gg.new (o := .lst []) he0
        have he1 : (upd H' e0 (.lst [])) e0 = some (.lst []) := upd_same
        obtain ⟨H1, e1⟩ : ∃ X, upd H' e0 (.lst []) = X := ⟨_, rfl⟩
        rw [e1] at S1 gg1 he1 ⊢
        have hns1 := S1 _ _ hns'
        have hs1 := S1 _ _ hs'
        have hst1 : Steps H1 xs := hst'.go gg.dice ((Go.refl gg.dice).same S1)
        have hl1 := S1 _ _ hl'
        have hpl1 := hpl.same S1
        have hlsd := dice_ne_strs gg1.dice hl1
        have hansd := dice_ne_strs gg1.dice hns1
        walk_at "rr"
        refine ⟨ll, e0, _, rfl, rfl, SqL.of hl1, SqL.of he1, ?_⟩
        walk_at "rr"
        cases ls with
        | nil =>
          refine ifF rfl ?_
          walk_at "rr"
          refine ⟨d, p, .non, ss, ks, rfl, gg1.dice, hpl1, hwb, hok, hss7, .inl rfl, fun H2 g2 => ?_, fun st H2 a b g2 hst0 hst2 ha hb hab _ => ?_, fun st mv H2 z n ms rest e => by cases e⟩
          · walk_at "rr"
            refine ⟨rfl, _, rfl, ?_⟩
            refine ifF rfl ?_
            walk_at "rr"
            exact ⟨_, _, _, ll, p, _, us, ss, ks, xs, rfl, gg1.trans g2, g2.keep _ _ hansd hns1, g2.keep _ _ hsd hs1, by omega, hst1.go gg1.dice g2, g2.keep _ _ hlsd hl1, hlls, hpl1.go gg1.dice g2, hwb, hss, hnd', h16, hlen, hks0, hss0⟩
          · have gg2 := gg1.trans g2
            have hns2 := g2.keep _ _ hansd hns1
            have hs2 := g2.keep _ _ hsd hs1
            have hl2 := g2.keep _ _ hlsd hl1
            have hst3 := hst1.go gg1.dice g2
            have hpl2 := hpl1.go gg1.dice g2
            walk_at "rr"
            refine ⟨rfl, _, rfl, ?_⟩
            refine ifT rfl ?_
            walk_at "rr"
            refine ⟨st, _, 0, .str "tie", rfl, rfl, SqT.of hst2, rfl, ?_⟩
            walk_at "rr"
            refine ⟨rfl, _, rfl, ?_⟩
            refine ifF (by decide +kernel) ?_
            walk_at "rr"
            refine ⟨.inl ⟨rfl, _, SqL.of hs2⟩, ?_⟩
            walk_at "rr"
            refine ⟨sl, _, _, rfl, rfl, hs2, by omega, ?_⟩
            have hns3 : (upd H2 sl (.lst (xs ++ [.ref st]))) an = some (.lst (ns.map V.str)) := by rw [upd_ne hsan]; exact hns2
            have hl3 : (upd H2 sl (.lst (xs ++ [.ref st]))) ll = some (.lst _) := (upd_ne hlls.symm).trans hl2
            have hpl3 := hpl2.own (xs' := xs ++ [.ref st]) hs2 hst3 hwb.two hss0 hks0
            have hst4 : (upd H2 sl (.lst (xs ++ [.ref st]))) st = some (.tup [.str "tie", .str a, .str b]) := by
              rw [upd_ne (by rintro e; rw [e, hs2] at hst2; cases hst2)]
              exact hst2
            have hst5 : Steps (upd H2 sl (.lst (xs ++ [.ref st]))) (xs ++ [.ref st]) := fun v hv => by
              rcases List.mem_append.mp hv with hv | hv
              · exact hst3.own hs2 v hv
              · rw [List.mem_singleton.mp hv]
                exact ⟨st, _, rfl, hst4, (show 3 ≤ 3 from Nat.le_refl 3)⟩
            have gg3 : Go d H (upd H2 sl (.lst (xs ++ [.ref st]))) := gg2.own hsl0 hsd
            have hs3 : (upd H2 sl (.lst (xs ++ [.ref st]))) sl = some (.lst (xs ++ [.ref st])) := upd_same
            obtain ⟨H3, e3'⟩ : ∃ X, upd H2 sl (.lst (xs ++ [.ref st])) = X := ⟨_, rfl⟩
            rw [e3'] at hns3 hl3 hpl3 hst4 hst5 gg3 hs3 ⊢
            walk_at "rr"
            refine ⟨p, st, ss, ks, _, rfl, hpl3, hwb.two, by omega, by omega, .tie a b hst4, fun q H4 ss2 ks2 hq S4 hpl4 hof4 => ?_⟩
            obtain ⟨w1, w2, w3, w4⟩ := step_tie hwb hss ha hb hab hof4 hss0
            have w3 : ks2 ≠ [] := fun e => w3 (by rw [e]; rfl)
            exact ⟨_, _, _, ll, q, _, us, ss2, ks2, _, rfl, gg3.same S4, S4 _ _ hns3, S4 _ _ hs3, by rw [List.length_append]; exact Nat.succ_le_succ hxl, hst5.go gg3.dice ((Go.refl gg3.dice).same S4), S4 _ _ hl3, hlls, hpl4, w1, w2, hnd', h16, hlen, w3, w4⟩
        | cons n ls =>
          refine ifT rfl ?_
          walk_at "rr"
          refine ⟨ll, _, 0, .str n, rfl, rfl, SqL.of hl1, atI_nat (j := 0) rfl, ?_⟩
          walk_at "rr"
          refine ⟨d, p, .str n, ss, ks, rfl, gg1.dice, hpl1, hwb, hok, hss7, .inr ⟨n, rfl⟩, fun H2 g2 => ?_, fun st H2 a b g2 hst0 hst2 ha hb hab _ => ?_, fun st mv H2 z n' ms rest e g2 hst0 hst2 hmv hz pm hm2 hr2 srt => ?_⟩
          · walk_at "rr"
            refine ⟨rfl, _, rfl, ?_⟩
            refine ifF rfl ?_
            walk_at "rr"
            exact ⟨_, _, _, ll, p, _, us, ss, ks, xs, rfl, gg1.trans g2, g2.keep _ _ hansd hns1, g2.keep _ _ hsd hs1, by omega, hst1.go gg1.dice g2, g2.keep _ _ hlsd hl1, hlls, hpl1.go gg1.dice g2, hwb, hss, hnd', h16, hlen, hks0, hss0⟩
          · have gg2 := gg1.trans g2
            have hns2 := g2.keep _ _ hansd hns1
            have hs2 := g2.keep _ _ hsd hs1
            have hl2 := g2.keep _ _ hlsd hl1
            have hst3 := hst1.go gg1.dice g2
            have hpl2 := hpl1.go gg1.dice g2
            walk_at "rr"
            refine ⟨rfl, _, rfl, ?_⟩
            refine ifT rfl ?_
            walk_at "rr"
            refine ⟨st, _, 0, .str "tie", rfl, rfl, SqT.of hst2, rfl, ?_⟩
            walk_at "rr"
            refine ⟨rfl, _, rfl, ?_⟩
            refine ifF (by decide +kernel) ?_
            walk_at "rr"
            refine ⟨.inl ⟨rfl, _, SqL.of hs2⟩, ?_⟩
            walk_at "rr"
            refine ⟨sl, _, _, rfl, rfl, hs2, by omega, ?_⟩
            have hns3 : (upd H2 sl (.lst (xs ++ [.ref st]))) an = some (.lst (ns.map V.str)) := by rw [upd_ne hsan]; exact hns2
            have hl3 : (upd H2 sl (.lst (xs ++ [.ref st]))) ll = some (.lst _) := (upd_ne hlls.symm).trans hl2
            have hpl3 := hpl2.own (xs' := xs ++ [.ref st]) hs2 hst3 hwb.two hss0 hks0
            have hst4 : (upd H2 sl (.lst (xs ++ [.ref st]))) st = some (.tup [.str "tie", .str a, .str b]) := by
              rw [upd_ne (by rintro e; rw [e, hs2] at hst2; cases hst2)]
              exact hst2
            have hst5 : Steps (upd H2 sl (.lst (xs ++ [.ref st]))) (xs ++ [.ref st]) := fun v hv => by
              rcases List.mem_append.mp hv with hv | hv
              · exact hst3.own hs2 v hv
              · rw [List.mem_singleton.mp hv]
                exact ⟨st, _, rfl, hst4, (show 3 ≤ 3 from Nat.le_refl 3)⟩
            have gg3 : Go d H (upd H2 sl (.lst (xs ++ [.ref st]))) := gg2.own hsl0 hsd
            have hs3 : (upd H2 sl (.lst (xs ++ [.ref st]))) sl = some (.lst (xs ++ [.ref st])) := upd_same
            obtain ⟨H3, e3'⟩ : ∃ X, upd H2 sl (.lst (xs ++ [.ref st])) = X := ⟨_, rfl⟩
            rw [e3'] at hns3 hl3 hpl3 hst4 hst5 gg3 hs3 ⊢
            walk_at "rr"
            refine ⟨p, st, ss, ks, _, rfl, hpl3, hwb.two, by omega, by omega, .tie a b hst4, fun q H4 ss2 ks2 hq S4 hpl4 hof4 => ?_⟩
            obtain ⟨w1, w2, w3, w4⟩ := step_tie hwb hss ha hb hab hof4 hss0
            have w3 : ks2 ≠ [] := fun e => w3 (by rw [e]; rfl)
            exact ⟨_, _, _, ll, q, _, us, ss2, ks2, _, rfl, gg3.same S4, S4 _ _ hns3, S4 _ _ hs3, by rw [List.length_append]; exact Nat.succ_le_succ hxl, hst5.go gg3.dice ((Go.refl gg3.dice).same S4), S4 _ _ hl3, hlls, hpl4, w1, w2, hnd', h16, hlen, w3, w4⟩
          · cases e
            have gg2 := gg1.trans g2
            have hns2 := g2.keep _ _ hansd hns1
            have hs2 := g2.keep _ _ hsd hs1
            have hl2 := g2.keep _ _ hlsd hl1
            have hst3 := hst1.go gg1.dice g2
            have hpl2 := hpl1.go gg1.dice g2
            walk_at "rr"
            refine ⟨rfl, _, rfl, ?_⟩
            refine ifT rfl ?_
            walk_at "rr"
            refine ⟨st, _, 0, .str "split", rfl, rfl, SqT.of hst2, rfl, ?_⟩
            walk_at "rr"
            refine ⟨rfl, _, rfl, ?_⟩
            refine ifT (by decide +kernel) ?_
            walk_at "rr"
            refine ⟨ll, _, rfl, SqL.of hl2, fun lq hlq => ?_⟩
            rw [cut_from1]
            have Sq := same_new (o := .lst (((n :: ls).map V.str).drop 1)) hlq
            have ggq := gg2.new (o := .lst (((n :: ls).map V.str).drop 1)) hlq
            have hlqq : (upd H2 lq (.lst (((n :: ls).map V.str).drop 1))) lq = some (.lst (ls.map V.str)) := upd_same
            have hlqs : sl ≠ lq := ne_of_none hs2 hlq
            obtain ⟨H3, e3'⟩ : ∃ X, upd H2 lq (.lst (((n :: ls).map V.str).drop 1)) = X := ⟨_, rfl⟩
            rw [e3'] at Sq ggq hlqq ⊢
            have hns3 := Sq _ _ hns2
            have hs3 := Sq _ _ hs2
            have hst4 : Steps H3 xs := hst3.go gg2.dice ((Go.refl gg2.dice).same Sq)
            have hpl3 := hpl2.same Sq
            have hsp3 := Sq _ _ hst2
            have hmv3 := Sq _ _ hmv
            walk_at "rr"
            refine ⟨.inl ⟨rfl, _, SqL.of hs3⟩, ?_⟩
            walk_at "rr"
            refine ⟨sl, _, _, rfl, rfl, hs3, by omega, ?_⟩
            have hns5 : (upd H3 sl (.lst (xs ++ [.ref st]))) an = some (.lst (ns.map V.str)) := by rw [upd_ne hsan]; exact hns3
            have hl5 : (upd H3 sl (.lst (xs ++ [.ref st]))) lq = some (.lst _) := (upd_ne hlqs.symm).trans hlqq
            have hpl5 := hpl3.own (xs' := xs ++ [.ref st]) hs3 hst4 hwb.two hss0 hks0
            have hst6 : (upd H3 sl (.lst (xs ++ [.ref st]))) st = some (.tup [.str "split", .str z, .str n, .ref mv]) := by
              rw [upd_ne (by rintro e; rw [e, hs3] at hsp3; cases hsp3)]
              exact hsp3
            have hmv5 : (upd H3 sl (.lst (xs ++ [.ref st]))) mv = some (.tup (ms.map V.str)) := by
              rw [upd_ne (by rintro e; rw [e, hs3] at hmv3; cases hmv3)]
              exact hmv3
            have hst5 : Steps (upd H3 sl (.lst (xs ++ [.ref st]))) (xs ++ [.ref st]) := fun v hv => by
              rcases List.mem_append.mp hv with hv | hv
              · exact hst4.own hs3 v hv
              · rw [List.mem_singleton.mp hv]
                exact ⟨st, _, rfl, hst6, (show 3 ≤ 4 from Nat.le_succ 3)⟩
            have gg3 : Go d H (upd H3 sl (.lst (xs ++ [.ref st]))) := ggq.own hsl0 hsd
            have hs5 : (upd H3 sl (.lst (xs ++ [.ref st]))) sl = some (.lst (xs ++ [.ref st])) := upd_same
            obtain ⟨H5, e5'⟩ : ∃ X, upd H3 sl (.lst (xs ++ [.ref st])) = X := ⟨_, rfl⟩
            rw [e5'] at hns5 hl5 hpl5 hst6 hmv5 hst5 gg3 hs5 ⊢
            have hms10 : ms.length ≤ 10 := by
              have h1 := bes_few hwb z
              have h3 := pm.length_eq
              rw [List.length_append] at h3
              omega
            walk_at "rr"
            refine ⟨p, st, ss, ks, _, rfl, hpl5, hwb.two, by omega, by omega, .split z n mv ms hst6 hmv5 hms10, fun q H4 ss2 ks2 hq S4 hpl4 hof4 => ?_⟩
            have hperm : ((n :: us) ++ ls).Perm (us ++ n :: ls) := List.perm_middle.symm
            have hnus : ¬ n ∈ us := by
              have := hperm.nodup_iff.mpr hnd'
              exact fun hm => (List.nodup_cons.mp this).1 (List.mem_append_left _ hm)
            obtain ⟨w1, w2, w3, w4⟩ := step_split hwb hss hz hnus pm hof4
            have w3 : ks2 ≠ [] := fun e => w3 (by rw [e]; rfl)
            exact ⟨_, _, _, lq, q, ls, n :: us, ss2, ks2, _, rfl, gg3.same S4, S4 _ _ hns5, S4 _ _ hs5, by rw [List.length_append]; exact Nat.succ_le_succ hxl, hst5.go gg3.dice ((Go.refl gg3.dice).same S4), S4 _ _ hl5, hlqs, hpl4, w1, w2, hperm.nodup_iff.mpr hnd', fun x hx => h16 x (hperm.mem_iff.mp hx), by rw [hperm.length_eq]; exact hlen, w3, w4⟩
      · rintro σ H' ⟨vt, vst, vsp, ll, p, ls, us, ss, ks, xs, rfl, gg, hns', hs', hxl, hst', hl', hlls, hpl, hwb, hss, hnd', h16, hlen, hks0, hss0⟩
        walk_at "rr"
        refine ⟨an, _, 0, .str hub, rfl, rfl, SqL.of hns', atI_nat (j := 0) (by rw [ens]; rfl), ?_⟩
        walk_at "rr"
        refine ⟨(by omega : (2 : Nat) ≤ sizeLine), fun t ht => ?_⟩
        have St := same_new (o := .tup [.str hub, .ref rp]) ht
        walk_at "rr"
        refine ⟨(by omega : (3 : Nat) ≤ sizeLine), fun lf hlf => ?_⟩
        have g20 := gg.new (o := .tup [.str hub, .ref rp]) ht
        have hul := nodup_le hwb.as.nodup hss
        rw [List.length_append] at hlen
        exact k lf t sl p _ ss ks (g20.new hlf) (g20.free hlf) upd_same ((hpl.same St).same (same_new hlf)) hwb (fun x hx => h16 x (List.mem_append_left _ (hss x hx))) (by omega) hks0 hss0
    · have hm5 : 5 ≤ m := by
        have := of_decide_eq_false (Bool.eq_false_iff.mpr c1)
        omega
      walk_at "rr"
      refine roll_go g3.dice (by decide) (by decide) fun r1 H4 r10 r11 g4' => ?_
      have g4 := g3.trans g4'
      have h4n := g4'.keep _ _ (dice_ne_strs g3.dice h3n) h3n
      walk_at "rr"
      refine ⟨rfl, _, rfl, ?_⟩
      refine ite2 (fun c2 => ?_) (fun c2 => ?_)
      · walk_at "rr"
        refine ⟨an, _, rfl, SqL.of h4n, fun c1 hc1 => ?_⟩
        rw [(show (3 : Int) + 1 = ((3 + 1 : Nat) : Int) from rfl), cut_mid, ← List.map_drop, ← List.map_take]
        have g6 := Go.new g4 (o := .lst (((ns.drop 1).take 3).map V.str)) hc1
        have hns6 := same_new (o := .lst (((ns.drop 1).take 3).map V.str)) hc1 _ _ h4n
        walk_at "rr"
        refine ⟨c1, _, rfl, upd_same, by rw [List.length_take, List.length_drop]; omega, by rw [List.length_take, List.length_drop]; omega, fun rp H7 rs hrp S7 hrp7 pmr => ?_⟩
        have g7 := g6.same S7
        have hns7 := S7 _ _ hns6
        walk_at "rr"
        refine ⟨an, _, 0, .str hub, rfl, rfl, SqL.of hns7, atI_nat (j := 0) (by rw [ens]; rfl), ?_⟩
        walk_at "rr"
        have hrsl : rs.length = 3 := by
          have := pmr.length_eq
          rw [List.length_take, List.length_drop] at this
          omega
        refine ⟨rp, hub, rs, rfl, .inr hrp7, by omega, fun p H8 ss ks hp0 S8 hpl hof => ?_⟩
        have g8 := g7.same S8
        have hns8 := S8 _ _ hns7
        refine ⟨Nat.zero_le _, fun sl hsl => ?_⟩
        have g9 := g8.new (o := .lst []) hsl
        have S9 := same_new (o := .lst []) hsl
        have hsd : sl ≠ d := g8.at_ne hsl
        have hsan : an ≠ sl := ne_of_none hns8 hsl
        have hsl0 : H sl = none := g8.free hsl
        have hns9 := S9 _ _ hns8
        walk_at "rr"
        refine ⟨an, _, rfl, SqL.of hns9, fun ll hll => ?_⟩
        rw [(show (3 : Int) + 1 = ((3 + 1 : Nat) : Int) from rfl), cut_from, ← List.map_drop]
        have g10 := g9.new (o := .lst ((ns.drop (3 + 1)).map V.str)) hll
        have S10 := same_new (o := .lst ((ns.drop (3 + 1)).map V.str)) hll
        have hlls : sl ≠ ll := ne_of_none upd_same hll
        have hs10 := S10 _ _ (upd_same (H := H8) (a := sl) (o := .lst []))
        have hl10 : (upd (upd H8 sl (.lst [])) ll (.lst ((ns.drop (3 + 1)).map V.str))) ll = some (.lst ((ns.drop (3 + 1)).map V.str)) := upd_same
        have hns10 := S10 _ _ hns9
        have hpl10 := (hpl.same S9).same S10
        obtain ⟨H10, e10⟩ : ∃ X, upd (upd H8 sl (.lst [])) ll (.lst ((ns.drop (3 + 1)).map V.str)) = X := ⟨_, rfl⟩
        rw [e10] at g10 hs10 hl10 hns10 hpl10 ⊢
        have hnd2 := hnd
        rw [ens] at hnd2
        have hub0 : ¬ hub ∈ rs := fun hm => by
          have := List.mem_of_mem_take (pmr.mem_iff.mp hm)
          rw [ens] at this
          exact (List.nodup_cons.mp hnd2).1 this
        have hrsn : rs.Nodup := by
          refine pmr.nodup_iff.mpr ?_
          rw [ens]
          exact (List.nodup_cons.mp hnd2).2.sublist (List.take_sublist _ _)
        have hwb : Wb ss (ks.map (·.2)) := Wb.of hof fun t ht => by
          rcases List.mem_append.mp ht with ht | ht
          · obtain ⟨x, hx, rfl⟩ := List.mem_map.mp ht
            exact ⟨hub, x, rfl, fun e => hub0 (by rw [e]; exact hx)⟩
          · obtain ⟨a, b, e, hab, _⟩ := cyc_ne hrsn (by omega) t ht
            exact ⟨a, b, e, hab⟩
        have hss : ∀ x ∈ ss, x ∈ hub :: rs := hof.sub (fun _ h => nomatch h) fun t ht x hx => by
          rcases List.mem_append.mp ht with ht | ht
          · obtain ⟨y, hy, rfl⟩ := List.mem_map.mp ht
            rcases List.mem_cons.mp hx with rfl | hx
            · exact List.mem_cons_self
            · rw [List.mem_singleton.mp hx]
              exact List.mem_cons_of_mem _ hy
          · obtain ⟨a, b, e, _, ha, hb⟩ := cyc_ne hrsn (by omega) t ht
            rw [e] at hx
            rcases List.mem_cons.mp hx with rfl | hx
            · exact List.mem_cons_of_mem _ ha
            · rw [List.mem_singleton.mp hx]
              exact List.mem_cons_of_mem _ hb
        have hks0 : ks.map (·.2) ≠ [] := hof.some (by
          intro e
          have := congrArg List.length e
          rw [List.length_append, List.length_map, cyc_len, hrsl, List.length_nil] at this
          omega)
        have hks0 : ks ≠ [] := fun e => hks0 (by rw [e]; rfl)
        have hss0 : ss ≠ [] := fun e => by
          cases ks with
          | nil => exact hks0 rfl
          | cons k ks =>
            obtain ⟨a, b, _, _, ha, _⟩ := hwb.el k.2 List.mem_cons_self
            rw [e] at ha
            cases ha
        have hall : (hub :: rs ++ ns.drop (3 + 1)).Perm ns := by
          rw [ens]
          show (hub :: (rs ++ tl.drop 3)).Perm _
          refine List.Perm.cons _ ?_
          have h1 : rs.Perm (tl.take 3) := by rw [ens] at pmr; exact pmr
          exact (h1.append_right _).trans (by rw [List.take_append_drop])
        walk_at "rr"
        refine roll_go g10.dice (by omega) (by omega) fun tn H11 tn0 tn1 g11 => ?_
        have g011 := g10.trans g11
        have hs11 := g11.keep _ _ hsd hs10
        have hl11 := g11.keep _ _ (dice_ne_strs g10.dice hl10) hl10
        have hns11 := g11.keep _ _ (dice_ne_strs g10.dice hns10) hns10
        have hpl11 := hpl10.go g10.dice g11
        obtain ⟨tn, rfl⟩ : ∃ z : Nat, tn = z := ⟨tn.toNat, by omega⟩
        have htn : tn ≤ 100 := by omega
        walk_at "rr"
        refine ⟨by omega, by omega, ?_⟩
        rw [Int.toNat_natCast]
        refine for_range (lo := 0) (n := tn) (fun i σ H' => ∃ (vt vst vsp : Option V) (ll p : Addr) (ls us ss : List Str) (ks : RefK) (xs : List V), σ = [some (.ref d), some (.int m), some (.int c), some (.ref an), vsp, some (.ref rp), some (.ref p), some (.ref sl), some (.ref ll), vt, vst] ∧
            Go d H H' ∧ H' an = some (.lst (ns.map V.str)) ∧ H' sl = some (.lst xs) ∧ xs.length ≤ i ∧ Steps H' xs ∧ H' ll = some (.lst (ls.map V.str)) ∧ sl ≠ ll ∧ Pln H' p ss ks ∧ Wb ss (ks.map (·.2)) ∧ (∀ x ∈ ss, x ∈ us) ∧ (us ++ ls).Nodup ∧ (∀ x ∈ us ++ ls, x ∈ names16) ∧ (us ++ ls).length ≤ m ∧ ks ≠ [] ∧ ss ≠ [])
          ⟨_, _, _, ll, p, _, hub :: rs, ss, ks, [], rfl, g011, hns11, hs11, Nat.zero_le _, (fun _ h => nomatch h), hl11, hlls, hpl11, hwb, hss, hall.nodup_iff.mpr hnd, fun x hx => hn16 x (hall.mem_iff.mp hx), by rw [hall.length_eq, hnl]; exact Nat.le_refl _, hks0, hss0⟩ ?_ ?_
        · clear hpl11 hl11 hs11 hns11 hpl10 hl10 hs10 hns10 hlls hpl hof hwb hss hks0 hss0 hall
          rintro i σ H' hi ⟨vt, vst, vsp, ll, p, ls, us, ss, ks, xs, rfl, gg, hns', hs', hxl, hst', hl', hlls, hpl, hwb, hss, hnd', h16, hlen, hks0, hss0⟩
          have hlen2 := hlen
          rw [List.length_append] at hlen2
          have hul := nodup_le hwb.as.nodup hss
          have hss7 : ss.length ≤ 7 := by omega
          have hok : ∀ x ∈ ss, PyData.strOk x = true := fun x hx => names_ok x (h16 x (List.mem_append_left _ (hss x hx)))
          have few := hwb.few7 hss7
          rw [List.length_map] at few
          walk_at "rr"
          refine ⟨Nat.zero_le _, fun e0 he0 => ?_⟩
          have S1 := same_new (o := .lst []) he0
          have gg1 := gg.new (o := .lst []) he0
          have he1 : (upd H' e0 (.lst [])) e0 = some (.lst []) := upd_same
          obtain ⟨H1, e1⟩ : ∃ X, upd H' e0 (.lst []) = X := ⟨_, rfl⟩
          rw [e1] at S1 gg1 he1 ⊢
          have hns1 := S1 _ _ hns'
          have hs1 := S1 _ _ hs'
          have hst1 : Steps H1 xs := hst'.go gg.dice ((Go.refl gg.dice).same S1)
          have hl1 := S1 _ _ hl'
          have hpl1 := hpl.same S1
          have hlsd := dice_ne_strs gg1.dice hl1
          have hansd := dice_ne_strs gg1.dice hns1
          walk_at "rr"
          refine ⟨ll, e0, _, rfl, rfl, SqL.of hl1, SqL.of he1, ?_⟩
          walk_at "rr"
          cases ls with
          | nil =>
            refine ifF rfl ?_
            walk_at "rr"
            refine ⟨d, p, .non, ss, ks, rfl, gg1.dice, hpl1, hwb, hok, hss7, .inl rfl, fun H2 g2 => ?_, fun st H2 a b g2 hst0 hst2 ha hb hab _ => ?_, fun st mv H2 z n ms rest e => by cases e⟩
            · walk_at "rr"
              refine ⟨rfl, _, rfl, ?_⟩
              refine ifF rfl ?_
              walk_at "rr"
              exact ⟨_, _, _, ll, p, _, us, ss, ks, xs, rfl, gg1.trans g2, g2.keep _ _ hansd hns1, g2.keep _ _ hsd hs1, by omega, hst1.go gg1.dice g2, g2.keep _ _ hlsd hl1, hlls, hpl1.go gg1.dice g2, hwb, hss, hnd', h16, hlen, hks0, hss0⟩
            · have gg2 := gg1.trans g2
              have hns2 := g2.keep _ _ hansd hns1
              have hs2 := g2.keep _ _ hsd hs1
              have hl2 := g2.keep _ _ hlsd hl1
              have hst3 := hst1.go gg1.dice g2
              have hpl2 := hpl1.go gg1.dice g2
              walk_at "rr"
              refine ⟨rfl, _, rfl, ?_⟩
              refine ifT rfl ?_
              walk_at "rr"
              refine ⟨st, _, 0, .str "tie", rfl, rfl, SqT.of hst2, rfl, ?_⟩
              walk_at "rr"
              refine ⟨rfl, _, rfl, ?_⟩
              refine ifF (by decide +kernel) ?_
              walk_at "rr"
              refine ⟨.inl ⟨rfl, _, SqL.of hs2⟩, ?_⟩
              walk_at "rr"
              refine ⟨sl, _, _, rfl, rfl, hs2, by omega, ?_⟩
              have hns3 : (upd H2 sl (.lst (xs ++ [.ref st]))) an = some (.lst (ns.map V.str)) := by rw [upd_ne hsan]; exact hns2
              have hl3 : (upd H2 sl (.lst (xs ++ [.ref st]))) ll = some (.lst _) := (upd_ne hlls.symm).trans hl2
              have hpl3 := hpl2.own (xs' := xs ++ [.ref st]) hs2 hst3 hwb.two hss0 hks0
              have hst4 : (upd H2 sl (.lst (xs ++ [.ref st]))) st = some (.tup [.str "tie", .str a, .str b]) := by
                rw [upd_ne (by rintro e; rw [e, hs2] at hst2; cases hst2)]
                exact hst2
              have hst5 : Steps (upd H2 sl (.lst (xs ++ [.ref st]))) (xs ++ [.ref st]) := fun v hv => by
                rcases List.mem_append.mp hv with hv | hv
                · exact hst3.own hs2 v hv
                · rw [List.mem_singleton.mp hv]
                  exact ⟨st, _, rfl, hst4, (show 3 ≤ 3 from Nat.le_refl 3)⟩
              have gg3 : Go d H (upd H2 sl (.lst (xs ++ [.ref st]))) := gg2.own hsl0 hsd
              have hs3 : (upd H2 sl (.lst (xs ++ [.ref st]))) sl = some (.lst (xs ++ [.ref st])) := upd_same
              obtain ⟨H3, e3'⟩ : ∃ X, upd H2 sl (.lst (xs ++ [.ref st])) = X := ⟨_, rfl⟩
              rw [e3'] at hns3 hl3 hpl3 hst4 hst5 gg3 hs3 ⊢
              walk_at "rr"
              refine ⟨p, st, ss, ks, _, rfl, hpl3, hwb.two, by omega, by omega, .tie a b hst4, fun q H4 ss2 ks2 hq S4 hpl4 hof4 => ?_⟩
              obtain ⟨w1, w2, w3, w4⟩ := step_tie hwb hss ha hb hab hof4 hss0
              have w3 : ks2 ≠ [] := fun e => w3 (by rw [e]; rfl)
              exact ⟨_, _, _, ll, q, _, us, ss2, ks2, _, rfl, gg3.same S4, S4 _ _ hns3, S4 _ _ hs3, by rw [List.length_append]; exact Nat.succ_le_succ hxl, hst5.go gg3.dice ((Go.refl gg3.dice).same S4), S4 _ _ hl3, hlls, hpl4, w1, w2, hnd', h16, hlen, w3, w4⟩
          | cons n ls =>
            refine ifT rfl ?_
            walk_at "rr"
            refine ⟨ll, _, 0, .str n, rfl, rfl, SqL.of hl1, atI_nat (j := 0) rfl, ?_⟩
            walk_at "rr"
            refine ⟨d, p, .str n, ss, ks, rfl, gg1.dice, hpl1, hwb, hok, hss7, .inr ⟨n, rfl⟩, fun H2 g2 => ?_, fun st H2 a b g2 hst0 hst2 ha hb hab _ => ?_, fun st mv H2 z n' ms rest e g2 hst0 hst2 hmv hz pm hm2 hr2 srt => ?_⟩
            · walk_at "rr"
              refine ⟨rfl, _, rfl, ?_⟩
              refine ifF rfl ?_
              walk_at "rr"
              exact ⟨_, _, _, ll, p, _, us, ss, ks, xs, rfl, gg1.trans g2, g2.keep _ _ hansd hns1, g2.keep _ _ hsd hs1, by omega, hst1.go gg1.dice g2, g2.keep _ _ hlsd hl1, hlls, hpl1.go gg1.dice g2, hwb, hss, hnd', h16, hlen, hks0, hss0⟩
            · have gg2 := gg1.trans g2
              have hns2 := g2.keep _ _ hansd hns1
              have hs2 := g2.keep _ _ hsd hs1
              have hl2 := g2.keep _ _ hlsd hl1
              have hst3 := hst1.go gg1.dice g2
              have hpl2 := hpl1.go gg1.dice g2
              walk_at "rr"
              refine ⟨rfl, _, rfl, ?_⟩
              refine ifT rfl ?_
              walk_at "rr"
              refine ⟨st, _, 0, .str "tie", rfl, rfl, SqT.of hst2, rfl, ?_⟩
              walk_at "rr"
              refine ⟨rfl, _, rfl, ?_⟩
              refine ifF (by decide +kernel) ?_
              walk_at "rr"
              refine ⟨.inl ⟨rfl, _, SqL.of hs2⟩, ?_⟩
              walk_at "rr"
              refine ⟨sl, _, _, rfl, rfl, hs2, by omega, ?_⟩
              have hns3 : (upd H2 sl (.lst (xs ++ [.ref st]))) an = some (.lst (ns.map V.str)) := by rw [upd_ne hsan]; exact hns2
              have hl3 : (upd H2 sl (.lst (xs ++ [.ref st]))) ll = some (.lst _) := (upd_ne hlls.symm).trans hl2
              have hpl3 := hpl2.own (xs' := xs ++ [.ref st]) hs2 hst3 hwb.two hss0 hks0
              have hst4 : (upd H2 sl (.lst (xs ++ [.ref st]))) st = some (.tup [.str "tie", .str a, .str b]) := by
                rw [upd_ne (by rintro e; rw [e, hs2] at hst2; cases hst2)]
                exact hst2
              have hst5 : Steps (upd H2 sl (.lst (xs ++ [.ref st]))) (xs ++ [.ref st]) := fun v hv => by
                rcases List.mem_append.mp hv with hv | hv
                · exact hst3.own hs2 v hv
                · rw [List.mem_singleton.mp hv]
                  exact ⟨st, _, rfl, hst4, (show 3 ≤ 3 from Nat.le_refl 3)⟩
              have gg3 : Go d H (upd H2 sl (.lst (xs ++ [.ref st]))) := gg2.own hsl0 hsd
              have hs3 : (upd H2 sl (.lst (xs ++ [.ref st]))) sl = some (.lst (xs ++ [.ref st])) := upd_same
              obtain ⟨H3, e3'⟩ : ∃ X, upd H2 sl (.lst (xs ++ [.ref st])) = X := ⟨_, rfl⟩
              rw [e3'] at hns3 hl3 hpl3 hst4 hst5 gg3 hs3 ⊢
              walk_at "rr"
              refine ⟨p, st, ss, ks, _, rfl, hpl3, hwb.two, by omega, by omega, .tie a b hst4, fun q H4 ss2 ks2 hq S4 hpl4 hof4 => ?_⟩
              obtain ⟨w1, w2, w3, w4⟩ := step_tie hwb hss ha hb hab hof4 hss0
              have w3 : ks2 ≠ [] := fun e => w3 (by rw [e]; rfl)
              exact ⟨_, _, _, ll, q, _, us, ss2, ks2, _, rfl, gg3.same S4, S4 _ _ hns3, S4 _ _ hs3, by rw [List.length_append]; exact Nat.succ_le_succ hxl, hst5.go gg3.dice ((Go.refl gg3.dice).same S4), S4 _ _ hl3, hlls, hpl4, w1, w2, hnd', h16, hlen, w3, w4⟩
            · cases e
              have gg2 := gg1.trans g2
              have hns2 := g2.keep _ _ hansd hns1
              have hs2 := g2.keep _ _ hsd hs1
              have hl2 := g2.keep _ _ hlsd hl1
              have hst3 := hst1.go gg1.dice g2
              have hpl2 := hpl1.go gg1.dice g2
              walk_at "rr"
              refine ⟨rfl, _, rfl, ?_⟩
              refine ifT rfl ?_
              walk_at "rr"
              refine ⟨st, _, 0, .str "split", rfl, rfl, SqT.of hst2, rfl, ?_⟩
              walk_at "rr"
              refine ⟨rfl, _, rfl, ?_⟩
              refine ifT (by decide +kernel) ?_
              walk_at "rr"
              refine ⟨ll, _, rfl, SqL.of hl2, fun lq hlq => ?_⟩
              rw [cut_from1]
              have Sq := same_new (o := .lst (((n :: ls).map V.str).drop 1)) hlq
              have ggq := gg2.new (o := .lst (((n :: ls).map V.str).drop 1)) hlq
              have hlqq : (upd H2 lq (.lst (((n :: ls).map V.str).drop 1))) lq = some (.lst (ls.map V.str)) := upd_same
              have hlqs : sl ≠ lq := ne_of_none hs2 hlq
              obtain ⟨H3, e3'⟩ : ∃ X, upd H2 lq (.lst (((n :: ls).map V.str).drop 1)) = X := ⟨_, rfl⟩
              rw [e3'] at Sq ggq hlqq ⊢
              have hns3 := Sq _ _ hns2
              have hs3 := Sq _ _ hs2
              have hst4 : Steps H3 xs := hst3.go gg2.dice ((Go.refl gg2.dice).same Sq)
              have hpl3 := hpl2.same Sq
              have hsp3 := Sq _ _ hst2
              have hmv3 := Sq _ _ hmv
              walk_at "rr"
              refine ⟨.inl ⟨rfl, _, SqL.of hs3⟩, ?_⟩
              walk_at "rr"
              refine ⟨sl, _, _, rfl, rfl, hs3, by omega, ?_⟩
              have hns5 : (upd H3 sl (.lst (xs ++ [.ref st]))) an = some (.lst (ns.map V.str)) := by rw [upd_ne hsan]; exact hns3
              have hl5 : (upd H3 sl (.lst (xs ++ [.ref st]))) lq = some (.lst _) := (upd_ne hlqs.symm).trans hlqq
              have hpl5 := hpl3.own (xs' := xs ++ [.ref st]) hs3 hst4 hwb.two hss0 hks0
              have hst6 : (upd H3 sl (.lst (xs ++ [.ref st]))) st = some (.tup [.str "split", .str z, .str n, .ref mv]) := by
                rw [upd_ne (by rintro e; rw [e, hs3] at hsp3; cases hsp3)]
                exact hsp3
              have hmv5 : (upd H3 sl (.lst (xs ++ [.ref st]))) mv = some (.tup (ms.map V.str)) := by
                rw [upd_ne (by rintro e; rw [e, hs3] at hmv3; cases hmv3)]
                exact hmv3
              have hst5 : Steps (upd H3 sl (.lst (xs ++ [.ref st]))) (xs ++ [.ref st]) := fun v hv => by
                rcases List.mem_append.mp hv with hv | hv
                · exact hst4.own hs3 v hv
                · rw [List.mem_singleton.mp hv]
                  exact ⟨st, _, rfl, hst6, (show 3 ≤ 4 from Nat.le_succ 3)⟩
              have gg3 : Go d H (upd H3 sl (.lst (xs ++ [.ref st]))) := ggq.own hsl0 hsd
              have hs5 : (upd H3 sl (.lst (xs ++ [.ref st]))) sl = some (.lst (xs ++ [.ref st])) := upd_same
              obtain ⟨H5, e5'⟩ : ∃ X, upd H3 sl (.lst (xs ++ [.ref st])) = X := ⟨_, rfl⟩
              rw [e5'] at hns5 hl5 hpl5 hst6 hmv5 hst5 gg3 hs5 ⊢
              have hms10 : ms.length ≤ 10 := by
                have h1 := bes_few hwb z
                have h3 := pm.length_eq
                rw [List.length_append] at h3
                omega
              walk_at "rr"
              refine ⟨p, st, ss, ks, _, rfl, hpl5, hwb.two, by omega, by omega, .split z n mv ms hst6 hmv5 hms10, fun q H4 ss2 ks2 hq S4 hpl4 hof4 => ?_⟩
              have hperm : ((n :: us) ++ ls).Perm (us ++ n :: ls) := List.perm_middle.symm
              have hnus : ¬ n ∈ us := by
                have := hperm.nodup_iff.mpr hnd'
                exact fun hm => (List.nodup_cons.mp this).1 (List.mem_append_left _ hm)
              obtain ⟨w1, w2, w3, w4⟩ := step_split hwb hss hz hnus pm hof4
              have w3 : ks2 ≠ [] := fun e => w3 (by rw [e]; rfl)
              exact ⟨_, _, _, lq, q, ls, n :: us, ss2, ks2, _, rfl, gg3.same S4, S4 _ _ hns5, S4 _ _ hs5, by rw [List.length_append]; exact Nat.succ_le_succ hxl, hst5.go gg3.dice ((Go.refl gg3.dice).same S4), S4 _ _ hl5, hlqs, hpl4, w1, w2, hperm.nodup_iff.mpr hnd', fun x hx => h16 x (hperm.mem_iff.mp hx), by rw [hperm.length_eq]; exact hlen, w3, w4⟩
        · rintro σ H' ⟨vt, vst, vsp, ll, p, ls, us, ss, ks, xs, rfl, gg, hns', hs', hxl, hst', hl', hlls, hpl, hwb, hss, hnd', h16, hlen, hks0, hss0⟩
          walk_at "rr"
          refine ⟨an, _, 0, .str hub, rfl, rfl, SqL.of hns', atI_nat (j := 0) (by rw [ens]; rfl), ?_⟩
          walk_at "rr"
          refine ⟨(by omega : (2 : Nat) ≤ sizeLine), fun t ht => ?_⟩
          have St := same_new (o := .tup [.str hub, .ref rp]) ht
          walk_at "rr"
          refine ⟨(by omega : (3 : Nat) ≤ sizeLine), fun lf hlf => ?_⟩
          have g20 := gg.new (o := .tup [.str hub, .ref rp]) ht
          have hul := nodup_le hwb.as.nodup hss
          rw [List.length_append] at hlen
          exact k lf t sl p _ ss ks (g20.new hlf) (g20.free hlf) upd_same ((hpl.same St).same (same_new hlf)) hwb (fun x hx => h16 x (List.mem_append_left _ (hss x hx))) (by omega) hks0 hss0
      · walk_at "rr"
        have hmx : ∀ x : Int, x = (if (if (m : Int) - 4 < 3 then (m : Int) - 4 else 3) > 1 then (if (m : Int) - 4 < 3 then (m : Int) - 4 else 3) else 1) → 0 < x ∧ x ≤ 3 ∧ x ≤ (m : Int) - 4 := fun x e => by
          subst e
          by_cases q1 : (m : Int) - 4 < 3
          · rw [if_pos q1]
            by_cases q2 : (m : Int) - 4 > 1
            · rw [if_pos q2]; omega
            · rw [if_neg q2]; omega
          · rw [if_neg q1, if_pos (by decide)]; omega
        obtain ⟨hx1, hx2, hx3⟩ := hmx _ rfl
        refine roll_go g4.dice hx1 (by omega) fun r2 H5 r20 r21 g5' => ?_
        have g5 := g4.trans g5'
        have h5n := g5'.keep _ _ (dice_ne_strs g4.dice h4n) h4n
        obtain ⟨r2, rfl⟩ : ∃ z : Nat, r2 = z := ⟨r2.toNat, by omega⟩
        walk_at "rr"
        refine ⟨an, _, rfl, SqL.of h5n, fun c1 hc1 => ?_⟩
        rw [(show (4 : Int) + (r2 : Int) + 1 = ((4 + r2 + 1 : Nat) : Int) by omega), cut_mid, ← List.map_drop, ← List.map_take]
        have g6 := Go.new g5 (o := .lst (((ns.drop 1).take (4 + r2)).map V.str)) hc1
        have hns6 := same_new (o := .lst (((ns.drop 1).take (4 + r2)).map V.str)) hc1 _ _ h5n
        walk_at "rr"
        refine ⟨c1, _, rfl, upd_same, by rw [List.length_take, List.length_drop]; omega, by rw [List.length_take, List.length_drop]; omega, fun rp H7 rs hrp S7 hrp7 pmr => ?_⟩
        have g7 := g6.same S7
        have hns7 := S7 _ _ hns6
        walk_at "rr"
        refine ⟨an, _, 0, .str hub, rfl, rfl, SqL.of hns7, atI_nat (j := 0) (by rw [ens]; rfl), ?_⟩
        walk_at "rr"
        have hrsl : rs.length = (4 + r2) := by
          have := pmr.length_eq
          rw [List.length_take, List.length_drop] at this
          omega
        refine ⟨rp, hub, rs, rfl, .inr hrp7, by omega, fun p H8 ss ks hp0 S8 hpl hof => ?_⟩
        have g8 := g7.same S8
        have hns8 := S8 _ _ hns7
        refine ⟨Nat.zero_le _, fun sl hsl => ?_⟩
        have g9 := g8.new (o := .lst []) hsl
        have S9 := same_new (o := .lst []) hsl
        have hsd : sl ≠ d := g8.at_ne hsl
        have hsan : an ≠ sl := ne_of_none hns8 hsl
        have hsl0 : H sl = none := g8.free hsl
        have hns9 := S9 _ _ hns8
        walk_at "rr"
        refine ⟨an, _, rfl, SqL.of hns9, fun ll hll => ?_⟩
        rw [(show (4 : Int) + (r2 : Int) + 1 = ((4 + r2 + 1 : Nat) : Int) by omega), cut_from, ← List.map_drop]
        have g10 := g9.new (o := .lst ((ns.drop ((4 + r2) + 1)).map V.str)) hll
        have S10 := same_new (o := .lst ((ns.drop ((4 + r2) + 1)).map V.str)) hll
        have hlls : sl ≠ ll := ne_of_none upd_same hll
        have hs10 := S10 _ _ (upd_same (H := H8) (a := sl) (o := .lst []))
        have hl10 : (upd (upd H8 sl (.lst [])) ll (.lst ((ns.drop ((4 + r2) + 1)).map V.str))) ll = some (.lst ((ns.drop ((4 + r2) + 1)).map V.str)) := upd_same
        have hns10 := S10 _ _ hns9
        have hpl10 := (hpl.same S9).same S10
        obtain ⟨H10, e10⟩ : ∃ X, upd (upd H8 sl (.lst [])) ll (.lst ((ns.drop ((4 + r2) + 1)).map V.str)) = X := ⟨_, rfl⟩
        rw [e10] at g10 hs10 hl10 hns10 hpl10 ⊢
        have hnd2 := hnd
        rw [ens] at hnd2
        have hub0 : ¬ hub ∈ rs := fun hm => by
          have := List.mem_of_mem_take (pmr.mem_iff.mp hm)
          rw [ens] at this
          exact (List.nodup_cons.mp hnd2).1 this
        have hrsn : rs.Nodup := by
          refine pmr.nodup_iff.mpr ?_
          rw [ens]
          exact (List.nodup_cons.mp hnd2).2.sublist (List.take_sublist _ _)
        have hwb : Wb ss (ks.map (·.2)) := Wb.of hof fun t ht => by
          rcases List.mem_append.mp ht with ht | ht
          · obtain ⟨x, hx, rfl⟩ := List.mem_map.mp ht
            exact ⟨hub, x, rfl, fun e => hub0 (by rw [e]; exact hx)⟩
          · obtain ⟨a, b, e, hab, _⟩ := cyc_ne hrsn (by omega) t ht
            exact ⟨a, b, e, hab⟩
        have hss : ∀ x ∈ ss, x ∈ hub :: rs := hof.sub (fun _ h => nomatch h) fun t ht x hx => by
          rcases List.mem_append.mp ht with ht | ht
          · obtain ⟨y, hy, rfl⟩ := List.mem_map.mp ht
            rcases List.mem_cons.mp hx with rfl | hx
            · exact List.mem_cons_self
            · rw [List.mem_singleton.mp hx]
              exact List.mem_cons_of_mem _ hy
          · obtain ⟨a, b, e, _, ha, hb⟩ := cyc_ne hrsn (by omega) t ht
            rw [e] at hx
            rcases List.mem_cons.mp hx with rfl | hx
            · exact List.mem_cons_of_mem _ ha
            · rw [List.mem_singleton.mp hx]
              exact List.mem_cons_of_mem _ hb
        have hks0 : ks.map (·.2) ≠ [] := hof.some (by
          intro e
          have := congrArg List.length e
          rw [List.length_append, List.length_map, cyc_len, hrsl, List.length_nil] at this
          omega)
        have hks0 : ks ≠ [] := fun e => hks0 (by rw [e]; rfl)
        have hss0 : ss ≠ [] := fun e => by
          cases ks with
          | nil => exact hks0 rfl
          | cons k ks =>
            obtain ⟨a, b, _, _, ha, _⟩ := hwb.el k.2 List.mem_cons_self
            rw [e] at ha
            cases ha
        have hall : (hub :: rs ++ ns.drop ((4 + r2) + 1)).Perm ns := by
          rw [ens]
          show (hub :: (rs ++ tl.drop (4 + r2))).Perm _
          refine List.Perm.cons _ ?_
          have h1 : rs.Perm (tl.take (4 + r2)) := by rw [ens] at pmr; exact pmr
          exact (h1.append_right _).trans (by rw [List.take_append_drop])
        walk_at "rr"
        refine roll_go g10.dice (by omega) (by omega) fun tn H11 tn0 tn1 g11 => ?_
        have g011 := g10.trans g11
        have hs11 := g11.keep _ _ hsd hs10
        have hl11 := g11.keep _ _ (dice_ne_strs g10.dice hl10) hl10
        have hns11 := g11.keep _ _ (dice_ne_strs g10.dice hns10) hns10
        have hpl11 := hpl10.go g10.dice g11
        obtain ⟨tn, rfl⟩ : ∃ z : Nat, tn = z := ⟨tn.toNat, by omega⟩
        have htn : tn ≤ 100 := by omega
        walk_at "rr"
        refine ⟨by omega, by omega, ?_⟩
        rw [Int.toNat_natCast]
        refine for_range (lo := 0) (n := tn) (fun i σ H' => ∃ (vt vst vsp : Option V) (ll p : Addr) (ls us ss : List Str) (ks : RefK) (xs : List V), σ = [some (.ref d), some (.int m), some (.int c), some (.ref an), vsp, some (.ref rp), some (.ref p), some (.ref sl), some (.ref ll), vt, vst] ∧
            Go d H H' ∧ H' an = some (.lst (ns.map V.str)) ∧ H' sl = some (.lst xs) ∧ xs.length ≤ i ∧ Steps H' xs ∧ H' ll = some (.lst (ls.map V.str)) ∧ sl ≠ ll ∧ Pln H' p ss ks ∧ Wb ss (ks.map (·.2)) ∧ (∀ x ∈ ss, x ∈ us) ∧ (us ++ ls).Nodup ∧ (∀ x ∈ us ++ ls, x ∈ names16) ∧ (us ++ ls).length ≤ m ∧ ks ≠ [] ∧ ss ≠ [])
          ⟨_, _, _, ll, p, _, hub :: rs, ss, ks, [], rfl, g011, hns11, hs11, Nat.zero_le _, (fun _ h => nomatch h), hl11, hlls, hpl11, hwb, hss, hall.nodup_iff.mpr hnd, fun x hx => hn16 x (hall.mem_iff.mp hx), by rw [hall.length_eq, hnl]; exact Nat.le_refl _, hks0, hss0⟩ ?_ ?_
        · clear hpl11 hl11 hs11 hns11 hpl10 hl10 hs10 hns10 hlls hpl hof hwb hss hks0 hss0 hall
          rintro i σ H' hi ⟨vt, vst, vsp, ll, p, ls, us, ss, ks, xs, rfl, gg, hns', hs', hxl, hst', hl', hlls, hpl, hwb, hss, hnd', h16, hlen, hks0, hss0⟩
          have hlen2 := hlen
          rw [List.length_append] at hlen2
          have hul := nodup_le hwb.as.nodup hss
          have hss7 : ss.length ≤ 7 := by omega
          have hok : ∀ x ∈ ss, PyData.strOk x = true := fun x hx => names_ok x (h16 x (List.mem_append_left _ (hss x hx)))
          have few := hwb.few7 hss7
          rw [List.length_map] at few
          walk_at "rr"
          refine ⟨Nat.zero_le _, fun e0 he0 => ?_⟩
          have S1 := same_new (o := .lst []) he0
          have gg1 := gg.new (o := .lst []) he0
          have he1 : (upd H' e0 (.lst [])) e0 = some (.lst []) := upd_same
          obtain ⟨H1, e1⟩ : ∃ X, upd H' e0 (.lst []) = X := ⟨_, rfl⟩
          rw [e1] at S1 gg1 he1 ⊢
          have hns1 := S1 _ _ hns'
          have hs1 := S1 _ _ hs'
          have hst1 : Steps H1 xs := hst'.go gg.dice ((Go.refl gg.dice).same S1)
          have hl1 := S1 _ _ hl'
          have hpl1 := hpl.same S1
          have hlsd := dice_ne_strs gg1.dice hl1
          have hansd := dice_ne_strs gg1.dice hns1
          walk_at "rr"
          refine ⟨ll, e0, _, rfl, rfl, SqL.of hl1, SqL.of he1, ?_⟩
          walk_at "rr"
          cases ls with
          | nil =>
            refine ifF rfl ?_
            walk_at "rr"
            refine ⟨d, p, .non, ss, ks, rfl, gg1.dice, hpl1, hwb, hok, hss7, .inl rfl, fun H2 g2 => ?_, fun st H2 a b g2 hst0 hst2 ha hb hab _ => ?_, fun st mv H2 z n ms rest e => by cases e⟩
            · walk_at "rr"
              refine ⟨rfl, _, rfl, ?_⟩
              refine ifF rfl ?_
              walk_at "rr"
              exact ⟨_, _, _, ll, p, _, us, ss, ks, xs, rfl, gg1.trans g2, g2.keep _ _ hansd hns1, g2.keep _ _ hsd hs1, by omega, hst1.go gg1.dice g2, g2.keep _ _ hlsd hl1, hlls, hpl1.go gg1.dice g2, hwb, hss, hnd', h16, hlen, hks0, hss0⟩
            · have gg2 := gg1.trans g2
              have hns2 := g2.keep _ _ hansd hns1
              have hs2 := g2.keep _ _ hsd hs1
              have hl2 := g2.keep _ _ hlsd hl1
              have hst3 := hst1.go gg1.dice g2
              have hpl2 := hpl1.go gg1.dice g2
              walk_at "rr"
              refine ⟨rfl, _, rfl, ?_⟩
              refine ifT rfl ?_
              walk_at "rr"
              refine ⟨st, _, 0, .str "tie", rfl, rfl, SqT.of hst2, rfl, ?_⟩
              walk_at "rr"
              refine ⟨rfl, _, rfl, ?_⟩
              refine ifF (by decide +kernel) ?_
              walk_at "rr"
              refine ⟨.inl ⟨rfl, _, SqL.of hs2⟩, ?_⟩
              walk_at "rr"
              refine ⟨sl, _, _, rfl, rfl, hs2, by omega, ?_⟩
              have hns3 : (upd H2 sl (.lst (xs ++ [.ref st]))) an = some (.lst (ns.map V.str)) := by rw [upd_ne hsan]; exact hns2
              have hl3 : (upd H2 sl (.lst (xs ++ [.ref st]))) ll = some (.lst _) := (upd_ne hlls.symm).trans hl2
              have hpl3 := hpl2.own (xs' := xs ++ [.ref st]) hs2 hst3 hwb.two hss0 hks0
              have hst4 : (upd H2 sl (.lst (xs ++ [.ref st]))) st = some (.tup [.str "tie", .str a, .str b]) := by
                rw [upd_ne (by rintro e; rw [e, hs2] at hst2; cases hst2)]
                exact hst2
              have hst5 : Steps (upd H2 sl (.lst (xs ++ [.ref st]))) (xs ++ [.ref st]) := fun v hv => by
                rcases List.mem_append.mp hv with hv | hv
                · exact hst3.own hs2 v hv
                · rw [List.mem_singleton.mp hv]
                  exact ⟨st, _, rfl, hst4, (show 3 ≤ 3 from Nat.le_refl 3)⟩
              have gg3 : Go d H (upd H2 sl (.lst (xs ++ [.ref st]))) := gg2.own hsl0 hsd
              have hs3 : (upd H2 sl (.lst (xs ++ [.ref st]))) sl = some (.lst (xs ++ [.ref st])) := upd_same
              obtain ⟨H3, e3'⟩ : ∃ X, upd H2 sl (.lst (xs ++ [.ref st])) = X := ⟨_, rfl⟩
              rw [e3'] at hns3 hl3 hpl3 hst4 hst5 gg3 hs3 ⊢
              walk_at "rr"
              refine ⟨p, st, ss, ks, _, rfl, hpl3, hwb.two, by omega, by omega, .tie a b hst4, fun q H4 ss2 ks2 hq S4 hpl4 hof4 => ?_⟩
              obtain ⟨w1, w2, w3, w4⟩ := step_tie hwb hss ha hb hab hof4 hss0
              have w3 : ks2 ≠ [] := fun e => w3 (by rw [e]; rfl)
              exact ⟨_, _, _, ll, q, _, us, ss2, ks2, _, rfl, gg3.same S4, S4 _ _ hns3, S4 _ _ hs3, by rw [List.length_append]; exact Nat.succ_le_succ hxl, hst5.go gg3.dice ((Go.refl gg3.dice).same S4), S4 _ _ hl3, hlls, hpl4, w1, w2, hnd', h16, hlen, w3, w4⟩
          | cons n ls =>
            refine ifT rfl ?_
            walk_at "rr"
            refine ⟨ll, _, 0, .str n, rfl, rfl, SqL.of hl1, atI_nat (j := 0) rfl, ?_⟩
            walk_at "rr"
            refine ⟨d, p, .str n, ss, ks, rfl, gg1.dice, hpl1, hwb, hok, hss7, .inr ⟨n, rfl⟩, fun H2 g2 => ?_, fun st H2 a b g2 hst0 hst2 ha hb hab _ => ?_, fun st mv H2 z n' ms rest e g2 hst0 hst2 hmv hz pm hm2 hr2 srt => ?_⟩
            · walk_at "rr"
              refine ⟨rfl, _, rfl, ?_⟩
              refine ifF rfl ?_
              walk_at "rr"
              exact ⟨_, _, _, ll, p, _, us, ss, ks, xs, rfl, gg1.trans g2, g2.keep _ _ hansd hns1, g2.keep _ _ hsd hs1, by omega, hst1.go gg1.dice g2, g2.keep _ _ hlsd hl1, hlls, hpl1.go gg1.dice g2, hwb, hss, hnd', h16, hlen, hks0, hss0⟩
            · have gg2 := gg1.trans g2
              have hns2 := g2.keep _ _ hansd hns1
              have hs2 := g2.keep _ _ hsd hs1
              have hl2 := g2.keep _ _ hlsd hl1
              have hst3 := hst1.go gg1.dice g2
              have hpl2 := hpl1.go gg1.dice g2
              walk_at "rr"
              refine ⟨rfl, _, rfl, ?_⟩
              refine ifT rfl ?_
              walk_at "rr"
              refine ⟨st, _, 0, .str "tie", rfl, rfl, SqT.of hst2, rfl, ?_⟩
              walk_at "rr"
              refine ⟨rfl, _, rfl, ?_⟩
              refine ifF (by decide +kernel) ?_
              walk_at "rr"
              refine ⟨.inl ⟨rfl, _, SqL.of hs2⟩, ?_⟩
              walk_at "rr"
              refine ⟨sl, _, _, rfl, rfl, hs2, by omega, ?_⟩
              have hns3 : (upd H2 sl (.lst (xs ++ [.ref st]))) an = some (.lst (ns.map V.str)) := by rw [upd_ne hsan]; exact hns2
              have hl3 : (upd H2 sl (.lst (xs ++ [.ref st]))) ll = some (.lst _) := (upd_ne hlls.symm).trans hl2
              have hpl3 := hpl2.own (xs' := xs ++ [.ref st]) hs2 hst3 hwb.two hss0 hks0
              have hst4 : (upd H2 sl (.lst (xs ++ [.ref st]))) st = some (.tup [.str "tie", .str a, .str b]) := by
                rw [upd_ne (by rintro e; rw [e, hs2] at hst2; cases hst2)]
                exact hst2
              have hst5 : Steps (upd H2 sl (.lst (xs ++ [.ref st]))) (xs ++ [.ref st]) := fun v hv => by
                rcases List.mem_append.mp hv with hv | hv
                · exact hst3.own hs2 v hv
                · rw [List.mem_singleton.mp hv]
                  exact ⟨st, _, rfl, hst4, (show 3 ≤ 3 from Nat.le_refl 3)⟩
              have gg3 : Go d H (upd H2 sl (.lst (xs ++ [.ref st]))) := gg2.own hsl0 hsd
              have hs3 : (upd H2 sl (.lst (xs ++ [.ref st]))) sl = some (.lst (xs ++ [.ref st])) := upd_same
              obtain ⟨H3, e3'⟩ : ∃ X, upd H2 sl (.lst (xs ++ [.ref st])) = X := ⟨_, rfl⟩
              rw [e3'] at hns3 hl3 hpl3 hst4 hst5 gg3 hs3 ⊢
              walk_at "rr"
              refine ⟨p, st, ss, ks, _, rfl, hpl3, hwb.two, by omega, by omega, .tie a b hst4, fun q H4 ss2 ks2 hq S4 hpl4 hof4 => ?_⟩
              obtain ⟨w1, w2, w3, w4⟩ := step_tie hwb hss ha hb hab hof4 hss0
              have w3 : ks2 ≠ [] := fun e => w3 (by rw [e]; rfl)
              exact ⟨_, _, _, ll, q, _, us, ss2, ks2, _, rfl, gg3.same S4, S4 _ _ hns3, S4 _ _ hs3, by rw [List.length_append]; exact Nat.succ_le_succ hxl, hst5.go gg3.dice ((Go.refl gg3.dice).same S4), S4 _ _ hl3, hlls, hpl4, w1, w2, hnd', h16, hlen, w3, w4⟩
            · cases e
              have gg2 := gg1.trans g2
              have hns2 := g2.keep _ _ hansd hns1
              have hs2 := g2.keep _ _ hsd hs1
              have hl2 := g2.keep _ _ hlsd hl1
              have hst3 := hst1.go gg1.dice g2
              have hpl2 := hpl1.go gg1.dice g2
              walk_at "rr"
              refine ⟨rfl, _, rfl, ?_⟩
              refine ifT rfl ?_
              walk_at "rr"
              refine ⟨st, _, 0, .str "split", rfl, rfl, SqT.of hst2, rfl, ?_⟩
              walk_at "rr"
              refine ⟨rfl, _, rfl, ?_⟩
              refine ifT (by decide +kernel) ?_
              walk_at "rr"
              refine ⟨ll, _, rfl, SqL.of hl2, fun lq hlq => ?_⟩
              rw [cut_from1]
              have Sq := same_new (o := .lst (((n :: ls).map V.str).drop 1)) hlq
              have ggq := gg2.new (o := .lst (((n :: ls).map V.str).drop 1)) hlq
              have hlqq : (upd H2 lq (.lst (((n :: ls).map V.str).drop 1))) lq = some (.lst (ls.map V.str)) := upd_same
              have hlqs : sl ≠ lq := ne_of_none hs2 hlq
              obtain ⟨H3, e3'⟩ : ∃ X, upd H2 lq (.lst (((n :: ls).map V.str).drop 1)) = X := ⟨_, rfl⟩
              rw [e3'] at Sq ggq hlqq ⊢
              have hns3 := Sq _ _ hns2
              have hs3 := Sq _ _ hs2
              have hst4 : Steps H3 xs := hst3.go gg2.dice ((Go.refl gg2.dice).same Sq)
              have hpl3 := hpl2.same Sq
              have hsp3 := Sq _ _ hst2
              have hmv3 := Sq _ _ hmv
              walk_at "rr"
              refine ⟨.inl ⟨rfl, _, SqL.of hs3⟩, ?_⟩
              walk_at "rr"
              refine ⟨sl, _, _, rfl, rfl, hs3, by omega, ?_⟩
              have hns5 : (upd H3 sl (.lst (xs ++ [.ref st]))) an = some (.lst (ns.map V.str)) := by rw [upd_ne hsan]; exact hns3
              have hl5 : (upd H3 sl (.lst (xs ++ [.ref st]))) lq = some (.lst _) := (upd_ne hlqs.symm).trans hlqq
              have hpl5 := hpl3.own (xs' := xs ++ [.ref st]) hs3 hst4 hwb.two hss0 hks0
              have hst6 : (upd H3 sl (.lst (xs ++ [.ref st]))) st = some (.tup [.str "split", .str z, .str n, .ref mv]) := by
                rw [upd_ne (by rintro e; rw [e, hs3] at hsp3; cases hsp3)]
                exact hsp3
              have hmv5 : (upd H3 sl (.lst (xs ++ [.ref st]))) mv = some (.tup (ms.map V.str)) := by
                rw [upd_ne (by rintro e; rw [e, hs3] at hmv3; cases hmv3)]
                exact hmv3
              have hst5 : Steps (upd H3 sl (.lst (xs ++ [.ref st]))) (xs ++ [.ref st]) := fun v hv => by
                rcases List.mem_append.mp hv with hv | hv
                · exact hst4.own hs3 v hv
                · rw [List.mem_singleton.mp hv]
                  exact ⟨st, _, rfl, hst6, (show 3 ≤ 4 from Nat.le_succ 3)⟩
              have gg3 : Go d H (upd H3 sl (.lst (xs ++ [.ref st]))) := ggq.own hsl0 hsd
              have hs5 : (upd H3 sl (.lst (xs ++ [.ref st]))) sl = some (.lst (xs ++ [.ref st])) := upd_same
              obtain ⟨H5, e5'⟩ : ∃ X, upd H3 sl (.lst (xs ++ [.ref st])) = X := ⟨_, rfl⟩
              rw [e5'] at hns5 hl5 hpl5 hst6 hmv5 hst5 gg3 hs5 ⊢
              have hms10 : ms.length ≤ 10 := by
                have h1 := bes_few hwb z
                have h3 := pm.length_eq
                rw [List.length_append] at h3
                omega
              walk_at "rr"
              refine ⟨p, st, ss, ks, _, rfl, hpl5, hwb.two, by omega, by omega, .split z n mv ms hst6 hmv5 hms10, fun q H4 ss2 ks2 hq S4 hpl4 hof4 => ?_⟩
              have hperm : ((n :: us) ++ ls).Perm (us ++ n :: ls) := List.perm_middle.symm
              have hnus : ¬ n ∈ us := by
                have := hperm.nodup_iff.mpr hnd'
                exact fun hm => (List.nodup_cons.mp this).1 (List.mem_append_left _ hm)
              obtain ⟨w1, w2, w3, w4⟩ := step_split hwb hss hz hnus pm hof4
              have w3 : ks2 ≠ [] := fun e => w3 (by rw [e]; rfl)
              exact ⟨_, _, _, lq, q, ls, n :: us, ss2, ks2, _, rfl, gg3.same S4, S4 _ _ hns5, S4 _ _ hs5, by rw [List.length_append]; exact Nat.succ_le_succ hxl, hst5.go gg3.dice ((Go.refl gg3.dice).same S4), S4 _ _ hl5, hlqs, hpl4, w1, w2, hperm.nodup_iff.mpr hnd', fun x hx => h16 x (hperm.mem_iff.mp hx), by rw [hperm.length_eq]; exact hlen, w3, w4⟩
        · rintro σ H' ⟨vt, vst, vsp, ll, p, ls, us, ss, ks, xs, rfl, gg, hns', hs', hxl, hst', hl', hlls, hpl, hwb, hss, hnd', h16, hlen, hks0, hss0⟩
          walk_at "rr"
          refine ⟨an, _, 0, .str hub, rfl, rfl, SqL.of hns', atI_nat (j := 0) (by rw [ens]; rfl), ?_⟩
          walk_at "rr"
          refine ⟨(by omega : (2 : Nat) ≤ sizeLine), fun t ht => ?_⟩
          have St := same_new (o := .tup [.str hub, .ref rp]) ht
          walk_at "rr"
          refine ⟨(by omega : (3 : Nat) ≤ sizeLine), fun lf hlf => ?_⟩
          have g20 := gg.new (o := .tup [.str hub, .ref rp]) ht
          have hul := nodup_le hwb.as.nodup hss
          rw [List.length_append] at hlen
          exact k lf t sl p _ ss ks (g20.new hlf) (g20.free hlf) upd_same ((hpl.same St).same (same_new hlf)) hwb (fun x hx => h16 x (List.mem_append_left _ (hss x hx))) (by omega) hks0 hss0
end
end K5
namespace K5
open PySem PySem.Spec PyProof.Rows L2 RS RZ
local macro_rules | `(tactic| walk_at "r1") => `(tactic| first | refine ⟨_, rfl, ?_⟩ | refine ⟨_, _, rfl, rfl, ?_⟩ | refine ⟨_, _, rfl, ?_⟩ | refine .inl ⟨_, rfl, ?_⟩ | refine .inr ⟨_, rfl, ?_⟩ | refine ⟨⟨_, rfl⟩, ?_⟩)
local macro_rules | `(tactic| walk_at "rr") => `(tactic| repeat walk_at "r1")
/-! ### _law_random -/
structure spAny (vs : List V) (H : Hp) (Q : VK) (E : XK) : Prop where
  h : ∃ (d : Addr) (m : Nat), vs = [.ref d, .int m] ∧ Dice H d ∧ 4 ≤ m ∧ m ≤ 7 ∧
    ∀ (p : Addr) (H' : Hp) (ss : List Str) (ks : RefK), Go d H H' → Pln H' p ss ks → Wb ss (ks.map (·.2)) → (∀ x ∈ ss, x ∈ names16) → ss.length ≤ m → ss ≠ [] → Q (.ref p) H'
/-- some of these ties -/
structure PvS (d D : Addr) (HX : Hp) (kp : RefK) (i : Nat) (H : Hp) : Prop where
  ks : ∃ kt : RefK, H D = some (.lst (rk kt)) ∧ kt.length ≤ i ∧ ∀ k ∈ kt, k ∈ kp
  g : Go d HX H
theorem PvS.start {d D : Addr} {HX : Hp} {kp : RefK} (hd : Dice HX d) (hD : HX D = none) : PvS d D HX kp 0 (upd HX D (.lst [])) := ⟨⟨[], upd_same, Nat.le_refl _, (fun _ h => nomatch h)⟩, (Go.refl hd).new hD⟩
theorem PvS.skip {d D : Addr} {HX H H' : Hp} {kp : RefK} {i : Nat} (h : PvS d D HX kp i H) (g : Go d H H') : PvS d D HX kp (i + 1) H' := by
  obtain ⟨⟨kt, a, b, c⟩, g0⟩ := h
  exact ⟨⟨kt, g.keep _ _ (dice_ne_refs g0.dice a) a, by omega, c⟩, g0.trans g⟩
theorem PvS.put {d D : Addr} {HX H H' : Hp} {kp : RefK} {i : Nat} {k : Addr × List Str} (h : PvS d D HX kp i H) (hD : HX D = none) (hDd : D ≠ d) (g : Go d H H') (hk : k ∈ kp) (hi : i ≤ 900) : ∃ acc, H' D = some (.lst acc) ∧ acc.length < sizeLine ∧ PvS d D HX kp (i + 1) (upd H' D (.lst (acc ++ [.ref k.1]))) := by
  obtain ⟨⟨kt, a, b, c⟩, g0⟩ := h
  have hz := line1000
  refine ⟨rk kt, g.keep _ _ (dice_ne_refs g0.dice a) a, by rw [rk_len]; omega, ⟨kt ++ [k], by rw [upd_same, rk_app]; rfl, by rw [List.length_append]; exact Nat.succ_le_succ b, fun q hq => ?_⟩, (g0.trans g).own hD hDd⟩
  rcases List.mem_append.mp hq with hq | hq
  · exact c q hq
  · rw [List.mem_singleton.mp hq]
    exact hk
theorem pairs_ks {ss : List Str} {kp : RefK} (nd : ss.Nodup) (pm : (kp.map (·.2)).Perm (pairsS ss)) : ∀ k ∈ kp, ∃ a b, k.2 = [a, b] ∧ a ≠ b ∧ a ∈ ss ∧ b ∈ ss := fun k hk => by
  obtain ⟨a, b, e, ha, hb, hne⟩ := pairs_el k.2 (pm.mem_iff.mp (List.mem_map_of_mem hk))
  obtain ⟨x, y, e2, hl, h3⟩ := tieS_ne (hne nd)
  have hxy : x ≠ y := fun e => by rw [e, ltS_irrefl] at hl; cases hl
  refine ⟨x, y, by rw [e, e2], hxy, ?_⟩
  rcases h3 with ⟨rfl, rfl⟩ | ⟨rfl, rfl⟩
  · exact ⟨ha, hb⟩
  · exact ⟨hb, ha⟩
theorem pairs_few {ss : List Str} {kp : RefK} (hs : ss.length ≤ 7) (pm : (kp.map (·.2)).Perm (pairsS ss)) : kp.length ≤ 21 := by
  have h1 := pm.length_eq
  rw [List.length_map] at h1
  have h2 := pairs_len ss
  have h3 : ss.length * (ss.length - 1) ≤ 7 * 6 := Nat.mul_le_mul hs (by omega)
  omega
section
variable {P : Program} {w : World} {K : PySem.W.Frag} {mg : Str → Option Value} {base : Heap}
theorem sc_random : FnScope ["dice", "most", "names", "share", "tie"] ["dice", "most"] (defScope s_law_random) := ⟨rfl, rfl, rfl, by decide +kernel, rfl, by decide +kernel, by decide +kernel⟩
theorem ok_law_random {f : Addr} {fd : FuncData} (F : Fun K "_law_random" "_law_random" s_law_random f fd) (T : Txt K mg) (DR : Dfn P w K mg base "_law_roll" 1 ["dice", "total"] spRoll) (DP : Dfn P w K mg base "_law_pick" 2 ["dice", "items"] spPick) (DM : Dfn P w K mg base "_law_mixed" 2 ["dice", "items"] spMixed) (DN : Dfn P w K mg base "_law_names" 1 [] spNames)
    (DA : Dfn P w K mg base "_law_pairs" 2 ["places"] spPairs) (DL : Dfn P w K mg base "_law_plain" 2 ["places", "ties"] spPlain) : FnOk P w K mg base CX0 3 f fd ["dice", "most"] spAny := by
  refine F.ok sc_random (fun vs H Q E h => ?_) (fun cdv A outer s H vs Q E hr h => ?_)
  · obtain ⟨d, m, rfl, _⟩ := h
    rfl
  · obtain ⟨d, m, rfl, hd, hm4, hm7, k⟩ := h
    have hr1 := hr.mono (by decide : 1 ≤ 2)
    refine ⟨_, pss_cons (ps_set (i := 2) sc_random.nd rfl (Or.inl rfl) (pe_callB cr_sortedS (by rfl) T.n_sorted (by decide +kernel) (pa_cons (pe_slice sl_list (pe_d DM hr (pa_cons (pv 0) (pa_cons (pe_d0 DN hr1) pa_nil))) po_none (po_some (pe_op op_add pe_int (pe_d DR hr1 (pa_cons (pv 0) (pa_cons (pv 1) pa_nil)))))) pa_nil)))
      (pss_cons (ps_set (i := 3) sc_random.nd rfl (Or.inr rfl) (pe_d DP hr (pa_cons (pv 0) (pa_cons (pe_lst (pa_cons pe_int (pa_cons pe_int (pa_cons pe_int (pa_cons pe_int (pa_cons pe_int pa_nil)))))) pa_nil))))
      (pss_one (ps_ret (pe_d DL hr (pa_cons (pv 2) (pa_cons
        (pe_lc (own := [("tie", 4)]) (g := gName 4) rfl sc_random.nd (pi_list (pe_d DA hr (pa_cons (pv 2) pa_nil))) (blkOk_by (own := [("tie", 4)]) (N := ["dice", "most", "names", "share", "tie"]) (sc := defScope s_law_random) (by decide +kernel))
          (fun _ _ _ _ _ => pg_name (i := 4) sc_random.nd rfl (Or.inl rfl)) (fun _ _ _ _ _ => pts_one (pt_cmpR op_lt (pe_d DR hr1 (pa_cons (pv 0) (pa_cons pe_int pa_nil))) (pv 3) (nomark _))) (fun _ _ _ _ _ => pv 4)) pa_nil)))))), ?_⟩
    have hz : (1000 : Nat) < sizeLine := line1000
    walk_at "rr"
    refine ⟨rfl, fun n0 hn0 => ?_⟩
    have g1 := (Go.refl hd).new (o := .lst (names16.map V.str)) hn0
    walk_at "rr"
    refine ⟨d, n0, _, g1.dice, rfl, upd_same, (by decide : (16 : Nat) ≤ 1000), g1.at_ne' hn0 hd, fun q zs H2 g2 hq hqd hq2 pm => ?_⟩
    obtain ⟨zs, rfl, pmz⟩ := perm_strs pm
    have g02 := g1.trans g2
    walk_at "rr"
    refine roll_go g02.dice (by omega) (by omega) fun r1 H3 r10 r11 g3' => ?_
    have g3 := g02.trans g3'
    have hq3 := g3'.keep _ _ hqd hq2
    obtain ⟨r1, rfl⟩ : ∃ z : Nat, r1 = z := ⟨r1.toNat, by omega⟩
    walk_at "rr"
    refine ⟨q, _, rfl, SqL.of hq3, fun an han => ?_⟩
    rw [show ((1 : Int) + (r1 : Int)) = ((1 + r1 : Nat) : Int) by omega, cut_to, ← List.map_take]
    obtain ⟨ns, ens0⟩ : ∃ l, zs.take (1 + r1) = l := ⟨_, rfl⟩
    have hz16 : zs.length = 16 := pmz.length_eq
    have hnl : ns.length = 1 + r1 := by rw [← ens0, List.length_take]; omega
    have hnd : ns.Nodup := by rw [← ens0]; exact (pmz.nodup_iff.mpr names_nd).sublist (List.take_sublist _ _)
    have hn16 : ∀ x ∈ ns, x ∈ names16 := fun x hx => by
      rw [← ens0] at hx
      exact pmz.mem_iff.mp (List.mem_of_mem_take hx)
    rw [ens0]
    have g4 := g3.new (o := .lst (ns.map V.str)) han
    walk_at "rr"
    refine ⟨an, ns, rfl, SqL.of upd_same, by omega, fun ms np pmn srt hnp => ?_⟩
    have g5 := g4.new (o := .lst (ms.map V.str)) hnp
    have h5 : (upd (upd H3 an (.lst (ns.map V.str))) np (.lst (ms.map V.str))) np = some (.lst (ms.map V.str)) := upd_same
    obtain ⟨H5, e5⟩ : ∃ X, upd (upd H3 an (.lst (ns.map V.str))) np (.lst (ms.map V.str)) = X := ⟨_, rfl⟩
    rw [e5] at g5 h5 ⊢
    walk_at "rr"
    refine ⟨(by omega : (5 : Nat) ≤ sizeLine), fun sh hsh => ?_⟩
    refine pick_new g5.dice hsh (by simp) (show (5 : Nat) ≤ 1000 by decide) fun y H6 hy g6' => ?_
    obtain ⟨share, rfl⟩ : ∃ i : Int, y = .int i := by
      simp only [List.mem_cons, List.not_mem_nil, or_false] at hy
      rcases hy with rfl | rfl | rfl | rfl | rfl <;> exact ⟨_, rfl⟩
    have g6 := g5.trans g6'
    have h6 := g6'.keep _ _ (dice_ne_strs g5.dice h5) h5
    walk_at "rr"
    have hml := pmn.length_eq
    refine ⟨np, ms, rfl, .inl h6, by omega, fun lp H7 kp hlp S7 hlp7 hkp pm7 srt7 => ?_⟩
    have few := pairs_few (by omega) pm7
    have hks := pairs_ks (pmn.nodup_iff.mpr hnd) pm7
    have g7 := g6.same S7
    have h7 := S7 _ _ h6
    walk_at "rr"
    refine ⟨⟨_, SqL.of hlp7⟩, fun D hD => ?_⟩
    have hDd : D ≠ d := g7.at_ne hD
    have hlpd := dice_ne_refs g7.dice hlp7
    refine lc_list (K := K) (a := lp) (xs := rk kp) (PvS d D H7 kp) (PvS.start g7.dice hD) (fun i H8 _ hP => SqL.of (hP.g.keep _ _ hlpd hlp7)) ?_ ?_
    · rintro i x H8 hx hP
      obtain ⟨q0, hq0, rfl⟩ := rk_at hx
      have hmem := List.mem_of_getElem? hq0
      have hi := (List.getElem?_eq_some_iff.mp hq0).1
      walk_at "rr"
      refine ⟨rfl, ?_⟩
      walk_at "rr"
      refine roll_go hP.g.dice (by decide) (by decide) fun r2 H9 r20 r21 g9 => ?_
      walk_at "rr"
      refine ite2 (fun _ => ?_) (fun _ => ?_)
      · walk_at "rr"
        exact hP.put hD hDd g9 hmem (by omega)
      · exact hP.skip g9
    · rintro H8 hP
      obtain ⟨⟨kt, hkD, hkl, hkk⟩, g8⟩ := hP
      rw [rk_len] at hkl
      have g08 := g7.trans g8
      have hnp8 := g8.keep _ _ (dice_ne_strs g7.dice h7) h7
      have hkt : TK H8 kt := fun q hq => g8.keep _ _ (dice_ne_tup g7.dice (hkp q (hkk q hq))) (hkp q (hkk q hq))
      walk_at "rr"
      refine ⟨np, D, ms, kt, rfl, .inl hnp8, hkD, hkt, fun q hq => ?_, by omega, by omega, fun p H10 ss ks hp S10 hpl hof => ?_⟩
      · obtain ⟨a, b, e, _⟩ := hks q (hkk q hq)
        exact ⟨a, b, e⟩
      · have hne : ∀ t ∈ kt.map (·.2), ∃ a b, t = [a, b] ∧ a ≠ b ∧ a ∈ ms ∧ b ∈ ms := fun t ht => by
          obtain ⟨q, hq, rfl⟩ := List.mem_map.mp ht
          exact hks q (hkk q hq)
        have hsub : ∀ x ∈ ss, x ∈ ms := hof.sub (fun _ h => h) fun t ht x hx => by
          obtain ⟨a, b, e, _, ha, hb⟩ := hne t ht
          rw [e] at hx
          rcases List.mem_cons.mp hx with rfl | hx
          · exact ha
          · rw [List.mem_singleton.mp hx]
            exact hb
        have hlen := nodup_le hof.as.nodup hsub
        refine k p H10 ss ks (g08.same S10) hpl (Wb.of hof fun t ht => ?_) (fun x hx => hn16 x (pmn.mem_iff.mp (hsub x hx))) (by omega) fun e => ?_
        · obtain ⟨a, b, e, hab, _⟩ := hne t ht
          exact ⟨a, b, e, hab⟩
        · cases ms with
          | nil => rw [List.length_nil] at hml; omega
          | cons x ms =>
            have := (hof.ms x).mpr (.inl List.mem_cons_self)
            rw [e] at this
            cases this
end
end K5
namespace K5
open PySem PySem.Spec PyProof.Rows L2 RS RZ
local macro_rules | `(tactic| walk_at "r1") => `(tactic| first | refine ⟨_, rfl, ?_⟩ | refine ⟨_, _, rfl, rfl, ?_⟩ | refine ⟨_, _, rfl, ?_⟩ | refine .inl ⟨_, rfl, ?_⟩ | refine .inr ⟨_, rfl, ?_⟩ | refine ⟨⟨_, rfl⟩, ?_⟩)
local macro_rules | `(tactic| walk_at "rr") => `(tactic| repeat walk_at "r1")
/-! ### _law_any -/
def rNeTT : R2 := fun x y H Q => ∃ (a b : Addr) (t u : List Str), x = .ref a ∧ y = .ref b ∧ H a = some (.tup (t.map V.str)) ∧ H b = some (.tup (u.map V.str)) ∧ okT t ∧ okT u ∧ Q (.bl (!decide (t = u))) H
theorem op_neTT {X : Cx} (hu : X.A.units + 64 < cLine) : OpR X (compareOp .NotEq) rNeTT := by
  intro pins s σ H x y v u Q I rx ry h
  obtain ⟨a, b, t, u', rfl, rfl, ha, hb, ot, ou, q⟩ := h
  have sh : ∀ t, okT t → SeqAt.shaped (tD t) = true := fun t ot => by
    obtain ⟨h1, h2⟩ := tD_ok t ot
    unfold SeqAt.shaped
    rw [h1, h2]
    rfl
  refine op_neD hu pins s σ H _ _ v u Q I rx ry ⟨tD t, tD u', .tup (SqT.of ha) (dp_strs t), .tup (SqT.of hb) (dp_strs u'), sh t ot, sh u' ou, ?_⟩
  rw [eqv_tD]
  exact q
section
variable {P : Program} {w : World} {K : PySem.W.Frag} {mg : Str → Option Value} {base : Heap}
theorem sc_any : FnScope ["dice", "most", "way", "names", "ties", "at", "tie", "plain", "gone"] ["dice", "most"] (defScope s_law_any) := ⟨rfl, rfl, rfl, by decide +kernel, rfl, by decide +kernel, by decide +kernel⟩
theorem ok_law_any {f : Addr} {fd : FuncData} (F : Fun K "_law_any" "_law_any" s_law_any f fd) (T : Txt K mg) (DR : Dfn P w K mg base "_law_roll" 1 ["dice", "total"] spRoll) (DP : Dfn P w K mg base "_law_pick" 2 ["dice", "items"] spPick) (DM : Dfn P w K mg base "_law_mixed" 2 ["dice", "items"] spMixed) (DN : Dfn P w K mg base "_law_names" 1 [] spNames)
    (DA : Dfn P w K mg base "_law_pairs" 2 ["places"] spPairs) (DL : Dfn P w K mg base "_law_plain" 2 ["places", "ties"] spPlain) (DG : Dfn P w K mg base "_law_grown" 4 ["dice", "places", "count"] spGrown) (DY : Dfn P w K mg base "_law_random" 3 ["dice", "most"] spAny) : FnOk P w K mg base CX0 5 f fd ["dice", "most"] spAny := by
  refine F.ok sc_any (fun vs H Q E h => ?_) (fun cdv A outer s H vs Q E hr h => ?_)
  · obtain ⟨d, m, rfl, _⟩ := h
    rfl
  · obtain ⟨d, m, rfl, hd, hm4, hm7, k⟩ := h
    have hu := hu_of hr
    have hr1 := hr.mono (by decide : 1 ≤ 4)
    have hr2 := hr.mono (by decide : 2 ≤ 4)
    have hr3 := hr.mono (by decide : 3 ≤ 4)
    have hu64 := hr.units
    refine ⟨_, pss_cons (ps_set (i := 2) sc_any.nd rfl (Or.inl rfl) (pe_d DR hr1 (pa_cons (pv 0) (pa_cons pe_int pa_nil))))
      (pss_cons (ps_if (pt_cmpR op_lt (pv 2) pe_int (nomark _)) (pss_one (ps_ret (pe_ifExp (pt_cmpR op_gt (pv 1) pe_int (nomark _)) (pe_ix ix_list (pe_d DG hr (pa_cons (pv 0) (pa_cons (pv 1) (pa_cons pe_int pa_nil)))) pe_int (fun _ _ => rfl)) (pe_d DY hr3 (pa_cons (pv 0) (pa_cons (pv 1) pa_nil)))))) pss_nil)
      (pss_cons (ps_if (PW.pt (pw_and (pt_cmpR op_eq (pv 2) pe_int (nomark _)) (pw_and1 (pt_cmpR op_gt (pv 1) pe_int (nomark _))))) (pss_one ps_never) pss_nil)
      (pss_cons (ps_if (pt_cmpR op_eq (pv 2) pe_int (nomark _))
          (pss_cons (ps_set (i := 3) sc_any.nd rfl (Or.inr rfl) (pe_slice sl_list (pe_d DM hr2 (pa_cons (pv 0) (pa_cons (pe_d0 DN hr1) pa_nil))) po_none (po_some (pe_op op_add pe_int (pe_d DR hr1 (pa_cons (pv 0) (pa_cons (pe_callB (call_max2 rfl) (by rfl) T.n_max (by decide +kernel) (pa_cons pe_int (pa_cons (pe_op op_sub (pv 1) pe_int) pa_nil))) pa_nil)))))))
          (pss_cons (ps_setLc (i := 4) (own := [("at", 5)]) (g := gName 5) (tt := tYes) rfl sc_any.nd rfl rfl (sw_true rfl rfl rfl (by decide +kernel)) (pi_range1 (by rfl) T.n_range (pa_cons (pe_callB call_len (by rfl) T.n_len (by decide +kernel) (pa_cons (pv 3) pa_nil)) pa_nil)) (blkOk_by (own := [("at", 5)]) (N := ["dice", "most", "way", "names", "ties", "at", "tie", "plain", "gone"]) (sc := defScope s_law_any) (by decide +kernel))
            (fun _ _ _ _ _ => pg_name (i := 5) sc_any.nd rfl (Or.inl rfl)) (fun _ _ _ _ _ => pts_nil) (fun _ _ _ _ _ => pe_tup (pa_cons (pe_ix (show IxR _ (rIxA2 K) from ix_sq) (pv 3) (pv 5) (fun _ _ => rfl)) (pa_cons (pe_ix (show IxR _ (rIxA2 K) from ix_sq) (pv 3) (pe_op op_sub (pv 5) pe_int) (fun _ _ => rfl)) pa_nil))))
          (pss_one (ps_ret (pe_d DL hr2 (pa_cons (pe_lst pa_nil) (pa_cons (pe_op op_cat (pv 4)
            (pe_lc (own := [("tie", 6)]) (g := gName 6) rfl sc_any.nd (pi_list (pe_d DA hr2 (pa_cons (pv 3) pa_nil))) (blkOk_by (own := [("tie", 6)]) (N := ["dice", "most", "way", "names", "ties", "at", "tie", "plain", "gone"]) (sc := defScope s_law_any) (by decide +kernel))
              (fun _ _ _ _ _ => pg_name (i := 6) sc_any.nd rfl (Or.inl rfl)) (fun _ _ _ _ _ => pts_one (pt_cmpR op_eq (pe_d DR hr1 (pa_cons (pv 0) (pa_cons pe_int pa_nil))) pe_int (nomark _))) (fun _ _ _ _ _ => pv 6))) pa_nil))))))) pss_nil)
      (pss_cons (ps_if (PW.pt (pw_and (pt_cmpR op_eq (pv 2) pe_int (nomark _)) (pw_and1 (pt_cmpR op_gt (pv 1) pe_int (nomark _)))))
          (pss_cons (ps_set (i := 7) sc_any.nd rfl (Or.inl rfl) (pe_ix ix_list (pe_d DG hr (pa_cons (pv 0) (pa_cons (pv 1) (pa_cons pe_int pa_nil)))) pe_int (fun _ _ => rfl)))
          (pss_cons (ps_set (i := 8) sc_any.nd rfl (Or.inr rfl) (pe_d DP hr2 (pa_cons (pv 0) (pa_cons (pe_dget hu (pv 7) pe_str (fun _ _ => rfl)) pa_nil))))
          (pss_one (ps_ret (pe_d DL hr2 (pa_cons (pe_dget hu (pv 7) pe_str (fun _ _ => rfl)) (pa_cons
            (pe_lc (own := [("tie", 6)]) (g := gName 6) rfl sc_any.nd (pi_list (pe_dget hu (pv 7) pe_str (fun _ _ => rfl))) (blkOk_by (own := [("tie", 6)]) (N := ["dice", "most", "way", "names", "ties", "at", "tie", "plain", "gone"]) (sc := defScope s_law_any) (by decide +kernel))
              (fun _ _ _ _ _ => pg_name (i := 6) sc_any.nd rfl (Or.inl rfl)) (fun _ _ _ _ _ => pts_one (pt_cmpR (show OpR _ _ rNeTT from op_neTT hu64) (pv 6) (pv 8) (nomark _))) (fun _ _ _ _ _ => pv 6)) pa_nil)))))) ) pss_nil)
      (pss_one (ps_ret (pe_d DY hr3 (pa_cons (pv 0) (pa_cons (pv 1) pa_nil))))))))), ?_⟩
    have hz : (1000 : Nat) < sizeLine := line1000
    walk_at "rr"
    refine roll_go hd (by decide) (by decide) fun wy H1 w0 w1 g1 => ?_
    walk_at "rr"
    refine ite2 (fun c1 => ?_) (fun c1 => ?_)
    · walk_at "rr"
      refine ifT (decide_eq_true (by omega)) ?_
      walk_at "rr"
      refine ⟨d, m, 4, rfl, g1.dice, hm4, hm7, by decide, fun l t sl p H2 ss ks g2 hl0 hl2 hpl hw h16 hlen hk0 hs0 => ?_⟩
      walk_at "rr"
      refine ⟨l, _, 2, .ref p, rfl, rfl, SqL.of hl2, rfl, ?_⟩
      exact k p H2 ss ks (g1.trans g2) hpl hw h16 hlen hs0
    walk_at "rr"
    refine ⟨rfl, _, rfl, ?_⟩
    refine ite_on (fun _ hN => ?_) (fun _ hN => hN) ?_
    · walk_at "rr"
      exact ifF (decide_eq_false (by omega)) hN
    walk_at "rr"
    refine ⟨rfl, _, rfl, ?_⟩
    refine ite2 (fun c3 => ?_) (fun c3 => ?_)
    · walk_at "rr"
      refine ⟨rfl, fun n0 hn0 => ?_⟩
      have g2 := g1.new (o := .lst (names16.map V.str)) hn0
      walk_at "rr"
      refine ⟨d, n0, _, g2.dice, rfl, upd_same, (by decide : (16 : Nat) ≤ 1000), g2.at_ne' hn0 g1.dice, fun q zs H2 g2' hq hqd hq2 pm => ?_⟩
      obtain ⟨zs, rfl, pmz⟩ := perm_strs pm
      have g02 := g2.trans g2'
      have hmx : ∀ x : Int, x = (if (m : Int) - 2 > 1 then (m : Int) - 2 else 1) → x = (m : Int) - 2 := fun x e => by
        rw [if_pos (by omega)] at e
        exact e
      have hx := hmx _ rfl
      walk_at "rr"
      refine roll_go g02.dice (by rw [hx]; omega) (by rw [hx]; omega) fun r1 H3 r10 r11 g3' => ?_
      rw [hx] at r11
      have g3 := g02.trans g3'
      have hq3 := g3'.keep _ _ hqd hq2
      obtain ⟨r1, rfl⟩ : ∃ z : Nat, r1 = z := ⟨r1.toNat, by omega⟩
      walk_at "rr"
      refine ⟨q, _, rfl, SqL.of hq3, fun an han => ?_⟩
      rw [show ((3 : Int) + (r1 : Int)) = ((3 + r1 : Nat) : Int) by omega, cut_to, ← List.map_take]
      obtain ⟨ns, ens0⟩ : ∃ l, zs.take (3 + r1) = l := ⟨_, rfl⟩
      have hz16 : zs.length = 16 := pmz.length_eq
      have hnl : ns.length = 3 + r1 := by rw [← ens0, List.length_take]; omega
      have hnd : ns.Nodup := by rw [← ens0]; exact (pmz.nodup_iff.mpr names_nd).sublist (List.take_sublist _ _)
      have hn16 : ∀ x ∈ ns, x ∈ names16 := fun x hx => by
        rw [← ens0] at hx
        exact pmz.mem_iff.mp (List.mem_of_mem_take hx)
      rw [ens0]
      have g4 := g3.new (o := .lst (ns.map V.str)) han
      have h4 : (upd H3 an (.lst (ns.map V.str))) an = some (.lst (ns.map V.str)) := upd_same
      obtain ⟨H4, e4⟩ : ∃ X, upd H3 an (.lst (ns.map V.str)) = X := ⟨_, rfl⟩
      rw [e4] at g4 h4 ⊢
      walk_at "rr"
      refine ⟨_, ns.length, rfl, .inl ⟨_, SqL.of h4, by rw [List.length_map]⟩, ?_⟩
      refine ⟨_, rfl, by omega, by omega, fun D hD => ?_⟩
      rw [Int.toNat_natCast]
      refine lc_range (lo := 0) (n := ns.length) (PvT H4 D (cyc ns)) (PvT.start hD) ?_ ?_
      · rintro i H5 hi hP
        have h5 := hP.s _ _ h4
        walk_at "rr"
        refine ⟨rfl, ?_⟩
        walk_at "rr"
        refine ⟨an, _, _, _, rfl, rfl, .inl (SqL.of h5), by rw [Int.zero_add]; exact atI_nat (at_str hi), ?_⟩
        walk_at "rr"
        refine ⟨an, _, _, _, rfl, rfl, .inl (SqL.of h5), by rw [Int.zero_add]; exact atI_bef hi, ?_⟩
        walk_at "rr"
        refine ⟨(by omega : (2 : Nat) ≤ sizeLine), fun t ht => ?_⟩
        exact hP.put (t := [ns.getD i "", befS ns i]) hD (by rw [cyc_len]; omega) (cyc_at hi) ht
      · rintro H5 hP
        have S5 := hP.s
        rw [← cyc_len ns] at hP
        obtain ⟨kc, hkD, hkc, hkm⟩ := hP.fin
        have hkcl : kc.length = ns.length := by have := congrArg List.length hkm; rwa [List.length_map, cyc_len] at this
        have g5 := g4.same S5
        have h5 := S5 _ _ h4
        walk_at "rr"
        refine ⟨Nat.zero_le _, fun e1 he1 => ?_⟩
        have S6 := same_new (o := .lst []) he1
        have h6e : (upd H5 e1 (.lst [])) e1 = some (.lst []) := upd_same
        obtain ⟨H6, e6⟩ : ∃ X, upd H5 e1 (.lst []) = X := ⟨_, rfl⟩
        rw [e6] at S6 h6e ⊢
        have g6 := g5.same S6
        have h6 := S6 _ _ h5
        have hkD6 := S6 _ _ hkD
        have hkc6 := hkc.same S6
        walk_at "rr"
        refine ⟨an, ns, rfl, .inl h6, by omega, fun lp H7 kp hlp S7 hlp7 hkp pm7 srt7 => ?_⟩
        have few := pairs_few (by omega) pm7
        have hks := pairs_ks hnd pm7
        have g7 := g6.same S7
        have h7e := S7 _ _ h6e
        have hkD7 := S7 _ _ hkD6
        have hkc7 := hkc6.same S7
        walk_at "rr"
        refine ⟨⟨_, SqL.of hlp7⟩, fun D2 hD2 => ?_⟩
        have hDd : D2 ≠ d := g7.at_ne hD2
        have hlpd := dice_ne_refs g7.dice hlp7
        refine lc_list (K := K) (a := lp) (xs := rk kp) (PvS d D2 H7 kp) (PvS.start g7.dice hD2) (fun i H8 _ hP => SqL.of (hP.g.keep _ _ hlpd hlp7)) ?_ ?_
        · rintro i x H8 hx hP
          obtain ⟨q0, hq0, rfl⟩ := rk_at hx
          have hmem := List.mem_of_getElem? hq0
          have hi := (List.getElem?_eq_some_iff.mp hq0).1
          walk_at "rr"
          refine ⟨rfl, ?_⟩
          walk_at "rr"
          refine roll_go hP.g.dice (by decide) (by decide) fun r2 H9 r20 r21 g9 => ?_
          walk_at "rr"
          refine ⟨rfl, _, rfl, ?_⟩
          refine ite2 (fun _ => ?_) (fun _ => ?_)
          · walk_at "rr"
            exact hP.put hD2 hDd g9 hmem (by omega)
          · exact hP.skip g9
        · rintro H8 hP
          obtain ⟨⟨kt, hktD, hkl, hkk⟩, g8⟩ := hP
          rw [rk_len] at hkl
          have g08 := g7.trans g8
          have h8e : H8 e1 = some (.lst (([] : List Str).map V.str)) := g8.keep _ _ (dice_ne_strs (ss := []) g7.dice h7e) h7e
          have hkD8 := g8.keep _ _ (dice_ne_refs g7.dice hkD7) hkD7
          have hkc8 := hkc7.go g7.dice g8
          have hkt : TK H8 kt := fun q hq => g8.keep _ _ (dice_ne_tup g7.dice (hkp q (hkk q hq))) (hkp q (hkk q hq))
          walk_at "rr"
          refine ⟨D, D2, rk kc, rk kt, rfl, rfl, hkD8, hktD, by rw [rk_len, rk_len]; omega, fun c hc => ?_⟩
          rw [← rk_app]
          have S9 := same_new (o := .lst (rk (kc ++ kt))) hc
          have hne : ∀ t ∈ (kc ++ kt).map (·.2), ∃ a b, t = [a, b] ∧ a ≠ b ∧ a ∈ ns ∧ b ∈ ns := fun t ht => by
            rw [List.map_append] at ht
            rcases List.mem_append.mp ht with ht | ht
            · rw [hkm] at ht
              exact cyc_ne hnd (by omega) t ht
            · obtain ⟨q, hq, rfl⟩ := List.mem_map.mp ht
              exact hks q (hkk q hq)
          walk_at "rr"
          refine ⟨e1, c, [], kc ++ kt, rfl, .inl (S9 _ _ h8e), upd_same, fun q hq => ?_, fun q hq => ?_, Nat.zero_le _, by rw [List.length_append]; omega, fun p H10 ss ks hp S10 hpl hof => ?_⟩
          · rcases List.mem_append.mp hq with hq | hq
            · exact S9 _ _ (hkc8 q hq)
            · exact S9 _ _ (hkt q hq)
          · obtain ⟨a, b, e, _⟩ := hne q.2 (List.mem_map_of_mem hq)
            exact ⟨a, b, e⟩
          · have hsub : ∀ x ∈ ss, x ∈ ns := hof.sub (fun _ h => nomatch h) fun t ht x hx => by
              obtain ⟨a, b, e, _, ha, hb⟩ := hne t ht
              rw [e] at hx
              rcases List.mem_cons.mp hx with rfl | hx
              · exact ha
              · rw [List.mem_singleton.mp hx]
                exact hb
            have hlen := nodup_le hof.as.nodup hsub
            refine k p H10 ss ks ((g08.same S9).same S10) hpl (Wb.of hof fun t ht => ?_) (fun x hx => hn16 x (hsub x hx)) (by omega) fun e => ?_
            · obtain ⟨a, b, e, hab, _⟩ := hne t ht
              exact ⟨a, b, e, hab⟩
            · have h0 : [ns.getD 0 "", befS ns 0] ∈ (kc ++ kt).map (·.2) := by
                rw [List.map_append, hkm]
                exact List.mem_append_left _ (List.mem_of_getElem? (cyc_at (by omega)))
              have := (hof.ms (ns.getD 0 "")).mpr (.inr ⟨_, h0, List.mem_cons_self⟩)
              rw [e] at this
              cases this
    walk_at "rr"
    refine ⟨rfl, _, rfl, ?_⟩
    refine ite2 (fun c4 => ?_) (fun c4 => ?_)
    · walk_at "rr"
      refine ifT (decide_eq_true (by omega)) ?_
      walk_at "rr"
      refine ⟨d, m, 3, rfl, g1.dice, hm4, hm7, by decide, fun l t sl p H2 ss ks g2 hl0 hl2 hpl hw h16 hlen hk0 hs0 => ?_⟩
      walk_at "rr"
      refine ⟨l, _, 2, .ref p, rfl, rfl, SqL.of hl2, rfl, ?_⟩
      have g02 := g1.trans g2
      have hpl2 := hpl
      obtain ⟨⟨l1, l2, hpd, hl1, hl2'⟩, hk⟩ := hpl2
      have few := hw.few7 (by omega)
      rw [List.length_map] at few
      have hok : ∀ k ∈ ks, okT k.2 := fun q hq x hx => names_ok x (h16 x (hw.mem (List.mem_map_of_mem hq) hx))
      walk_at "rr"
      refine ⟨_, _, rfl, dget_ties hpd, ?_⟩
      walk_at "rr"
      refine pick_at g02.dice hl2' (dice_ne_refs g02.dice hl2') (fun e => hk0 ?_) (by rw [rk_len]; omega) fun y H3 hy g3' => ?_
      · cases ks with
        | nil => rfl
        | cons q ks => cases e
      obtain ⟨j, hj⟩ := List.getElem?_of_mem hy
      obtain ⟨q0, hq0, rfl⟩ := rk_at hj
      have hmem0 := List.mem_of_getElem? hq0
      have hpl3 := hpl.go g02.dice g3'
      have g3 := g02.trans g3'
      clear hpd hl1 hl2' hk
      obtain ⟨⟨l1, l2, hpd, hl1, hl2'⟩, hk⟩ := hpl3
      walk_at "rr"
      refine ⟨_, _, rfl, dget_places hpd, ?_⟩
      walk_at "rr"
      refine ⟨_, _, rfl, dget_ties hpd, ?_⟩
      walk_at "rr"
      refine ⟨⟨_, SqL.of hl2'⟩, fun D hD => ?_⟩
      refine lc_list (K := K) (a := l2) (xs := rk ks) (fun i H4 => H4 D = some (.lst (rk ((ks.take i).filter fun q => !decide (q.2 = q0.2)))) ∧ Same H3 H4)
        ⟨upd_same, same_new hD⟩ (fun i H4 _ ⟨_, S4⟩ => SqL.of (S4 _ _ hl2')) ?_ ?_
      · rintro i x H4 hx ⟨hkD, S4⟩
        obtain ⟨q1, hq1, rfl⟩ := rk_at hx
        have hmem := List.mem_of_getElem? hq1
        have hi := (List.getElem?_eq_some_iff.mp hq1).1
        walk_at "rr"
        refine ⟨rfl, ?_⟩
        walk_at "rr"
        refine ⟨q1.1, q0.1, q1.2, q0.2, rfl, rfl, S4 _ _ (hk q1 hmem), S4 _ _ (hk q0 hmem0), hok q1 hmem, hok q0 hmem0, ?_⟩
        refine ⟨_, rfl, ?_⟩
        have hlen' : (rk ((ks.take i).filter fun q => !decide (q.2 = q0.2))).length < sizeLine := by
          rw [rk_len]
          have := List.length_filter_le (fun q : Addr × List Str => !decide (q.2 = q0.2)) (ks.take i)
          rw [List.length_take] at this
          omega
        refine ite2 (fun e => ?_) (fun e => ?_)
        · refine ⟨_, rfl, _, hkD, hlen', ?_, same_own S4 hD⟩
          rw [upd_same, take_more hq1, List.filter_append, rk_app]
          rw [show [q1].filter (fun q => !decide (q.2 = q0.2)) = [q1] by rw [List.filter_cons, if_pos e]; rfl]
          rfl
        · refine ⟨?_, S4⟩
          rw [hkD, take_more hq1, List.filter_append]
          rw [show [q1].filter (fun q => !decide (q.2 = q0.2)) = [] by rw [List.filter_cons, if_neg e]; rfl, List.append_nil]
      · rintro H4 ⟨hkD, S4⟩
        rw [rk_len, List.take_length] at hkD
        obtain ⟨kf, ekf⟩ : ∃ X, ks.filter (fun q => !decide (q.2 = q0.2)) = X := ⟨_, rfl⟩
        rw [ekf] at hkD
        have hkfl : kf.length ≤ 21 := by rw [← ekf]; exact Nat.le_trans (List.length_filter_le _ _) few
        have hkf : ∀ q ∈ kf, q ∈ ks := fun q hq => by
          rw [← ekf] at hq
          exact (List.mem_filter.mp hq).1
        walk_at "rr"
        refine ⟨l1, D, ss, kf, rfl, .inl (S4 _ _ hl1), hkD, fun q hq => S4 _ _ (hk q (hkf q hq)), fun q hq => hw.two q (hkf q hq), by omega, by omega, fun p2 H5 ss2 ks2 hp2 S5 hpl5 hof => ?_⟩
        have hsub : ∀ x ∈ ss2, x ∈ ss := hof.sub (fun _ h => h) fun t ht x hx => by
          obtain ⟨q, hq, rfl⟩ := List.mem_map.mp ht
          exact hw.mem (List.mem_map_of_mem (hkf q hq)) hx
        have hlen2 := nodup_le hof.as.nodup hsub
        refine k p2 H5 ss2 ks2 ((g3.same S4).same S5) hpl5 (Wb.of hof fun t ht => ?_) (fun x hx => h16 x (hsub x hx)) (by omega) fun e => ?_
        · obtain ⟨q, hq, rfl⟩ := List.mem_map.mp ht
          exact hw.ne (List.mem_map_of_mem (hkf q hq))
        · cases ss with
          | nil => exact hs0 rfl
          | cons x ss =>
            have := (hof.ms x).mpr (.inl List.mem_cons_self)
            rw [e] at this
            cases this
    · walk_at "rr"
      exact ⟨g1.dice, hm4, hm7, fun p H2 ss ks g2 hpl hw h16 hlen hs0 => k p H2 ss ks (g1.trans g2) hpl hw h16 hlen hs0⟩
end
end K5
namespace K5
open PySem PySem.Spec PyProof.Rows L2 RS RZ
local macro_rules | `(tactic| walk_at "r1") => `(tactic| first | refine ⟨_, rfl, ?_⟩ | refine ⟨_, _, rfl, rfl, ?_⟩ | refine ⟨_, _, rfl, ?_⟩ | refine .inl ⟨_, rfl, ?_⟩ | refine .inr ⟨_, rfl, ?_⟩ | refine ⟨⟨_, rfl⟩, ?_⟩)
local macro_rules | `(tactic| walk_at "rr") => `(tactic| repeat walk_at "r1")
/-! ### each with the next one, of a tuple; is_ascending -/
theorem lc_zipT {K : PySem.W.Frag} {a b : Addr} {xs ys : List V} {g : TG} {tt : TT} {te : TE} {vs : List Nat} {σ : L2.St} {H1 : Hp} {D : Addr} {Qd : Hp → Prop} (Pv : Nat → Hp → Prop) (h0 : Pv 0 (upd H1 D (.lst []))) (hl : ∀ i H, Pv i H → SqT K H a xs ∧ SqT K H b ys)
    (hs : ∀ (i : Nat) (x y : V) (T : Addr) (H : Hp), xs[i]? = some x → ys[i]? = some y → H T = none → Pv i H → g (.ref T) (wipe σ vs) (upd H T (.tup [x, y])) fun σ2 H2 => wipe σ2 vs = wipe σ vs ∧ tt σ2 H2 fun b H3 => if b = true then te σ2 H3 fun y H4 => ∃ acc, H4 D = some (HO.lst acc) ∧ acc.length < sizeLine ∧ Pv (i + 1) (upd H4 D (HO.lst (acc ++ [y]))) else Pv (i + 1) H3)
    (hd : ∀ H, Pv (min xs.length ys.length) H → Qd H) : ∃ W : Nat → Nat → Hp → Prop, (∃ m, W 0 m (upd H1 D (HO.lst []))) ∧ ∀ (i m : Nat) (H : Hp), W i m H → (ItzT K a b).stop i H ∧ Qd H ∨ (ItzT K a b).go i H ∧ ∃ Nx : Hp → Prop, (∀ (H' : Hp), Nx H' → ∃ m', m' < m ∧ W (i + 1) m' H') ∧ ∀ (x : V) (H' : Hp), (ItzT K a b).yld i H x H' →
        g x (wipe σ vs) H' fun σ2 H2 => wipe σ2 vs = wipe σ vs ∧ tt σ2 H2 fun b H3 => if b = true then te σ2 H3 fun y H4 => ∃ acc, H4 D = some (HO.lst acc) ∧ acc.length < sizeLine ∧ Nx (upd H4 D (HO.lst (acc ++ [y]))) else Nx H3 := by
  refine ⟨fun i m H => Pv i H ∧ i ≤ min xs.length ys.length ∧ m = min xs.length ys.length - i, ⟨_, h0, Nat.zero_le _, rfl⟩, fun i m H ⟨hp, hi, hm⟩ => ?_⟩
  obtain ⟨h1, h2⟩ := hl i H hp
  rcases Nat.lt_or_ge i (min xs.length ys.length) with hlt | hge
  · refine .inr ⟨⟨xs, ys, xs[i]'(by omega), ys[i]'(by omega), h1, h2, List.getElem?_eq_getElem _, List.getElem?_eq_getElem _⟩, Pv (i + 1), fun H' hp' => ⟨_, ?_, hp', by omega, rfl⟩, fun v H' hy => ?_⟩
    · omega
    · obtain ⟨T, x, y, rfl, hT, rfl, hx, hy⟩ := hy
      exact hs i x y T H (hx xs h1) (hy ys h2) hT hp
  · have e : i = min xs.length ys.length := by omega
    refine .inl ⟨⟨xs, ys, h1, h2, by omega⟩, hd H (by rw [← e]; exact hp)⟩
/-- each before the next one -/
def risesB {α : Type} (lt : α → α → Bool) : List α → Bool
  | a :: b :: l => lt a b && risesB lt (b :: l)
  | _ => true
def rise2 {α : Type} (lt : α → α → Bool) (l : List α) : List Bool := (l.zip (l.drop 1)).map fun p => lt p.1 p.2
theorem rise_all {α : Type} (lt : α → α → Bool) : ∀ l : List α, (rise2 lt l).all id = risesB lt l
  | [] => rfl
  | [_] => rfl
  | a :: b :: l => by
    have ih := rise_all lt (b :: l)
    show (lt a b && (rise2 lt (b :: l)).all id) = (lt a b && risesB lt (b :: l))
    rw [ih]
theorem rise_at {α : Type} {lt : α → α → Bool} {l : List α} {i : Nat} {x y : α} (hx : l[i]? = some x) (hy : l[i + 1]? = some y) : (rise2 lt l)[i]? = some (lt x y) := by
  unfold rise2
  have h : (l.zip (l.drop 1))[i]? = some (x, y) := List.getElem?_zip_eq_some.mpr ⟨hx, by rw [List.getElem?_drop, Nat.add_comm]; exact hy⟩
  rw [List.getElem?_map, h]
  rfl
theorem rise_len {α : Type} (lt : α → α → Bool) (l : List α) : (rise2 lt l).length = l.length - 1 := by
  unfold rise2
  rw [List.length_map, List.length_zip, List.length_drop]
  omega
theorem rises_pw {α : Type} {lt : α → α → Bool} (tr : ∀ a b c, lt a b = true → lt b c = true → lt a c = true) : ∀ l : List α, risesB lt l = true ↔ l.Pairwise fun a b => lt a b = true
  | [] => ⟨fun _ => .nil, fun _ => rfl⟩
  | [_] => ⟨fun _ => .cons (fun _ h => nomatch h) .nil, fun _ => rfl⟩
  | a :: b :: l => by
    have ih := rises_pw (lt := lt) tr (b :: l)
    constructor
    · intro h
      have h := Bool.and_eq_true_iff.mp (show (lt a b && risesB lt (b :: l)) = true from h)
      have h2 := ih.mp h.2
      refine .cons (fun c hc => ?_) h2
      rcases List.mem_cons.mp hc with rfl | hc
      · exact h.1
      · exact tr _ _ _ h.1 ((List.pairwise_cons.mp h2).1 c hc)
    · intro h
      obtain ⟨h1, h2⟩ := List.pairwise_cons.mp h
      show (lt a b && risesB lt (b :: l)) = true
      rw [h1 b List.mem_cons_self, ih.mpr h2]
      rfl
end K5
namespace K5
open PySem PySem.Spec PyProof.Rows L2 RS RZ
local macro_rules | `(tactic| walk_at "r1") => `(tactic| first | refine ⟨_, rfl, ?_⟩ | refine ⟨_, _, rfl, rfl, ?_⟩ | refine ⟨_, _, rfl, ?_⟩ | refine .inl ⟨_, rfl, ?_⟩ | refine .inr ⟨_, rfl, ?_⟩ | refine ⟨⟨_, rfl⟩, ?_⟩)
local macro_rules | `(tactic| walk_at "rr") => `(tactic| repeat walk_at "r1")
/-- t[1:] of a tuple -/
def rSl1 : V → Option Int → Option Int → Hp → VK → Prop := fun x lo hi H Q => ∃ a xs, x = .ref a ∧ H a = some (.tup xs) ∧ lo = some 1 ∧ hi = none ∧ ∀ b H', Same H H' → H' b = some (.tup (xs.drop 1)) → Q (.ref b) H'
theorem sl_tup1 {X : Cx} : SlR X rSl1 := by
  intro pins s σ H x v vl vu lo hi sl Q I rx hs pl pu h
  obtain ⟨a, xs, e, ha, rfl, rfl, q⟩ := h
  refine sl_tupA pins s σ H x v vl vu _ _ sl Q I rx hs pl pu ⟨a, xs, e, SqT.of ha, fun hw => ?_, fun _ p hp => ?_⟩
  · have h0 := hw.1
    rw [show (1 : Int) = ((1 : Nat) : Int) from rfl, HT.sIx_nat] at h0
    refine q a H (Same.refl _) ?_
    cases xs with
    | nil => exact ha
    | cons x xs => rw [List.length_cons] at h0; omega
  · rw [cut_from1]
    exact q p _ (same_new hp) upd_same
theorem OpR.or' {X : Cx} {f : Value → Value → Sem Value} {r r' : R2} (h : OpR X f r) (h' : OpR X f r') : OpR X f (fun x y H Q => r x y H Q ∨ r' x y H Q) := by
  intro pins s σ H x y v u Q I rx ry hh
  rcases hh with hh | hh
  · exact h pins s σ H x y v u Q I rx ry hh
  · exact h' pins s σ H x y v u Q I rx ry hh
def rLtS : R2 := fun x y H Q => ∃ i j, x = .str i ∧ y = .str j ∧ Q (.bl (decide (i.cps.toList < j.cps.toList))) H
def rLt2 (K : PySem.W.Frag) : R2 := fun x y H Q => rLtS x y H Q ∨ rLtTT K x y H Q
theorem op_lt2 {X : Cx} (hu : X.A.units < cLine) : OpR X (compareOp .Lt) (rLt2 X.K) := OpR.or' op_lt_str (op_ltTT hu)
structure spAsc (vs : List V) (H : Hp) (Q : VK) (E : XK) : Prop where
  h : (∃ (a : Addr) (ss : List Str), vs = [.ref a] ∧ H a = some (.tup (ss.map V.str)) ∧ ss.length ≤ 1000 ∧ ∀ H', Same H H' → Q (.bl (risesB ltS ss)) H') ∨
    (∃ (a : Addr) (ks : RefK), vs = [.ref a] ∧ H a = some (.tup (rk ks)) ∧ TK H ks ∧ ks.length ≤ 1000 ∧ ∀ H', Same H H' → Q (.bl (risesB lexT (ks.map (·.2)))) H')
/-- either way -/
structure AscAt (K : PySem.W.Frag) (H : Hp) (a : Addr) (xs : List V) (bs : List Bool) : Prop where
  at_ : H a = some (.tup xs)
  len : xs.length ≤ 1000
  bl : bs.length = xs.length - 1
  cmp : ∀ i x y, xs[i]? = some x → xs[i + 1]? = some y → ∃ b, bs[i]? = some b ∧ ∀ H' (Q' : VK), Same H H' → Q' (.bl b) H' → rLt2 K x y H' Q'
theorem AscAt.strs {K : PySem.W.Frag} {H : Hp} {a : Addr} {ss : List Str} (ha : H a = some (.tup (ss.map V.str))) (hl : ss.length ≤ 1000) : AscAt K H a (ss.map V.str) (rise2 ltS ss) := by
  refine ⟨ha, by rw [List.length_map]; exact hl, by rw [rise_len, List.length_map], fun i x y hx hy => ?_⟩
  obtain ⟨z, hz, rfl⟩ := str_at hx
  obtain ⟨u, hu, rfl⟩ := str_at hy
  exact ⟨_, rise_at hz hu, fun H' Q' _ q => .inl ⟨z, u, rfl, rfl, q⟩⟩
theorem AscAt.ties {K : PySem.W.Frag} {H : Hp} {a : Addr} {ks : RefK} (ha : H a = some (.tup (rk ks))) (hk : TK H ks) (hl : ks.length ≤ 1000) : AscAt K H a (rk ks) (rise2 lexT (ks.map (·.2))) := by
  refine ⟨ha, by rw [rk_len]; exact hl, by rw [rise_len, rk_len, List.length_map], fun i x y hx hy => ?_⟩
  obtain ⟨z, hz, rfl⟩ := rk_at hx
  obtain ⟨u, hu, rfl⟩ := rk_at hy
  refine ⟨_, rise_at (x := z.2) (y := u.2) (by rw [List.getElem?_map, hz]; rfl) (by rw [List.getElem?_map, hu]; rfl), fun H' Q' S q => .inr ⟨z.1, u.1, z.2, u.2, rfl, rfl, SqT.of (S _ _ (hk z (List.mem_of_getElem? hz))), SqT.of (S _ _ (hk u (List.mem_of_getElem? hu))), q⟩⟩
section
variable {P : Program} {w : World} {K : PySem.W.Frag} {mg : Str → Option Value} {base : Heap}
theorem sc_is_asc : FnScope ["row", "one", "other"] ["row"] (defScope s_is_ascending) := ⟨rfl, rfl, rfl, by decide +kernel, rfl, by decide +kernel, by decide +kernel⟩
theorem ok_is_ascending {f : Addr} {fd : FuncData} (F : Fun K "is_ascending" "is_ascending" s_is_ascending f fd) (T : Txt K mg) : FnOk P w K mg base CX0 1 f fd ["row"] spAsc := by
  refine F.ok sc_is_asc (fun vs H Q E h => ?_) (fun cdv A outer s H vs Q E hr h => ?_)
  · obtain ⟨a, _, rfl, _⟩ | ⟨a, _, rfl, _⟩ := h <;> rfl
  · have hu0 := Nat.lt_of_succ_lt (hu_of hr)
    obtain ⟨a, xs, bs, rfl, hA, k⟩ : ∃ a xs bs, vs = [.ref a] ∧ AscAt K H a xs bs ∧ ∀ H', Same H H' → Q (.bl (bs.all id)) H' := by
      obtain ⟨a, ss, rfl, ha, hl, k⟩ | ⟨a, ks, rfl, ha, hk, hl, k⟩ := h
      · exact ⟨a, _, _, rfl, AscAt.strs ha hl, fun H' S => by rw [rise_all]; exact k H' S⟩
      · exact ⟨a, _, _, rfl, AscAt.ties ha hk hl, fun H' S => by rw [rise_all]; exact k H' S⟩
    obtain ⟨ha, hl, hbl, cmp⟩ := hA
    refine ⟨_, pss_one (ps_ret (pe_callB (cr_all rfl) (by rfl) T.n_all (by decide +kernel) (pa_cons (pe_lc (own := [("one", 1), ("other", 2)]) (g := gTup K 2 (gCons (gName 1) (gCons (gName 2) gNil))) (tt := tYes) rfl sc_is_asc.nd
      (pi_zipA (by rfl) T.n_zip (pa_cons (pv 0) (pa_cons (pe_slice sl_tup1 (pv 0) (po_some pe_int) po_none) pa_nil))) (blkOk_by (own := [("one", 1), ("other", 2)]) (N := ["row", "one", "other"]) (sc := defScope s_is_ascending) (by decide +kernel))
      (fun _ _ _ _ _ => pg_tup rfl (pgs_cons (pg_name (i := 1) sc_is_asc.nd rfl (Or.inl rfl)) (pgs_cons (pg_name (i := 2) sc_is_asc.nd rfl (Or.inl rfl)) pgs_nil)))
      (fun _ _ _ _ _ => pts_nil) (fun _ _ _ _ _ => pe_cmpR (show OpR _ _ (rLt2 K) from op_lt2 hu0) (pv 1) (pv 2) (nomark _))) pa_nil))), ?_⟩
    have hz := line1000
    walk_at "rr"
    refine ⟨a, xs, rfl, ha, rfl, rfl, fun b H1 S1 hb => ?_⟩
    have ha1 := S1 _ _ ha
    walk_at "rr"
    refine ⟨a, b, xs, xs.drop 1, rfl, .inr ⟨SqT.of ha1, SqT.of hb, fun D hD => ?_⟩⟩
    have hD0 := S1.none hD
    refine lc_zipT (K := K) (xs := xs) (ys := xs.drop 1) (fun i H2 => Same H1 H2 ∧ H2 D = some (.lst ((bs.take i).map V.bl))) ⟨same_new hD, upd_same⟩ (fun i H2 ⟨S2, _⟩ => ⟨SqT.of (S2 _ _ ha1), SqT.of (S2 _ _ hb)⟩) ?_ ?_
    · rintro i x y t H2 hx hy ht ⟨S2, hD2⟩
      rw [List.getElem?_drop, Nat.add_comm] at hy
      obtain ⟨bo, hbo, hcm⟩ := cmp i x y hx hy
      have htD : D ≠ t := ne_of_none hD2 ht
      have hi := (List.getElem?_eq_some_iff.mp hx).1
      refine ⟨t, [x, y], rfl, SqT.of upd_same, rfl, ?_⟩
      walk_at "rr"
      refine ⟨rfl, ?_⟩
      walk_at "rr"
      refine hcm _ _ ((S1.trans S2).new ht) ?_
      refine ⟨_, by rw [upd_ne htD]; exact hD2, by rw [List.length_map, List.length_take]; omega, same_own (S2.new ht) hD, ?_⟩
      rw [upd_same, take_more hbo, List.map_append]
      rfl
    · rintro H2 ⟨S2, hD2⟩
      rw [List.length_drop, List.take_of_length_le (by rw [hbl]; omega)] at hD2
      walk_at "rr"
      exact ⟨D, bs, rfl, SqL.of hD2, k H2 (S1.trans S2)⟩
end
end K5
namespace K5
open PySem PySem.Spec PyProof.Rows L2 RS RZ
local macro_rules | `(tactic| walk_at "r1") => `(tactic| first | refine ⟨_, rfl, ?_⟩ | refine ⟨_, _, rfl, rfl, ?_⟩ | refine ⟨_, _, rfl, ?_⟩ | refine .inl ⟨_, rfl, ?_⟩ | refine .inr ⟨_, rfl, ?_⟩ | refine ⟨⟨_, rfl⟩, ?_⟩)
local macro_rules | `(tactic| walk_at "rr") => `(tactic| repeat walk_at "r1")
/-! ### are_ascending_names, is_tie, _are_places, tie_of -/
def ltV : V → V → Bool
  | .str a, .str b => ltS a b
  | _, _ => false
theorem rises_map : ∀ ss : List Str, risesB ltV (ss.map V.str) = risesB ltS ss
  | [] => rfl
  | [_] => rfl
  | a :: b :: l => by
    have ih := rises_map (b :: l)
    show (ltS a b && risesB ltV ((b :: l).map V.str)) = (ltS a b && risesB ltS (b :: l))
    rw [ih]
def ascNB (xs : List V) : Bool := xs.all isNameV && risesB ltV xs
def ascV (H : Hp) : V → Bool
  | .ref a => match H a with
    | some (.tup xs) => ascNB xs
    | _ => false
  | _ => false
def lenV (H : Hp) : V → Nat
  | .ref a => match H a with
    | some (.tup xs) => xs.length
    | _ => 0
  | _ => 0
theorem ascV_at {H : Hp} {a : Addr} {xs : List V} (h : H a = some (.tup xs)) : ascV H (.ref a) = ascNB xs := by
  show (match H a with | some (.tup xs) => ascNB xs | _ => false) = _
  rw [h]
theorem lenV_at {H : Hp} {a : Addr} {xs : List V} (h : H a = some (.tup xs)) : lenV H (.ref a) = xs.length := by
  show (match H a with | some (.tup xs) => xs.length | _ => 0) = _
  rw [h]
theorem areNames_at {H : Hp} {a : Addr} {xs : List V} (h : H a = some (.tup xs)) : areNames H (.ref a) = xs.all isNameV := by
  show (match H a with | some (.tup xs) => xs.all isNameV | _ => false) = _
  rw [h]
theorem names_tup {H : Hp} {v : V} (h : areNames H v = true) : ∃ (a : Addr) (xs : List V), v = .ref a ∧ H a = some (.tup xs) ∧ xs.all isNameV = true := by
  cases v with
  | ref a =>
    change (match H a with | some (.tup xs) => xs.all isNameV | _ => false) = true at h
    cases e : H a with
    | none => rw [e] at h; cases h
    | some o =>
      rw [e] at h
      cases o with
      | tup xs => exact ⟨a, xs, rfl, e, h⟩
      | _ => cases h
  | _ => cases h
theorem not_asc {H : Hp} {v : V} (h : areNames H v = false) : ascV H v = false := by
  cases v with
  | ref a =>
    change (match H a with | some (.tup xs) => xs.all isNameV | _ => false) = false at h
    show (match H a with | some (.tup xs) => ascNB xs | _ => false) = false
    cases e : H a with
    | none => rfl
    | some o =>
      rw [e] at h
      cases o with
      | tup xs =>
        have h : xs.all isNameV = false := h
        show (xs.all isNameV && _) = false
        rw [h, Bool.false_and]
      | _ => rfl
  | _ => rfl
theorem asc_tup {H : Hp} {v : V} (h : ascV H v = true) : ∃ (a : Addr) (ss : List Str), v = .ref a ∧ H a = some (.tup (ss.map V.str)) ∧ AscS ss ∧ ∀ s ∈ ss, isNameV (.str s) = true := by
  cases hn : areNames H v with
  | false => rw [not_asc hn] at h; cases h
  | true =>
    obtain ⟨a, xs, rfl, ha, hx⟩ := names_tup hn
    rw [ascV_at ha] at h
    obtain ⟨ss, rfl⟩ := names_strs hx
    refine ⟨a, ss, rfl, ha, ?_, fun s hs => List.all_eq_true.mp hx _ (List.mem_map_of_mem hs)⟩
    have := (Bool.and_eq_true_iff.mp h).2
    rw [rises_map] at this
    exact (rises_pw (lt := ltS) (fun a b c => ltS_trans) ss).mp this
/-- values that can come -/
def VdT (H : Hp) (v : V) : Prop := (∃ t, Kd H v t) ∧ ∀ a xs, v = .ref a → H a = some (.tup xs) → xs.length ≤ 1000 ∧ ∀ x ∈ xs, ∃ t, Kd H x t
structure spAscN (vs : List V) (H : Hp) (Q : VK) (E : XK) : Prop where
  h : ∃ v : V, vs = [v] ∧ VdT H v ∧ ∀ H', Same H H' → Q (.bl (ascV H v)) H'
structure spIsTie (vs : List V) (H : Hp) (Q : VK) (E : XK) : Prop where
  h : ∃ v : V, vs = [v] ∧ VdT H v ∧ ∀ H', Same H H' → Q (.bl (ascV H v && decide (lenV H v = 2))) H'
structure spIsPlaces (vs : List V) (H : Hp) (Q : VK) (E : XK) : Prop where
  h : ∃ v : V, vs = [v] ∧ VdT H v ∧ ∀ H', Same H H' → Q (.bl (ascV H v && (decide (1 ≤ lenV H v) && decide (lenV H v ≤ 16)))) H'
section
variable {P : Program} {w : World} {K : PySem.W.Frag} {mg : Str → Option Value} {base : Heap}
theorem sc_asc_names : FnScope ["value"] ["value"] (defScope s_are_ascending_names) := ⟨rfl, rfl, rfl, by decide +kernel, rfl, by decide +kernel, by decide +kernel⟩
theorem ok_are_ascending_names {f : Addr} {fd : FuncData} (F : Fun K "are_ascending_names" "are_ascending_names" s_are_ascending_names f fd) (T : Txt K mg) (DA : Dfn P w K mg base "are_names" 2 ["value"] spAreNames) (DI : Dfn P w K mg base "is_ascending" 1 ["row"] spAsc) : FnOk P w K mg base CX0 3 f fd ["value"] spAscN := by
  refine F.ok sc_asc_names (fun vs H Q E h => ?_) (fun cdv A outer s H vs Q E hr h => ?_)
  · obtain ⟨v, rfl, _⟩ := h
    rfl
  · obtain ⟨v, rfl, ⟨⟨t, hk⟩, hv⟩, k⟩ := h
    refine ⟨_, pss_one (ps_ret (pe_and (pe_d DA hr (pa_cons (pv 0) pa_nil)) (pe_one (pe_d DI (hr.mono (by decide)) (pa_cons (pv 0) pa_nil))))), ?_⟩
    walk_at "rr"
    refine ⟨v, t, hk, rfl, hv, fun H1 S1 => ?_⟩
    walk_at "rr"
    cases hn : areNames H v with
    | false =>
      refine ifF rfl ?_
      exact q_bl (Q := Q) (not_asc hn).symm (k H1 S1)
    | true =>
      obtain ⟨a, xs, rfl, ha, hx⟩ := names_tup hn
      obtain ⟨ss, rfl⟩ := names_strs hx
      obtain ⟨hl, _⟩ := hv a _ rfl ha
      rw [List.length_map] at hl
      refine ifT rfl ?_
      walk_at "rr"
      refine spAsc.mk (.inl ⟨a, ss, rfl, S1 _ _ ha, hl, fun H2 S2 => ?_⟩)
      refine q_bl (Q := Q) ?_ (k H2 (S1.trans S2))
      rw [ascV_at ha]
      show _ = ((ss.map V.str).all isNameV && risesB ltV (ss.map V.str))
      rw [hx, Bool.true_and, rises_map]
theorem sc_is_tie : FnScope ["value"] ["value"] (defScope s_is_tie) := ⟨rfl, rfl, rfl, by decide +kernel, rfl, by decide +kernel, by decide +kernel⟩
theorem ok_is_tie {f : Addr} {fd : FuncData} (F : Fun K "is_tie" "is_tie" s_is_tie f fd) (T : Txt K mg) (DA : Dfn P w K mg base "are_ascending_names" 3 ["value"] spAscN) : FnOk P w K mg base CX0 4 f fd ["value"] spIsTie := by
  refine F.ok sc_is_tie (fun vs H Q E h => ?_) (fun cdv A outer s H vs Q E hr h => ?_)
  · obtain ⟨v, rfl, _⟩ := h
    rfl
  · obtain ⟨v, rfl, hv, k⟩ := h
    refine ⟨_, pss_one (ps_ret (pe_and (pe_d DA hr (pa_cons (pv 0) pa_nil)) (pe_one (pe_cmpR op_eq (pe_callB call_len (by rfl) T.n_len (by decide +kernel) (pa_cons (pv 0) pa_nil)) pe_int (nomark _))))), ?_⟩
    walk_at "rr"
    refine ⟨hv, fun H1 S1 => ?_⟩
    walk_at "rr"
    cases hn : ascV H v with
    | false =>
      refine ifF rfl ?_
      exact q_bl (Q := Q) (by rw [hn, Bool.false_and]) (k H1 S1)
    | true =>
      obtain ⟨a, ss, rfl, ha, _⟩ := asc_tup hn
      refine ifT rfl ?_
      walk_at "rr"
      refine ⟨_, ss.length, rfl, .inr ⟨_, SqT.of (S1 _ _ ha), by rw [List.length_map]⟩, ?_⟩
      refine ⟨rfl, ?_⟩
      refine q_bl (Q := Q) ?_ (k H1 S1)
      rw [hn, Bool.true_and, lenV_at ha, List.length_map]
      exact decide_eq_decide.mpr ⟨fun e => by have := V.int.inj e; omega, fun e => by rw [e]; rfl⟩
theorem sc_is_places : FnScope ["value"] ["value"] (defScope s_are_places) := ⟨rfl, rfl, rfl, by decide +kernel, rfl, by decide +kernel, by decide +kernel⟩
theorem ok_are_places {f : Addr} {fd : FuncData} (F : Fun K "_are_places" "_are_places" s_are_places f fd) (T : Txt K mg) (DA : Dfn P w K mg base "are_ascending_names" 3 ["value"] spAscN) : FnOk P w K mg base CX0 4 f fd ["value"] spIsPlaces := by
  refine F.ok sc_is_places (fun vs H Q E h => ?_) (fun cdv A outer s H vs Q E hr h => ?_)
  · obtain ⟨v, rfl, _⟩ := h
    rfl
  · obtain ⟨v, rfl, hv, k⟩ := h
    obtain ⟨tf, hF⟩ := T.c_MAX_PLACES
    refine ⟨_, pss_one (ps_ret (pe_and (pe_d DA hr (pa_cons (pv 0) pa_nil)) (pe_one (pe_chain op_le op_le pe_int (pe_callB call_len (by rfl) T.n_len (by decide +kernel) (pa_cons (pv 0) pa_nil)) (pe_glob (v := .int 16) rfl hF ⟨_, rfl⟩))))), ?_⟩
    walk_at "rr"
    refine ⟨hv, fun H1 S1 => ?_⟩
    walk_at "rr"
    cases hn : ascV H v with
    | false =>
      refine ifF rfl ?_
      exact q_bl (Q := Q) (by rw [hn, Bool.false_and]) (k H1 S1)
    | true =>
      obtain ⟨a, ss, rfl, ha, _⟩ := asc_tup hn
      refine ifT rfl ?_
      walk_at "rr"
      refine ⟨_, ss.length, rfl, .inr ⟨_, SqT.of (S1 _ _ ha), by rw [List.length_map]⟩, ?_⟩
      walk_at "rr"
      have hlen : lenV H (.ref a) = ss.length := by rw [lenV_at ha, List.length_map]
      refine ite2 (fun h1 => ?_) (fun h1 => ?_)
      · walk_at "rr"
        refine q_bl (Q := Q) ?_ (k H1 S1)
        have h1 : (1 : Int) ≤ ss.length := of_decide_eq_true h1
        rw [hn, Bool.true_and, hlen, decide_eq_true (by omega : 1 ≤ ss.length), Bool.true_and]
        exact decide_eq_decide.mpr ⟨fun e => by omega, fun e => by omega⟩
      · walk_at "rr"
        refine q_bl (Q := Q) ?_ (k H1 S1)
        have h1 : ¬ (1 : Int) ≤ ss.length := of_decide_eq_false (Bool.eq_false_iff.mpr h1)
        rw [hn, Bool.true_and, hlen, decide_eq_false (by omega : ¬ 1 ≤ ss.length), Bool.false_and]
end
end K5
namespace K5
open PySem PySem.Spec PyProof.Rows L2 RS RZ
local macro_rules | `(tactic| walk_at "r1") => `(tactic| first | refine ⟨_, rfl, ?_⟩ | refine ⟨_, _, rfl, rfl, ?_⟩ | refine ⟨_, _, rfl, ?_⟩ | refine .inl ⟨_, rfl, ?_⟩ | refine .inr ⟨_, rfl, ?_⟩ | refine ⟨⟨_, rfl⟩, ?_⟩)
local macro_rules | `(tactic| walk_at "rr") => `(tactic| repeat walk_at "r1")
/-! ### two for in a comprehension -/
def Inn (J1 : It) (g1 : TG) (tt1 : TT) (te : TE) (vs1 : List Nat) (D : Addr) (σ2 : L2.St) (Nx : Hp → Prop) (H4 : Hp) : Prop := ∃ W1 : Nat → Nat → Hp → Prop, (∃ m, W1 0 m H4) ∧ ∀ (j k : Nat) (H : Hp), W1 j k H → J1.stop j H ∧ Nx H ∨ J1.go j H ∧ ∃ Nx1 : Hp → Prop, (∀ (H' : Hp), Nx1 H' → ∃ k', k' < k ∧ W1 (j + 1) k' H') ∧
  ∀ (x : V) (H' : Hp), J1.yld j H x H' → g1 x (wipe σ2 vs1) H' fun σ3 H5 => wipe σ3 vs1 = wipe σ2 vs1 ∧ tt1 σ3 H5 fun b H6 => if b = true then te σ3 H6 fun y H7 => ∃ acc, H7 D = some (HO.lst acc) ∧ acc.length < sizeLine ∧ Nx1 (upd H7 D (HO.lst (acc ++ [y]))) else Nx1 H6
theorem inn_tup {K : PySem.W.Frag} {a : Addr} {xs : List V} {g1 : TG} {tt1 : TT} {te : TE} {vs1 : List Nat} {D : Addr} {σ2 : L2.St} {Nx : Hp → Prop} {H4 : Hp} (Pv : Nat → Hp → Prop) (h0 : Pv 0 H4) (hl : ∀ i H, Pv i H → SqT K H a xs)
    (hs : ∀ (i : Nat) (x : V) (H : Hp), xs[i]? = some x → Pv i H → g1 x (wipe σ2 vs1) H fun σ3 H5 => wipe σ3 vs1 = wipe σ2 vs1 ∧ tt1 σ3 H5 fun b H6 => if b = true then te σ3 H6 fun y H7 => ∃ acc, H7 D = some (HO.lst acc) ∧ acc.length < sizeLine ∧ Pv (i + 1) (upd H7 D (HO.lst (acc ++ [y]))) else Pv (i + 1) H6)
    (hd : ∀ H, Pv xs.length H → Nx H) : Inn (Itt K a) g1 tt1 te vs1 D σ2 Nx H4 := by
  refine ⟨fun i m H => Pv i H ∧ i ≤ xs.length ∧ m = xs.length - i, ⟨_, h0, Nat.zero_le _, rfl⟩, fun i m H ⟨hp, hi, hm⟩ => ?_⟩
  have h1 := hl i H hp
  rcases Nat.lt_or_ge i xs.length with hlt | hge
  · refine .inr ⟨⟨xs, xs[i], h1, List.getElem?_eq_getElem _⟩, Pv (i + 1), fun H' hp' => ⟨xs.length - (i + 1), by omega, hp', by omega, rfl⟩, fun v H' hy => ?_⟩
    obtain ⟨rfl, hx⟩ := hy
    exact hs i v _ (hx xs h1) hp
  · have e : i = xs.length := by omega
    exact .inl ⟨⟨xs, h1, by omega⟩, hd H (by rw [← e]; exact hp)⟩
theorem lc2_tup {K : PySem.W.Frag} {a : Addr} {xs : List V} {g g1 : TG} {tt tt1 : TT} {wi1 : TI} {te : TE} {vs vs1 : List Nat} {σ : L2.St} {H1 : Hp} {D : Addr} {Qd : Hp → Prop} (Pv : Nat → Hp → Prop) (h0 : Pv 0 (upd H1 D (.lst []))) (hl : ∀ i H, Pv i H → SqT K H a xs)
    (hs : ∀ (i : Nat) (x : V) (H : Hp), xs[i]? = some x → Pv i H → g x (wipe σ vs) H fun σ2 H2 => wipe σ2 vs = wipe σ vs ∧ tt σ2 H2 fun b H3 => if b = true then wi1 σ2 H3 fun J1 H4 => Inn J1 g1 tt1 te vs1 D σ2 (Pv (i + 1)) H4 else Pv (i + 1) H3)
    (hd : ∀ H, Pv xs.length H → Qd H) : ∃ W : Nat → Nat → Hp → Prop, (∃ m, W 0 m (upd H1 D (HO.lst []))) ∧ ∀ (i m : Nat) (H : Hp), W i m H → (Itt K a).stop i H ∧ Qd H ∨ (Itt K a).go i H ∧ ∃ Nx : Hp → Prop, (∀ (H' : Hp), Nx H' → ∃ m', m' < m ∧ W (i + 1) m' H') ∧ ∀ (x : V) (H' : Hp), (Itt K a).yld i H x H' →
        g x (wipe σ vs) H' fun σ2 H2 => wipe σ2 vs = wipe σ vs ∧ tt σ2 H2 fun b H3 => if b = true then wi1 σ2 H3 fun J1 H4 => Inn J1 g1 tt1 te vs1 D σ2 Nx H4 else Nx H3 := by
  refine ⟨fun i m H => Pv i H ∧ i ≤ xs.length ∧ m = xs.length - i, ⟨_, h0, Nat.zero_le _, rfl⟩, fun i m H ⟨hp, hi, hm⟩ => ?_⟩
  have h1 := hl i H hp
  rcases Nat.lt_or_ge i xs.length with hlt | hge
  · refine .inr ⟨⟨xs, xs[i], h1, List.getElem?_eq_getElem _⟩, Pv (i + 1), fun H' hp' => ⟨xs.length - (i + 1), by omega, hp', by omega, rfl⟩, fun v H' hy => ?_⟩
    obtain ⟨rfl, hx⟩ := hy
    exact hs i v _ (hx xs h1) hp
  · have e : i = xs.length := by omega
    exact .inl ⟨⟨xs, h1, by omega⟩, hd H (by rw [← e]; exact hp)⟩
end K5
namespace K5
open PySem PySem.Spec PyProof.Rows L2 RS RZ
local macro_rules | `(tactic| walk_at "r1") => `(tactic| first | refine ⟨_, rfl, ?_⟩ | refine ⟨_, _, rfl, rfl, ?_⟩ | refine ⟨_, _, rfl, ?_⟩ | refine .inl ⟨_, rfl, ?_⟩ | refine .inr ⟨_, rfl, ?_⟩ | refine ⟨⟨_, rfl⟩, ?_⟩)
local macro_rules | `(tactic| walk_at "rr") => `(tactic| repeat walk_at "r1")
/-! ### are_ties -/
theorem Kd.look {H H' : Hp} {v : V} {t : String} (h : Kd H v t) (S : Same H H') : ascV H' v = ascV H v ∧ lenV H' v = lenV H v := by
  cases h with
  | @lst a xs e =>
    show (match H' a with | some (.tup xs) => ascNB xs | _ => false) = (match H a with | some (.tup xs) => ascNB xs | _ => false) ∧ (match H' a with | some (.tup xs) => xs.length | _ => 0) = (match H a with | some (.tup xs) => xs.length | _ => 0)
    rw [S _ _ e, e]
    exact ⟨rfl, rfl⟩
  | @tup a xs e =>
    show (match H' a with | some (.tup xs) => ascNB xs | _ => false) = (match H a with | some (.tup xs) => ascNB xs | _ => false) ∧ (match H' a with | some (.tup xs) => xs.length | _ => 0) = (match H a with | some (.tup xs) => xs.length | _ => 0)
    rw [S _ _ e, e]
    exact ⟨rfl, rfl⟩
  | @dK a xs e =>
    show (match H' a with | some (.tup xs) => ascNB xs | _ => false) = (match H a with | some (.tup xs) => ascNB xs | _ => false) ∧ (match H' a with | some (.tup xs) => xs.length | _ => 0) = (match H a with | some (.tup xs) => xs.length | _ => 0)
    rw [S _ _ e, e]
    exact ⟨rfl, rfl⟩
  | _ => exact ⟨rfl, rfl⟩
def isTieV (H : Hp) (v : V) : Bool := ascV H v && decide (lenV H v = 2)
theorem VdT.same {H H' : Hp} {v : V} (h : VdT H v) (S : Same H H') : VdT H' v := by
  obtain ⟨⟨t, hk⟩, hx⟩ := h
  refine ⟨⟨t, hk.same S⟩, fun a xs e ha => ?_⟩
  subst e
  have : H a = some (.tup xs) := by
    cases hk with
    | lst e => rw [S _ _ e] at ha; cases ha
    | tup e => rw [S _ _ e] at ha; rw [e]; exact ha
    | dK e => rw [S _ _ e] at ha; cases ha
  obtain ⟨h1, h2⟩ := hx a xs rfl this
  exact ⟨h1, fun x hx => by
    obtain ⟨t, h⟩ := h2 x hx
    exact ⟨t, h.same S⟩⟩
theorem isTie_at {H : Hp} {v : V} (h : isTieV H v = true) : ∃ (a : Addr) (x y : Str), v = .ref a ∧ H a = some (.tup ([x, y].map V.str)) ∧ ltS x y = true := by
  unfold isTieV at h
  obtain ⟨h1, h2⟩ := Bool.and_eq_true_iff.mp h
  obtain ⟨a, ss, rfl, ha, as, hn⟩ := asc_tup h1
  have h2 := of_decide_eq_true h2
  rw [lenV_at ha, List.length_map] at h2
  match ss, h2 with
  | [x, y], _ => exact ⟨a, x, y, rfl, ha, (List.pairwise_cons.mp as).1 y List.mem_cons_self⟩
theorem isTie_of {H : Hp} {a : Addr} {x y : Str} (ha : H a = some (.tup ([x, y].map V.str))) (hl : ltS x y = true) (hx : isNameV (.str x) = true) (hy : isNameV (.str y) = true) : isTieV H (.ref a) = true := by
  unfold isTieV
  rw [ascV_at ha, lenV_at ha]
  have h1 : ascNB ([x, y].map V.str) = true := by
    show ((isNameV (.str x) && (isNameV (.str y) && true)) && (ltS x y && true)) = true
    rw [hx, hy, hl]
    rfl
  rw [h1]
  rfl
theorem ties_ks {H : Hp} : ∀ {xs : List V}, (∀ x ∈ xs, isTieV H x = true) → ∃ ks : RefK, xs = rk ks ∧ TK H ks ∧ ∀ k ∈ ks, ∃ x y, k.2 = [x, y] ∧ ltS x y = true
  | [], _ => ⟨[], rfl, (fun _ h => nomatch h), (fun _ h => nomatch h)⟩
  | v :: xs, h => by
    obtain ⟨ks, rfl, h1, h2⟩ := ties_ks (xs := xs) fun x hx => h x (List.mem_cons_of_mem _ hx)
    obtain ⟨a, x, y, rfl, ha, hl⟩ := isTie_at (h v List.mem_cons_self)
    refine ⟨(a, [x, y]) :: ks, rfl, fun k hk => ?_, fun k hk => ?_⟩
    · rcases List.mem_cons.mp hk with rfl | hk
      · exact ha
      · exact h1 k hk
    · rcases List.mem_cons.mp hk with rfl | hk
      · exact ⟨x, y, rfl, hl⟩
      · exact h2 k hk
/-- ascending ties between these places stand at v -/
def TiesOk (H : Hp) (ss : List Str) (v : V) : Prop := ∃ (a : Addr) (ks : RefK), v = .ref a ∧ H a = some (.tup (rk ks)) ∧ TK H ks ∧ ks.length ≤ 60 ∧ Asc (ks.map (·.2)) ∧ ∀ k ∈ ks, ∃ x y, k.2 = [x, y] ∧ ltS x y = true ∧ x ∈ ss ∧ y ∈ ss
theorem rk_inj {H : Hp} : ∀ {ks ks2 : RefK}, TK H ks → TK H ks2 → rk ks = rk ks2 → ks = ks2
  | [], [], _, _, _ => rfl
  | [], _ :: _, _, _, e => nomatch e
  | _ :: _, [], _, _, e => nomatch e
  | k :: ks, k2 :: ks2, h, h2, e => by
    obtain ⟨e1, e2⟩ := List.cons.inj (show V.ref k.1 :: rk ks = V.ref k2.1 :: rk ks2 from e)
    have e1 : k.1 = k2.1 := V.ref.inj e1
    have ih := rk_inj (fun q hq => h q (List.mem_cons_of_mem _ hq)) (fun q hq => h2 q (List.mem_cons_of_mem _ hq)) e2
    have h3 := h k List.mem_cons_self
    rw [e1, h2 k2 List.mem_cons_self] at h3
    have h4 : k2.2.map V.str = k.2.map V.str := HO.tup.inj (Option.some.inj h3)
    have h5 : k2.2 = k.2 := List.map_inj_right (fun a b e => V.str.inj e) |>.mp h4
    rw [ih, show k = k2 from Prod.ext e1 h5.symm]
structure spAreTies (vs : List V) (H : Hp) (Q : VK) (E : XK) : Prop where
  h : ∃ (pa : Addr) (ss : List Str) (v : V), vs = [.ref pa, v] ∧ H pa = some (.tup (ss.map V.str)) ∧ (∀ s ∈ ss, isNameV (.str s) = true) ∧ (∃ t, Kd H v t) ∧ (∀ a xs, v = .ref a → H a = some (.tup xs) → xs.length ≤ 900 ∧ ∀ x ∈ xs, VdT H x) ∧
    ∀ b H', Same H H' → (b = true ↔ TiesOk H ss v) → Q (.bl b) H'
def endB (ss : List Str) (k : Addr × List Str) : List Bool := k.2.map fun x => decide (x ∈ ss)
section
variable {P : Program} {w : World} {K : PySem.W.Frag} {mg : Str → Option Value} {base : Heap}
theorem sc_are_ties : FnScope ["places", "value", "tie", "place"] ["places", "value"] (defScope s_are_ties) := ⟨rfl, rfl, rfl, by decide +kernel, rfl, by decide +kernel, by decide +kernel⟩
theorem ok_are_ties {f : Addr} {fd : FuncData} (F : Fun K "are_ties" "are_ties" s_are_ties f fd) (T : Txt K mg) (DT : Dfn P w K mg base "is_tie" 4 ["value"] spIsTie) (DI : Dfn P w K mg base "is_ascending" 1 ["row"] spAsc) : FnOk P w K mg base CX0 5 f fd ["places", "value"] spAreTies := by
  refine F.ok sc_are_ties (fun vs H Q E h => ?_) (fun cdv A outer s H vs Q E hr h => ?_)
  · obtain ⟨pa, ss, v, rfl, _⟩ := h
    rfl
  · obtain ⟨pa, ss, v, rfl, hpa, hnm, ⟨t, hk⟩, hx, k⟩ := h
    obtain ⟨tf, hF⟩ := T.c_MAX_TIES
    refine ⟨_, pss_cons (ps_if (PW.pt (pw_or (pt_not (pt_val (pe_callB call_isi (by rfl) T.n_isinstance (by decide +kernel) (pa_cons (pv 1) (pa_cons (pe_bltn (v := .ty "tuple") (by rfl) T.n_tuple (by decide +kernel) rfl) pa_nil)))))
          (pw_or1 (pt_cmpR op_gt (pe_callB call_len (by rfl) T.n_len (by decide +kernel) (pa_cons (pv 1) pa_nil)) (pe_glob (v := .int 60) rfl hF ⟨_, rfl⟩) (by rfl))))) (pss_one (ps_ret pe_bl)) pss_nil)
      (pss_cons (ps_if (PW.pt (pw_or (pt_not (pt_val (pe_callB (cr_all rfl) (by rfl) T.n_all (by decide +kernel) (pa_cons (pe_lc (own := [("tie", 2)]) (g := gName 2) (tt := tYes) rfl sc_are_ties.nd (pi_tup (pv 1)) (blkOk_by (own := [("tie", 2)]) (N := ["places", "value", "tie", "place"]) (sc := defScope s_are_ties) (by decide +kernel))
            (fun _ _ _ _ _ => pg_name (i := 2) sc_are_ties.nd rfl (Or.inl rfl)) (fun _ _ _ _ _ => pts_nil) (fun _ _ _ _ _ => pe_d DT hr (pa_cons (pv 2) pa_nil))) pa_nil))))
          (pw_or1 (pt_not (pt_val (pe_d DI (hr.mono (by decide)) (pa_cons (pv 1) pa_nil))))))) (pss_one (ps_ret pe_bl)) pss_nil)
      (pss_one (ps_ret (pe_callB (cr_all rfl) (by rfl) T.n_all (by decide +kernel) (pa_cons
        (pe_lc2 (own := [("tie", 2), ("place", 3)]) (vs1 := [3]) (g := gName 2) (g1 := gName 3) (tt := tYes) (tt1 := tYes) rfl sc_are_ties.nd (pi_tup (pv 1)) (blkOk_by (own := [("tie", 2), ("place", 3)]) (N := ["places", "value", "tie", "place"]) (sc := defScope s_are_ties) (by decide +kernel)) (by decide)
          (fun _ _ _ _ _ => pg_name (i := 2) sc_are_ties.nd rfl (Or.inl rfl)) (fun _ _ _ _ _ => pts_nil) (fun _ _ _ _ _ => (show PI _ _ _ (iTup K (tVar 2)) from pi_tup (pv 2))) (fun _ _ _ _ _ => pg_name (i := 3) sc_are_ties.nd rfl (Or.inl rfl)) (fun _ _ _ _ _ => pts_nil)
          (fun _ _ _ _ _ => pe_cmpR (show OpR _ _ (rIn K false) from op_in_seq) (pv 3) (pv 0) (by rfl))) pa_nil))))), ?_⟩
    have hz := line1000
    walk_at "rr"
    refine ⟨v, _, _, _, _, rfl, .ty _, hk.tyX, hk.isa (by decide), ?_⟩
    walk_at "rr"
    have no : (∀ a xs, ¬ (v = .ref a ∧ H a = some (.tup xs))) → Q (.bl false) H := fun hn => k false H (Same.refl _) ⟨fun e => (nomatch e), fun ⟨a, ks, e1, e2, _⟩ => absurd ⟨e1, e2⟩ (hn a _)⟩
    cases hk with
    | non => exact no fun a xs ⟨e, _⟩ => nomatch e
    | bl b => exact no fun a xs ⟨e, _⟩ => nomatch e
    | int i => exact no fun a xs ⟨e, _⟩ => nomatch e
    | str z h => exact no fun a xs ⟨e, _⟩ => nomatch e
    | lst e => exact no fun a xs ⟨e1, e2⟩ => by cases e1; rw [e] at e2; cases e2
    | dK e => exact no fun a xs ⟨e1, e2⟩ => by cases e1; rw [e] at e2; cases e2
    | @tup a xs ha =>
      obtain ⟨hxl, hxe⟩ := hx a xs rfl ha
      walk_at "rr"
      have only : TiesOk H ss (.ref a) → ∃ ks, xs = rk ks ∧ TK H ks ∧ ks.length ≤ 60 ∧ Asc (ks.map (·.2)) ∧ ∀ k ∈ ks, ∃ x y, k.2 = [x, y] ∧ ltS x y = true ∧ x ∈ ss ∧ y ∈ ss := fun ⟨a', ks, e1, e2, h3⟩ => by
        cases e1
        rw [ha] at e2
        exact ⟨ks, HO.tup.inj (Option.some.inj e2), h3⟩
      refine ⟨_, xs.length, rfl, .inr ⟨_, SqT.of ha, rfl⟩, ?_⟩
      walk_at "rr"
      refine ite2 (fun c1 => ?_) (fun c1 => ?_)
      · have c1 : (60 : Int) < xs.length := of_decide_eq_true c1
        walk_at "rr"
        refine k false H (Same.refl _) ⟨fun e => (nomatch e), fun h => ?_⟩
        obtain ⟨ks, e, _, h60, _⟩ := only h
        rw [e, rk_len] at c1
        omega
      have c1 : ¬ (60 : Int) < xs.length := of_decide_eq_false (Bool.eq_false_iff.mpr c1)
      walk_at "rr"
      refine ⟨⟨xs, SqT.of ha⟩, fun D hD => ?_⟩
      refine lc_tup (K := K) (a := a) (xs := xs) (fun i H2 => Same H H2 ∧ H2 D = some (.lst ((xs.take i).map fun x => V.bl (isTieV H x)))) ⟨same_new hD, upd_same⟩ (fun i H2 _ ⟨S2, _⟩ => SqT.of (S2 _ _ ha)) ?_ ?_
      · rintro i x H2 hx ⟨S2, hD2⟩
        have hmem := List.mem_of_getElem? hx
        have hi := (List.getElem?_eq_some_iff.mp hx).1
        walk_at "rr"
        refine ⟨rfl, ?_⟩
        walk_at "rr"
        refine ⟨(hxe x hmem).same S2, fun H3 S3 => ?_⟩
        refine ⟨_, S3 _ _ hD2, by rw [List.length_map, List.length_take]; omega, same_own (S2.trans S3) hD, ?_⟩
        obtain ⟨⟨tx, hkx⟩, _⟩ := hxe x hmem
        obtain ⟨e1, e2⟩ := hkx.look S2
        rw [upd_same, take_more hx, List.map_append, e1, e2]
        rfl
      · rintro H2 ⟨S2, hD2⟩
        rw [List.take_length] at hD2
        walk_at "rr"
        refine ⟨D, xs.map (isTieV H), rfl, SqL.of (by rw [hD2, List.map_map]; rfl), ?_⟩
        walk_at "rr"
        cases hall : (xs.map (isTieV H)).all id with
        | false =>
          refine ifT rfl ?_
          walk_at "rr"
          refine k false H2 S2 ⟨fun e => (nomatch e), fun h => ?_⟩
          obtain ⟨ks, e, hk, _, _, h5⟩ := only h
          have : (xs.map (isTieV H)).all id = true := by
            rw [List.all_map, List.all_eq_true]
            intro x hx
            rw [e] at hx
            obtain ⟨j, hj⟩ := List.getElem?_of_mem hx
            obtain ⟨k0, hk0, rfl⟩ := rk_at hj
            have hm := List.mem_of_getElem? hk0
            obtain ⟨x, y, e6, hl, hx, hy⟩ := h5 k0 hm
            have h7 := hk k0 hm
            rw [e6] at h7
            exact isTie_of h7 hl (hnm x hx) (hnm y hy)
          rw [hall] at this
          cases this
        | true =>
          have hall : ∀ x ∈ xs, isTieV H x = true := fun x hx => by
            rw [List.all_map, List.all_eq_true] at hall
            exact hall x hx
          obtain ⟨ks, rfl, hk, h5⟩ := ties_ks hall
          rw [rk_len] at hxl c1
          refine ifF rfl ?_
          walk_at "rr"
          refine spAsc.mk (.inr ⟨a, ks, rfl, S2 _ _ ha, hk.same S2, by omega, fun H3 S3 => ?_⟩)
          have S03 := S2.trans S3
          walk_at "rr"
          have trL : ∀ a b c : List Str, lexT a b = true → lexT b c = true → lexT a c = true := fun a b c => lexT_trans
          cases hr2 : risesB lexT (ks.map (·.2)) with
          | false =>
            refine ifT rfl ?_
            walk_at "rr"
            refine k false H3 S03 ⟨fun e => (nomatch e), fun h => ?_⟩
            obtain ⟨ks2, e, hk2, _, hasc, _⟩ := only h
            have e := rk_inj hk hk2 e
            subst e
            rw [(rises_pw (lt := lexT) trL _).mpr hasc] at hr2
            cases hr2
          | true =>
            refine ifF rfl ?_
            have hasc : Asc (ks.map (·.2)) := (rises_pw (lt := lexT) trL _).mp hr2
            walk_at "rr"
            refine ⟨⟨rk ks, SqT.of (S03 _ _ ha)⟩, fun D2 hD2' => ?_⟩
            have hD20 := S03.none hD2'
            have hlen2 : ∀ i, i ≤ ks.length → (((ks.take i).map (endB ss)).flatten).length ≤ 2 * i := fun i => by
              induction i with
              | zero => intro _; exact Nat.le_refl _
              | succ i ih =>
                intro hi
                have hg : ks[i]? = some ks[i] := List.getElem?_eq_getElem (by omega)
                obtain ⟨x, y, e6, _⟩ := h5 ks[i] (List.getElem_mem _)
                rw [take_more hg, List.map_append, List.flatten_append, List.length_append]
                have := ih (by omega)
                have e7 : ([ks[i]].map (endB ss)).flatten.length = 2 := by
                  show ((endB ss ks[i]) ++ []).length = 2
                  unfold endB
                  rw [e6]
                  rfl
                omega
            refine lc2_tup (K := K) (a := a) (xs := rk ks) (fun i H4 => Same H3 H4 ∧ H4 D2 = some (.lst ((((ks.take i).map (endB ss)).flatten).map V.bl))) ⟨same_new hD2', upd_same⟩ (fun i H4 ⟨S4, _⟩ => SqT.of (S4 _ _ (S03 _ _ ha))) ?_ ?_
            · rintro i x H4 hx ⟨S4, hD4⟩
              obtain ⟨k0, hk0, rfl⟩ := rk_at hx
              have hm := List.mem_of_getElem? hk0
              have hi := (List.getElem?_eq_some_iff.mp hk0).1
              have S04 := S03.trans S4
              have hk4 := S04 _ _ (hk k0 hm)
              have hl2' := hlen2 i (by omega)
              walk_at "rr"
              refine ⟨rfl, ?_⟩
              walk_at "rr"
              refine ⟨⟨_, SqT.of hk4⟩, ?_⟩
              obtain ⟨x0, y0, e60, _⟩ := h5 k0 hm
              have hk0l : k0.2.length = 2 := by rw [e60]; rfl
              have hel : (endB ss k0).length = 2 := by unfold endB; rw [List.length_map]; exact hk0l
              have hfl : ((ks.take (i + 1)).map (endB ss)).flatten = ((ks.take i).map (endB ss)).flatten ++ endB ss k0 := by rw [take_more hk0, List.map_append, List.flatten_append, List.map_singleton, List.flatten_singleton]
              refine inn_tup (K := K) (a := k0.1) (xs := k0.2.map V.str) (fun j H5 => Same H3 H5 ∧ H5 D2 = some (.lst ((((ks.take i).map (endB ss)).flatten ++ (endB ss k0).take j).map V.bl))) ⟨S4, by rw [List.take_zero, List.append_nil]; exact hD4⟩ (fun j H5 ⟨S5, _⟩ => SqT.of (S5 _ _ (S03 _ _ (hk k0 hm)))) ?_ ?_
              · rintro j x H5 hx ⟨S5, hD5⟩
                obtain ⟨z, hz0, rfl⟩ := str_at hx
                have hj := (List.getElem?_eq_some_iff.mp hz0).1
                walk_at "rr"
                refine ⟨rfl, ?_⟩
                walk_at "rr"
                refine ⟨pa, _, rfl, .inr (SqT.of ((S03.trans S5) _ _ hpa)), rfl, strs_flat ss, ?_⟩
                rw [inV_str]
                refine ⟨_, hD5, by rw [List.length_map, List.length_append, List.length_take, hel]; omega, same_own S5 hD2', ?_⟩
                rw [upd_same, take_more (l := endB ss k0) (x := decide (z ∈ ss)) (by unfold endB; rw [List.getElem?_map, hz0]; rfl), ← List.append_assoc, List.map_append (l₂ := [decide (z ∈ ss)])]
                rfl
              · rintro H5 ⟨S5, hD5⟩
                refine ⟨S5, ?_⟩
                rw [hD5, hfl, List.take_of_length_le (l := endB ss k0) (by rw [List.length_map, hk0l, hel]; exact Nat.le_refl _)]
            · rintro H4 ⟨S4, hD4⟩
              rw [rk_len, List.take_length] at hD4
              walk_at "rr"
              refine ⟨D2, _, rfl, SqL.of hD4, ?_⟩
              refine k _ H4 (S03.trans S4) ?_
              rw [List.all_flatten, List.all_map]
              constructor
              · intro hb
                have hb := List.all_eq_true.mp hb
                refine ⟨a, ks, rfl, ha, hk, by omega, hasc, fun k0 hm => ?_⟩
                obtain ⟨x, y, e6, hl⟩ := h5 k0 hm
                have h7 : (endB ss k0).all id = true := hb k0 hm
                unfold endB at h7
                rw [e6] at h7
                have h7 : (decide (x ∈ ss) && (decide (y ∈ ss) && true)) = true := h7
                obtain ⟨h8, h9⟩ := Bool.and_eq_true_iff.mp h7
                exact ⟨x, y, e6, hl, of_decide_eq_true h8, of_decide_eq_true (Bool.and_eq_true_iff.mp h9).1⟩
              · intro h
                obtain ⟨ks2, e, hk2, _, _, h6⟩ := only h
                have e := rk_inj hk hk2 e
                subst e
                refine List.all_eq_true.mpr fun k0 hm => ?_
                obtain ⟨x, y, e6, hl, hx, hy⟩ := h6 k0 hm
                show (endB ss k0).all id = true
                unfold endB
                rw [e6]
                show (decide (x ∈ ss) && (decide (y ∈ ss) && true)) = true
                rw [decide_eq_true hx, decide_eq_true hy]
                rfl
end
end K5
namespace K5
open PySem PySem.Spec PyProof.Rows L2 RS RZ
local macro_rules | `(tactic| walk_at "r1") => `(tactic| first | refine ⟨_, rfl, ?_⟩ | refine ⟨_, _, rfl, rfl, ?_⟩ | refine ⟨_, _, rfl, ?_⟩ | refine .inl ⟨_, rfl, ?_⟩ | refine .inr ⟨_, rfl, ?_⟩ | refine ⟨⟨_, rfl⟩, ?_⟩)
local macro_rules | `(tactic| walk_at "rr") => `(tactic| repeat walk_at "r1")
/-! ### Web.__init__ -/
abbrev s_web_init : Stmt := inClass (top 22) 0
structure WTxt (K : PySem.W.Frag) (mg : Str → Option Value) (C : Addr) : Prop where
  cl : Cls K C
  nP : NoAttr K C "_places"
  nT : NoAttr K C "_ties"
  mgC : mg "Web" = some (.ref C)
theorem kpt : ¬ (("_places" : Str) = "_ties") := by decide +kernel
/-- the fields of a web -/
def wflds (pa ta : Addr) : List (Str × V) := putF "_ties" (.ref ta) (putF "_places" (.ref pa) [])
theorem wflds_places (pa ta : Addr) : (wflds pa ta).lookup ("_places" : Str) = some (.ref pa) := by
  unfold wflds
  rw [lookup_putF, if_neg kpt, lookup_putF, if_pos rfl]
theorem wflds_ties (pa ta : Addr) : (wflds pa ta).lookup ("_ties" : Str) = some (.ref ta) := by
  unfold wflds
  rw [lookup_putF, if_pos rfl]
def PlacesOk (H : Hp) (pa : Addr) (ss : List Str) : Prop := H pa = some (.tup (ss.map V.str)) ∧ AscS ss ∧ (∀ s ∈ ss, isNameV (.str s) = true) ∧ 1 ≤ ss.length ∧ ss.length ≤ 16
theorem name_len {s : Str} (h : isNameV (.str s) = true) : s.length ≤ 1000 := by
  change isWordS s = true at h
  unfold isWordS at h
  have := of_decide_eq_true (Bool.and_eq_true_iff.mp (Bool.and_eq_true_iff.mp h).1).2
  omega
theorem PlacesOk.vd {H : Hp} {pa : Addr} {ss : List Str} (h : PlacesOk H pa ss) : VdT H (.ref pa) := by
  obtain ⟨h1, _, h3, _, h5⟩ := h
  refine ⟨⟨_, .tup h1⟩, fun a xs e ha => ?_⟩
  cases e
  rw [h1] at ha
  have e := HO.tup.inj (Option.some.inj ha)
  subst e
  refine ⟨by rw [List.length_map]; omega, fun x hx => ?_⟩
  obtain ⟨s, hs, rfl⟩ := List.mem_map.mp hx
  exact ⟨_, .str s (name_len (h3 s hs))⟩
theorem PlacesOk.asc {H : Hp} {pa : Addr} {ss : List Str} (h : PlacesOk H pa ss) : ascV H (.ref pa) = true ∧ lenV H (.ref pa) = ss.length := by
  obtain ⟨h1, h2, h3, _, h5⟩ := h
  rw [ascV_at h1, lenV_at h1, List.length_map]
  refine ⟨?_, rfl⟩
  unfold ascNB
  rw [rises_map, (rises_pw (lt := ltS) (fun a b c => ltS_trans) ss).mpr h2, Bool.and_true, List.all_map, List.all_eq_true]
  exact h3
theorem PlacesOk.same {H H' : Hp} {pa : Addr} {ss : List Str} (h : PlacesOk H pa ss) (S : Same H H') : PlacesOk H' pa ss := ⟨S _ _ h.1, h.2⟩
theorem TiesOk.same {H H' : Hp} {ss : List Str} {v : V} (h : TiesOk H ss v) (S : Same H H') : TiesOk H' ss v := by
  obtain ⟨a, ks, e, h1, h2, h3⟩ := h
  exact ⟨a, ks, e, S _ _ h1, h2.same S, h3⟩
theorem TiesOk.deep {H : Hp} {ss : List Str} {v : V} (h : TiesOk H ss v) (hn : ∀ s ∈ ss, isNameV (.str s) = true) : (∃ t, Kd H v t) ∧ ∀ a xs, v = .ref a → H a = some (.tup xs) → xs.length ≤ 900 ∧ ∀ x ∈ xs, VdT H x := by
  obtain ⟨a, ks, rfl, h1, h2, h3, _, h5⟩ := h
  refine ⟨⟨_, .tup h1⟩, fun a' xs e ha => ?_⟩
  cases e
  rw [h1] at ha
  have e := HO.tup.inj (Option.some.inj ha)
  subst e
  refine ⟨by rw [rk_len]; omega, fun x hx => ?_⟩
  obtain ⟨j, hj⟩ := List.getElem?_of_mem hx
  obtain ⟨k0, hk0, rfl⟩ := rk_at hj
  have hm := List.mem_of_getElem? hk0
  obtain ⟨p, q, e6, _, hp, hq⟩ := h5 k0 hm
  have h7 := h2 k0 hm
  rw [e6] at h7
  refine ⟨⟨_, .tup h7⟩, fun a2 xs2 e2 ha2 => ?_⟩
  cases e2
  rw [h7] at ha2
  have e := HO.tup.inj (Option.some.inj ha2)
  subst e
  refine ⟨(show 2 ≤ 1000 by decide), fun y hy => ?_⟩
  rcases List.mem_cons.mp hy with rfl | hy
  · exact ⟨_, .str p (name_len (hn p hp))⟩
  · rw [List.mem_singleton.mp hy]
    exact ⟨_, .str q (name_len (hn q hq))⟩
theorem upd_upd {H : Hp} {p : Addr} {a b : HO} : upd (upd H p a) p b = upd H p b := by
  funext q
  by_cases e : q = p
  · rw [e, upd_same, upd_same]
  · rw [upd_ne e, upd_ne e, upd_ne e]
structure spWebInit (C : Addr) (vs : List V) (H : Hp) (Q : VK) (E : XK) : Prop where
  h : ∃ (p dx pa ta : Addr) (ss : List Str), vs = [.ref p, .ref pa, .ref ta] ∧ H p = some (.ins C dx []) ∧ PlacesOk H pa ss ∧ TiesOk H ss (.ref ta) ∧ ∀ H', Same H H' → Q .non (upd H' p (.ins C dx (wflds pa ta)))
section
variable {P : Program} {w : World} {K : PySem.W.Frag} {mg : Str → Option Value} {base : Heap}
theorem sc_web_init : FnScope ["self", "places", "ties"] ["self", "places", "ties"] (defScope s_web_init) := ⟨rfl, rfl, rfl, by decide +kernel, rfl, by decide +kernel, by decide +kernel⟩
theorem ok_web_init {f C : Addr} {fd : FuncData} (F : Fun K "__init__" "Web.__init__" s_web_init f fd) (T : Txt K mg) (W : WTxt K mg C) (DA : Dfn P w K mg base "_are_places" 4 ["value"] spIsPlaces) (DT : Dfn P w K mg base "are_ties" 5 ["places", "value"] spAreTies) : FnOk P w K mg base CX0 6 f fd ["self", "places", "ties"] (spWebInit C) := by
  refine F.ok sc_web_init (fun vs H Q E h => ?_) (fun cdv A outer s H vs Q E hr h => ?_)
  · obtain ⟨p, dx, pa, ta, ss, rfl, _⟩ := h
    rfl
  · obtain ⟨p, dx, pa, ta, ss, rfl, hp, hpl, hti, k⟩ := h
    refine ⟨_, pss_cons (ps_if (PW.pt (pw_or (pt_not (pt_val (pe_d DA (hr.mono (by decide)) (pa_cons (pv 1) pa_nil)))) (pw_or1 (pt_not (pt_val (pe_d DT hr (pa_cons (pv 1) (pa_cons (pv 2) pa_nil)))))))) (pss_one ps_never) pss_nil)
      (pss_cons (ps_fld (pv 0) (pv 1) rfl) (pss_one (ps_fld (pv 0) (pv 2) rfl))), ?_⟩
    walk_at "rr"
    refine ⟨hpl.vd, fun H1 S1 => ?_⟩
    obtain ⟨e1, e2⟩ := hpl.asc
    rw [e1, e2, decide_eq_true hpl.2.2.2.1, decide_eq_true hpl.2.2.2.2]
    walk_at "rr"
    have hti1 := hti.same S1
    have hpl1 := hpl.same S1
    obtain ⟨d1, d2⟩ := hti1.deep hpl.2.2.1
    refine ⟨pa, ss, .ref ta, rfl, hpl1.1, hpl.2.2.1, d1, d2, fun b H2 S2 hb => ?_⟩
    have hb : b = true := hb.mpr hti1
    subst hb
    walk_at "rr"
    have S02 := S1.trans S2
    walk_at "rr"
    refine ⟨p, C, dx, [], rfl, S02 _ _ hp, W.cl, W.nP, (by show 0 < 1000; decide), _, rfl, _, rfl, p, C, dx, _, rfl, upd_same, W.cl, W.nT, (by show 1 < 1000; decide), ?_⟩
    rw [upd_upd]
    exact k H2 S02
end
end K5
namespace K5
open PySem PySem.Spec PyProof.Rows L2 RS RZ
local macro_rules | `(tactic| walk_at "r1") => `(tactic| first | refine ⟨_, rfl, ?_⟩ | refine ⟨_, _, rfl, rfl, ?_⟩ | refine ⟨_, _, rfl, ?_⟩ | refine .inl ⟨_, rfl, ?_⟩ | refine .inr ⟨_, rfl, ?_⟩ | refine ⟨⟨_, rfl⟩, ?_⟩)
local macro_rules | `(tactic| walk_at "rr") => `(tactic| repeat walk_at "r1")
/-! ### Web.__init__ of what no web can have -/
structure ITxt (K : PySem.W.Frag) (mg : Str → Option Value) : Prop where
  p_IW : ∃ C, Pl K mg "InvalidWeb" C
def WebOk (H : Hp) (v1 v2 : V) : Prop := ∃ (pa : Addr) (ss : List Str), v1 = .ref pa ∧ PlacesOk H pa ss ∧ TiesOk H ss v2
structure DfnX (P : Program) (w : World) (K : PySem.W.Frag) (mg : Str → Option Value) (base : Heap) (x : Str) (k : Nat) (ps : List Str) (sp : Sp) : Prop where
  h : ∃ (f : Addr) (fd : FuncData), mg x = some (.ref f) ∧ PySem.W.keepIn K (.ref f) = true ∧ Binds K fd ps [] ∧ FnOk P w K mg base (L2.CX P w) k f fd ps sp
def DeepT (H : Hp) (v : V) : Prop := (∃ t, Kd H v t) ∧ ∀ a xs, v = .ref a → H a = some (.tup xs) → xs.length ≤ 900 ∧ ∀ x ∈ xs, VdT H x
theorem kd_back {H H' : Hp} {a : Addr} {t : String} {o : HO} (h : Kd H (.ref a) t) (S : Same H H') (e : H' a = some o) : H a = some o := by
  cases h with
  | lst h => rw [S _ _ h] at e; rw [h]; exact e
  | tup h => rw [S _ _ h] at e; rw [h]; exact e
  | dK h => rw [S _ _ h] at e; rw [h]; exact e
theorem DeepT.same {H H' : Hp} {v : V} (h : DeepT H v) (S : Same H H') : DeepT H' v := by
  obtain ⟨⟨t, hk⟩, hx⟩ := h
  refine ⟨⟨t, hk.same S⟩, fun a xs e ha => ?_⟩
  subst e
  obtain ⟨h1, h2⟩ := hx a xs rfl (kd_back hk S ha)
  exact ⟨h1, fun x hx => (h2 x hx).same S⟩
theorem places_of {H : Hp} {v : V} (h : (ascV H v && (decide (1 ≤ lenV H v) && decide (lenV H v ≤ 16))) = true) : ∃ (pa : Addr) (ss : List Str), v = .ref pa ∧ PlacesOk H pa ss := by
  obtain ⟨h1, h2⟩ := Bool.and_eq_true_iff.mp h
  obtain ⟨h3, h4⟩ := Bool.and_eq_true_iff.mp h2
  obtain ⟨a, ss, rfl, ha, as, hn⟩ := asc_tup h1
  have h3 := of_decide_eq_true h3
  have h4 := of_decide_eq_true h4
  rw [lenV_at ha, List.length_map] at h3 h4
  exact ⟨a, ss, rfl, ha, as, hn, h3, h4⟩
theorem ties_back {H H' : Hp} {ss : List Str} {v : V} (hd : DeepT H v) (S : Same H H') (h : TiesOk H' ss v) : TiesOk H ss v := by
  obtain ⟨a, ks, rfl, h1, h2, h3⟩ := h
  obtain ⟨⟨t, hk⟩, hx⟩ := hd
  have ha := kd_back hk S h1
  refine ⟨a, ks, rfl, ha, fun k hkm => ?_, h3⟩
  have hm : V.ref k.1 ∈ rk ks := by
    unfold rk
    rw [List.map_map]
    exact List.mem_map.mpr ⟨k, hkm, rfl⟩
  obtain ⟨⟨t2, hk2⟩, _⟩ := (hx a _ rfl ha).2 _ hm
  exact kd_back hk2 S (h2 k hkm)
structure spWebInitX (mg : Str → Option Value) (vs : List V) (H : Hp) (Q : VK) (E : XK) : Prop where
  h : ∃ (p : Addr) (v1 v2 : V), vs = [.ref p, v1, v2] ∧ VdT H v1 ∧ DeepT H v2 ∧ ¬ WebOk H v1 v2 ∧ ∀ C H', mg "InvalidWeb" = some (.ref C) → Same H H' → E (.ref C) none H'
section
variable {P : Program} {w : World} {K : PySem.W.Frag} {mg : Str → Option Value} {base : Heap}
theorem okx_web_init {f : Addr} {fd : FuncData} (F : Fun K "__init__" "Web.__init__" s_web_init f fd) (T : Txt K mg) (I : ITxt K mg) (DA : Dfn P w K mg base "_are_places" 4 ["value"] spIsPlaces) (DT : Dfn P w K mg base "are_ties" 5 ["places", "value"] spAreTies) : FnOk P w K mg base (L2.CX P w) 6 f fd ["self", "places", "ties"] (spWebInitX mg) := by
  refine F.okX sc_web_init (fun vs H Q E h => ?_) (fun cdv A outer s H vs Q E hr h => ?_)
  · obtain ⟨p, v1, v2, rfl, _⟩ := h
    rfl
  · obtain ⟨p, v1, v2, rfl, hv1, hv2, hno, k⟩ := h
    obtain ⟨C, pl⟩ := I.p_IW
    refine ⟨_, pss_cons (ps_if (PW.pt (pw_or (pt_not (pt_val (pe_d DA (hr.mono (by decide)) (pa_cons (pv 1) pa_nil)))) (pw_or1 (pt_not (pt_val (pe_d DT hr (pa_cons (pv 1) (pa_cons (pv 2) pa_nil))))))))
        (pss_one (ps_raise (W := fun cls d _ H => E cls d H) rfl (takes_of rfl rfl rfl rfl) (pmk_own PySem.F.excBase_ValueError pl.q pl.g pl.k (raises_own pl.s pl.t) (by rfl)))) pss_nil)
      (pss_cons ps_never (pss_one ps_never)), ?_⟩
    walk_at "rr"
    refine ⟨hv1, fun H1 S1 => ?_⟩
    walk_at "rr"
    cases hb : (ascV H v1 && (decide (1 ≤ lenV H v1) && decide (lenV H v1 ≤ 16))) with
    | false =>
      refine ifT rfl ?_
      refine ifT rfl ?_
      exact k C H1 pl.g S1
    | true =>
      obtain ⟨pa, ss, rfl, hpl⟩ := places_of hb
      refine ifF rfl ?_
      walk_at "rr"
      have hpl1 := hpl.same S1
      obtain ⟨d1, d2⟩ := hv2.same S1
      refine ⟨pa, ss, v2, rfl, hpl1.1, hpl.2.2.1, d1, d2, fun b H2 S2 hb2 => ?_⟩
      have hbf : b = false := by
        cases b with
        | false => rfl
        | true => exact absurd ⟨pa, ss, rfl, hpl, ties_back hv2 S1 (hb2.mp rfl)⟩ hno
      subst hbf
      walk_at "rr"
      exact k C H2 pl.g (S1.trans S2)
end
end K5
namespace K5
open PySem PySem.Spec PyProof.Rows L2 RS RZ
local macro_rules | `(tactic| walk_at "r1") => `(tactic| first | refine ⟨_, rfl, ?_⟩ | refine ⟨_, _, rfl, rfl, ?_⟩ | refine ⟨_, _, rfl, ?_⟩ | refine .inl ⟨_, rfl, ?_⟩ | refine .inr ⟨_, rfl, ?_⟩ | refine ⟨⟨_, rfl⟩, ?_⟩)
local macro_rules | `(tactic| walk_at "rr") => `(tactic| repeat walk_at "r1")
/-! ### _law_made -/
structure WebAt (C : Addr) (H : Hp) (q : Addr) (ss : List Str) (ts : List (List Str)) : Prop where
  h : ∃ (dx pa ta : Addr) (ks : RefK), H q = some (.ins C dx (wflds pa ta)) ∧ PlacesOk H pa ss ∧ H ta = some (.tup (rk ks)) ∧ TK H ks ∧ ks.map (·.2) = ts
structure spMade (C : Addr) (vs : List V) (H : Hp) (Q : VK) (E : XK) : Prop where
  h : ∃ (p : Addr) (ss : List Str) (ks : RefK), vs = [.ref p] ∧ Pln H p ss ks ∧ Wb ss (ks.map (·.2)) ∧ (∀ s ∈ ss, isNameV (.str s) = true) ∧ 1 ≤ ss.length ∧ ss.length ≤ 16 ∧ ks.length ≤ 60 ∧
    ∀ q H', H q = none → Same H H' → WebAt C H' q ss (ks.map (·.2)) → Q (.ref q) H'
section
variable {P : Program} {w : World} {K : PySem.W.Frag} {mg : Str → Option Value} {base : Heap}
theorem sc_made : FnScope ["plain"] ["plain"] (defScope s_law_made) := ⟨rfl, rfl, rfl, by decide +kernel, rfl, by decide +kernel, by decide +kernel⟩
theorem ok_law_made {f C fI : Addr} {fd fdI : FuncData} (F : Fun K "_law_made" "_law_made" s_law_made f fd) (T : Txt K mg) (W : WTxt K mg C) (M : Mk K C fI) (GI : FnOk P w K mg base CX0 6 fI fdI ["self", "places", "ties"] (spWebInit C)) (bI : Binds K fdI ["self", "places", "ties"] []) : FnOk P w K mg base CX0 8 f fd ["plain"] (spMade C) := by
  refine F.ok sc_made (fun vs H Q E h => ?_) (fun cdv A outer s H vs Q E hr h => ?_)
  · obtain ⟨p, ss, ks, rfl, _⟩ := h
    rfl
  · obtain ⟨p, ss, ks, rfl, hp, hw, hn, h1, h16, h60, k⟩ := h
    have hu := hu_of hr
    refine ⟨_, pss_one (ps_ret (pe_make M GI hr (by rfl) W.mgC bI .nil pass0 (pa_cons (pe_callTy call_tuple_of (by rfl) T.n_tuple (by decide +kernel) (pa_cons (pe_dget hu (pv 0) pe_str (fun _ _ => rfl)) pa_nil)) (pa_cons (pe_callTy call_tuple_of (by rfl) T.n_tuple (by decide +kernel) (pa_cons (pe_dget hu (pv 0) pe_str (fun _ _ => rfl)) pa_nil)) pa_nil)))), ?_⟩
    obtain ⟨⟨l1, l2, hpd, hl1, hl2⟩, hk⟩ := hp
    walk_at "rr"
    refine ⟨_, _, rfl, dget_places hpd, ?_⟩
    walk_at "rr"
    refine ⟨l1, _, rfl, .inl ⟨SqL.of hl1, fun pa hpa => ?_⟩⟩
    have S1 := same_new (o := .tup (ss.map V.str)) hpa
    walk_at "rr"
    refine ⟨_, _, rfl, dget_ties (S1 _ _ hpd), ?_⟩
    walk_at "rr"
    refine ⟨l2, _, rfl, .inl ⟨SqL.of (S1 _ _ hl2), fun ta hta => ?_⟩⟩
    have S2 := same_new (o := .tup (rk ks)) hta
    walk_at "rr"
    intro x dx hx hdx ne
    have hpa2 := S2 _ _ (upd_same (H := H) (a := pa) (o := .tup (ss.map V.str)))
    have hta2 : (upd (upd H pa (.tup (ss.map V.str))) ta (.tup (rk ks))) ta = some (.tup (rk ks)) := upd_same
    have S02 := S1.trans S2
    obtain ⟨H2, e2⟩ : ∃ X, upd (upd H pa (.tup (ss.map V.str))) ta (.tup (rk ks)) = X := ⟨_, rfl⟩
    rw [e2] at S02 hx hdx hpa2 hta2 ⊢
    have hk2 : TK H2 ks := hk.same S02
    have S3 : Same H2 (upd (upd H2 dx (.own x)) x (.ins C dx [])) := (same_new hdx).new (by rw [upd_ne ne.symm]; exact hx)
    have hpl : PlacesOk (upd (upd H2 dx (.own x)) x (.ins C dx [])) pa ss := ⟨S3 _ _ hpa2, hw.as, hn, h1, h16⟩
    have hx0 : H x = none := S02.none hx
    refine ⟨x, dx, pa, ta, ss, rfl, upd_same, hpl, ⟨ta, ks, rfl, S3 _ _ hta2, hk2.same S3, h60, hw.at_, fun q hq => hw.el q.2 (List.mem_map_of_mem hq)⟩, fun H' S' => ⟨rfl, ?_⟩⟩
    have np : pa ≠ x := ne_of_none hpa2 hx
    have nt : ta ≠ x := ne_of_none hta2 hx
    refine k x _ hx0 (same_own (S02.trans (S3.trans S')) hx0) ⟨dx, pa, ta, ks, upd_same, ⟨by rw [upd_ne np]; exact S' _ _ hpl.1, hpl.2⟩, by rw [upd_ne nt]; exact S' _ _ (S3 _ _ hta2), fun q hq => ?_, rfl⟩
    have h5 := S' _ _ (S3 _ _ (hk2 q hq))
    rw [upd_ne (ne_of_none (hk2 q hq) hx)]
    exact h5
end
end K5
namespace K5
open PySem PySem.Spec PyProof.Rows L2 RS RZ
local macro_rules | `(tactic| walk_at "r1") => `(tactic| first | refine ⟨_, rfl, ?_⟩ | refine ⟨_, _, rfl, rfl, ?_⟩ | refine ⟨_, _, rfl, ?_⟩ | refine .inl ⟨_, rfl, ?_⟩ | refine .inr ⟨_, rfl, ?_⟩ | refine ⟨⟨_, rfl⟩, ?_⟩)
local macro_rules | `(tactic| walk_at "rr") => `(tactic| repeat walk_at "r1")
/-! ### Web.__eq__ -/
abbrev s_web_eq : Stmt := inClass (top 22) 26
structure KTxt (K : PySem.W.Frag) (C : Addr) : Prop where
  kit : PySem.W.kitOne K (.ref C) (.ref C) = some true
  c1 : PySem.W.findIn K (.ref C) "__class__" = some (some (.builtin "object.__class__"))
  c2 : PySem.W.specialIn K (.builtin "object.__class__") "__get__" = some (some (.builtin "getset_descriptor.__get__"))
  c3 : PySem.W.takesIn K (.builtin "object.__class__") = some true
  c4 : PySem.W.mroIn K C (.type "object") = some true
structure spWebEq (C : Addr) (vs : List V) (H : Hp) (Q : VK) (E : XK) : Prop where
  h : ∃ (p q : Addr) (ss ss2 : List Str) (ts ts2 : List (List Str)), vs = [.ref p, .ref q] ∧ WebAt C H p ss ts ∧ WebAt C H q ss2 ts2 ∧ (∀ x ∈ ss ++ ss2, PyData.strOk x = true) ∧ (∀ t ∈ ts ++ ts2, okT t) ∧ ∀ H', Same H H' → Q (.bl (decide (ss = ss2) && decide (ts = ts2))) H'
theorem strsD_ok (ss : List Str) (h : ∀ x ∈ ss, PyData.strOk x = true) : SeqAt.shaped (tD ss) = true := by
  obtain ⟨h1, h2⟩ := tD_ok ss h
  unfold SeqAt.shaped
  rw [h1, h2]
  rfl
def tDD (ts : List (List Str)) : PyData := .tuple (ts.map tD)
theorem tDD_ok (ts : List (List Str)) (h : ∀ t ∈ ts, okT t) : SeqAt.shaped (tDD ts) = true := by
  obtain ⟨h1, h2⟩ := tDs_ok ts h
  unfold tDD SeqAt.shaped PyData.canLay0 PyData.depth
  rw [h1, Bool.true_and]
  exact decide_eq_true (by omega)
theorem eqv_tDs : ∀ a b : List (List Str), PyData.eqvAll (a.map tD) (b.map tD) = decide (a = b)
  | [], [] => by unfold PyData.eqvAll; rfl
  | [], _ :: _ => by unfold PyData.eqvAll; rfl
  | _ :: _, [] => by unfold PyData.eqvAll; rfl
  | x :: a, y :: b => by
    rw [List.map_cons, List.map_cons]
    unfold PyData.eqvAll
    rw [eqv_tD, eqv_tDs a b]
    by_cases h : x = y
    · subst h
      rw [decide_eq_true rfl, Bool.true_and]
      exact decide_eq_decide.mpr ⟨fun e => by rw [e], fun e => (List.cons.inj e).2⟩
    · rw [decide_eq_false h, Bool.false_and]
      exact (decide_eq_false fun e => h (List.cons.inj e).1).symm
theorem eqv_tDD (a b : List (List Str)) : PyData.eqv (tDD a) (tDD b) = decide (a = b) := by
  unfold tDD PyData.eqv
  exact eqv_tDs a b
section
variable {P : Program} {w : World} {K : PySem.W.Frag} {mg : Str → Option Value} {base : Heap}
theorem sc_web_eq : FnScope ["self", "other"] ["self", "other"] (defScope s_web_eq) := ⟨rfl, rfl, rfl, by decide +kernel, rfl, by decide +kernel, by decide +kernel⟩
theorem ok_web_eq {f C : Addr} {fd : FuncData} (F : Fun K "__eq__" "Web.__eq__" s_web_eq f fd) (T : Txt K mg) (W : WTxt K mg C) (G : KTxt K C) : FnOk P w K mg base CX0 1 f fd ["self", "other"] (spWebEq C) := by
  refine F.ok sc_web_eq (fun vs H Q E h => ?_) (fun cdv A outer s H vs Q E hr h => ?_)
  · obtain ⟨p, q, _, _, _, _, rfl, _⟩ := h
    rfl
  · obtain ⟨p, q, ss, ss2, ts, ts2, rfl, h1, h2, o1, o2, k⟩ := h
    have hu := hr.units
    refine ⟨_, pss_one (ps_ret (pe_and (pe_callB call_isi (by rfl) T.n_isinstance (by decide +kernel) (pa_cons (pv 1) (pa_cons (pe_glob (v := .ref C) rfl W.mgC rfl) pa_nil)))
      (pe_and (pe_cmpR (op_eqD hu) (pe_fld (pv 0) rfl) (pe_fld (pv 1) rfl) (nomark _)) (pe_one (pe_cmpR (op_eqD hu) (pe_fld (pv 0) rfl) (pe_fld (pv 1) rfl) (nomark _)))))), ?_⟩
    obtain ⟨⟨dx, pa, ta, ks, a1, a2, a3, a4, a5⟩⟩ := h1
    obtain ⟨⟨dx2, pa2, ta2, ks2, b1, b2, b3, b4, b5⟩⟩ := h2
    subst a5 b5
    walk_at "rr"
    refine ⟨.ref q, _, _, _, _, rfl, .own _, .base (.ins b1 W.cl G.c1 G.c2 G.c3 G.c4), G.kit, ?_⟩
    walk_at "rr"
    refine ⟨p, C, dx, _, _, rfl, a1, W.cl, W.nP, wflds_places _ _, ?_⟩
    walk_at "rr"
    refine ⟨q, C, dx2, _, _, rfl, b1, W.cl, W.nP, wflds_places _ _, ?_⟩
    walk_at "rr"
    refine ⟨tD ss, tD ss2, .tup (SqT.of a2.1) (dp_strs ss), .tup (SqT.of b2.1) (dp_strs ss2), strsD_ok _ fun x hx => o1 x (List.mem_append_left _ hx), strsD_ok _ fun x hx => o1 x (List.mem_append_right _ hx), ?_⟩
    rw [eqv_tD]
    walk_at "rr"
    cases e : decide (ss = ss2) with
    | false =>
      refine ifF rfl ?_
      exact q_bl (Q := Q) (by rw [e, Bool.false_and]) (k H (Same.refl _))
    | true =>
      refine ifT rfl ?_
      walk_at "rr"
      refine ⟨p, C, dx, _, _, rfl, a1, W.cl, W.nT, wflds_ties _ _, ?_⟩
      walk_at "rr"
      refine ⟨q, C, dx2, _, _, rfl, b1, W.cl, W.nT, wflds_ties _ _, ?_⟩
      walk_at "rr"
      refine ⟨tDD (ks.map (·.2)), tDD (ks2.map (·.2)), .tup (SqT.of a3) (dp_rk ks a4), .tup (SqT.of b3) (dp_rk ks2 b4), tDD_ok _ fun x hx => o2 x (List.mem_append_left _ hx), tDD_ok _ fun x hx => o2 x (List.mem_append_right _ hx), ?_⟩
      rw [eqv_tDD]
      exact q_bl (Q := Q) (by rw [e, Bool.true_and]) (k H (Same.refl _))
end
end K5
namespace K5
open PySem PySem.Spec PyProof.Rows L2 RS RZ
local macro_rules | `(tactic| walk_at "r1") => `(tactic| first | refine ⟨_, rfl, ?_⟩ | refine ⟨_, _, rfl, rfl, ?_⟩ | refine ⟨_, _, rfl, ?_⟩ | refine .inl ⟨_, rfl, ?_⟩ | refine .inr ⟨_, rfl, ?_⟩ | refine ⟨⟨_, rfl⟩, ?_⟩)
local macro_rules | `(tactic| walk_at "rr") => `(tactic| repeat walk_at "r1")
/-! ### tie_of, _law_names_of -/
structure spTieOf (vs : List V) (H : Hp) (Q : VK) (E : XK) : Prop where
  h : ∃ a b : Str, vs = [.str a, .str b] ∧ a ≠ b ∧ ∀ p, H p = none → Q (.ref p) (upd H p (.tup ((tieS a b).map V.str)))
def lets : Str := "abcdefghijklmnopqrstuvwxyz"
def namesP : List Str := lets.cps.toList.map fun c => ("p" : Str) ++ ⟨#[c]⟩
structure spNamesOf (vs : List V) (H : Hp) (Q : VK) (E : XK) : Prop where
  h : ∃ n : Nat, vs = [.int n] ∧ ∀ p H', H p = none → Same H H' → H' p = some (.tup ((namesP.take n).map V.str)) → Q (.ref p) H'
section
variable {P : Program} {w : World} {K : PySem.W.Frag} {mg : Str → Option Value} {base : Heap}
theorem sc_tie_of : FnScope ["a", "b"] ["a", "b"] (defScope s_tie_of) := ⟨rfl, rfl, rfl, by decide +kernel, rfl, by decide +kernel, by decide +kernel⟩
theorem ok_tie_of {f : Addr} {fd : FuncData} (F : Fun K "tie_of" "tie_of" s_tie_of f fd) (T : Txt K mg) : FnOk P w K mg base CX0 1 f fd ["a", "b"] spTieOf := by
  refine F.ok sc_tie_of (fun vs H Q E h => ?_) (fun cdv A outer s H vs Q E hr h => ?_)
  · obtain ⟨a, b, rfl, _⟩ := h
    rfl
  · obtain ⟨a, b, rfl, hab, k⟩ := h
    have h2z : (2 : Nat) ≤ sizeLine := by have := line1000; omega
    refine ⟨_, pss_one (ps_ret (pe_ifExp (pt_cmpR op_lt_str (pv 0) (pv 1) (nomark _)) (pe_tup (pa_cons (pv 0) (pa_cons (pv 1) pa_nil))) (pe_tup (pa_cons (pv 1) (pa_cons (pv 0) pa_nil))))), ?_⟩
    walk_at "rr"
    refine ite2 (fun c => ?_) (fun c => ?_)
    · walk_at "rr"
      refine ⟨h2z, fun p hp => ?_⟩
      have := k p hp
      rw [tieS_lt (show ltS a b = true from c)] at this
      exact this
    · walk_at "rr"
      refine ⟨h2z, fun p hp => ?_⟩
      have := k p hp
      rw [tieS_gt ((lt_or hab).resolve_left c)] at this
      exact this
theorem sc_names_of : FnScope ["count", "letter"] ["count"] (defScope s_law_names_of) := ⟨rfl, rfl, rfl, by decide +kernel, rfl, by decide +kernel, by decide +kernel⟩
theorem ok_law_names_of {f : Addr} {fd : FuncData} (F : Fun K "_law_names_of" "_law_names_of" s_law_names_of f fd) (T : Txt K mg) : FnOk P w K mg base CX0 1 f fd ["count"] spNamesOf := by
  refine F.ok sc_names_of (fun vs H Q E h => ?_) (fun cdv A outer s H vs Q E hr h => ?_)
  · obtain ⟨n, rfl, _⟩ := h
    rfl
  · obtain ⟨n, rfl, k⟩ := h
    have hz := line1000
    refine ⟨_, pss_one (ps_ret (pe_callTy call_tuple_of (by rfl) T.n_tuple (by decide +kernel) (pa_cons (pe_slice sl_list (pe_lc (own := [("letter", 1)]) (g := gName 1) (tt := tYes) rfl sc_names_of.nd (pi_str pe_str) (blkOk_by (own := [("letter", 1)]) (N := ["count", "letter"]) (sc := defScope s_law_names_of) (by decide +kernel))
      (fun _ _ _ _ _ => pg_name (i := 1) sc_names_of.nd rfl (Or.inl rfl)) (fun _ _ _ _ _ => pts_nil) (fun _ _ _ _ _ => pe_op op_add_str pe_str (pv 1))) po_none (po_some (pv 0))) pa_nil))), ?_⟩
    walk_at "rr"
    refine fun D hD => lc_str (x := lets) (fun i H2 => Same H H2 ∧ H2 D = some (.lst ((namesP.take i).map V.str))) ⟨same_new hD, upd_same⟩ ?_ ?_
    · rintro i c H2 hc ⟨S2, hD2⟩
      have hi := (List.getElem?_eq_some_iff.mp hc).1
      have hi : i < 26 := hi
      refine ⟨rfl, ?_⟩
      walk_at "rr"
      refine ⟨(by decide : (2 : Nat) ≤ sizeLine), ?_⟩
      refine ⟨_, hD2, by rw [List.length_map, List.length_take]; omega, same_own S2 hD, ?_⟩
      rw [upd_same, take_more (l := namesP) (x := ("p" : Str) ++ ⟨#[c]⟩) (by unfold namesP; rw [List.getElem?_map, hc]; rfl), List.map_append]
      rfl
    · rintro H2 ⟨S2, hD2⟩
      walk_at "rr"
      refine ⟨D, _, rfl, SqL.of hD2, fun c hc => ?_⟩
      rw [cut_to]
      have hl : namesP.take lets.cps.toList.length = namesP := List.take_of_length_le (by unfold namesP; rw [List.length_map]; exact Nat.le_refl _)
      rw [hl, ← List.map_take]
      walk_at "rr"
      refine ⟨c, _, rfl, .inl ⟨SqL.of upd_same, fun p hp => ?_⟩⟩
      have S3 := S2.new (o := .lst ((namesP.take n).map V.str)) hc
      exact k p _ (S3.none hp) (S3.new hp) upd_same
end
end K5
namespace K5
open PySem PySem.Spec PyProof.Rows L2 RS RZ
local macro_rules | `(tactic| walk_at "r1") => `(tactic| first | refine ⟨_, rfl, ?_⟩ | refine ⟨_, _, rfl, rfl, ?_⟩ | refine ⟨_, _, rfl, ?_⟩ | refine .inl ⟨_, rfl, ?_⟩ | refine .inr ⟨_, rfl, ?_⟩ | refine ⟨⟨_, rfl⟩, ?_⟩)
local macro_rules | `(tactic| walk_at "rr") => `(tactic| repeat walk_at "r1")
/-! ### a tuple's items by an iterator (for enumerate of a tuple) -/
theorem draws_tuple {prog : Program} {w : World} {A : Around} (hh : A.handled = none) (it l : Addr) (hne : l ≠ it) (items : Array Value) : Draws prog w A it [it, l] items.size (fun i v => items[i]? = some v) fun i h => h.IsTupleIter it l i ∧ h.IsTuple l items where
  live := fun i h st => by
    obtain ⟨⟨o, ho, _⟩, _⟩ := st
    exact ⟨o, ho⟩
  frame := fun i h h' st hk => by
    obtain ⟨⟨o, ho, a, b⟩, ⟨o2, ho2, c⟩⟩ := st
    exact ⟨⟨o, hk it List.mem_cons_self o ho, a, b⟩, ⟨o2, hk l (List.mem_cons_of_mem _ List.mem_cons_self) o2 ho2, c⟩⟩
  item := fun i s Q E hi st hQ => by
    refine nextOf_tuple_item st.1 st.2 (Array.getElem?_eq_getElem hi) fun h' hit' hs' => ?_
    obtain ⟨o2, ho2, c⟩ := st.2
    exact hQ items[i] h' s.toks (Array.getElem?_eq_getElem hi) ⟨hit', ⟨o2, (Heap.SameBut.extBut hs') l o2 hne ho2, c⟩⟩ hs'
  done := fun s Q E st hE => nextOf_tuple_end hh st.1 st.2 (Array.getElem?_eq_none (Nat.le_refl _)) hE
end K5
namespace K5
open PySem PySem.Spec PyProof.Rows L2 RS RZ
local macro_rules | `(tactic| walk_at "r1") => `(tactic| first | refine ⟨_, rfl, ?_⟩ | refine ⟨_, _, rfl, rfl, ?_⟩ | refine ⟨_, _, rfl, ?_⟩ | refine .inl ⟨_, rfl, ?_⟩ | refine .inr ⟨_, rfl, ?_⟩ | refine ⟨⟨_, rfl⟩, ?_⟩)
local macro_rules | `(tactic| walk_at "rr") => `(tactic| repeat walk_at "r1")
/-! ### _law_is_made: try: call() except InvalidWeb: return False; return True -/
def TTm (K : PySem.W.Frag) (CS : Addr) : (XK → Hp → VK → Prop) → Hp → VK → Prop := fun tl H Q => tl (fun cls _ H' => ∃ b, PySem.W.exmOne K cls (.ref CS) = some b ∧ (b = true → Q (.bl false) H') ∧ (b = false → False)) H fun _ H' => Q (.bl true) H'
theorem made_gives {X : Cx} {Ng : List Str} {x a e q : Str} {sg : Scope} {g CS : Addr} {cdg : Value} {j j2 : Nat} {p1 p2 p3 p4 p5 p6 p7 p8 p9 p10 : Pos} (hge : List.lookup e sg.names = some NameKind.globalImplicit) (hme : X.mg e = some (.ref CS)) (hde : (e == ("__debug__" : Str)) = false)
    (h0 : ∀ f : Addr, (L2.start Ng [V.ref f])[0]? = some (some (V.ref f))) :
    LamX.GivesTo X Ng x sg g cdg [Stmt.Try [Stmt.Expr ((Expr.Name a p1).Call [] [] p2) p3] [ExceptHandler.ExceptHandler (some (Expr.Name e p4)) none [Stmt.Return (some (Expr.Constant (Const.bool false) j p5)) p6] p7] [] [] p8, Stmt.Return (some (Expr.Constant (Const.bool true) j2 p9)) p10] a q (TTm X.K CS) := by
  intro f c' s H Q tl act hc h
  have hgl := hge
  refine ⟨_, pss_cons (ps_try_only (c := .ref CS) (tb := fun W D σ H1 => ∃ Ech : XK, (∀ (cls : Value) (d : Option Addr) (σ' : L2.St) (H' : Hp), Ech cls d H' → W cls d σ' H') ∧ σ[0]? = some (some (.ref f)) ∧ H1 c' = some (LamX.CodeO c' q) ∧ tl Ech H1 fun _ H' => D.nx σ H') (Wout := fun _ _ _ _ => False) rfl rfl ⟨hgl, hde, Or.inl hme⟩ LamX.takes0
      (fun W pn xe tk _ => ⟨fun pins s' σ H' D I ⟨Ech, hW, h1, h2, h3⟩ => (pss_one (ps_expr (act W pn xe Ech p1 p2 tk hW))).run pins s' σ H' D I ⟨h1, h2, h3⟩⟩)
      (fun a oe cls d pn _ _ => pss_one (ps_ret pe_bl))) (pss_one (ps_ret pe_bl)), ?_⟩
  refine ⟨fun cls _ H' => ∃ b, PySem.W.exmOne X.K cls (.ref CS) = some b ∧ (b = true → Q (.bl false) H') ∧ (b = false → False), fun cls d σ' H' ⟨b, e1, e2, e3⟩ => ?_, h0 f, hc, h⟩
  exact ⟨b, e1, fun hb a _ => e2 hb, fun hb => e3 hb⟩
end K5
namespace K5
open PySem PySem.Spec PyProof.Rows L2 RS RZ
local macro_rules | `(tactic| walk_at "r1") => `(tactic| first | refine ⟨_, rfl, ?_⟩ | refine ⟨_, _, rfl, rfl, ?_⟩ | refine ⟨_, _, rfl, ?_⟩ | refine .inl ⟨_, rfl, ?_⟩ | refine .inr ⟨_, rfl, ?_⟩ | refine ⟨⟨_, rfl⟩, ?_⟩)
local macro_rules | `(tactic| walk_at "rr") => `(tactic| repeat walk_at "r1")
theorem wpAny_if {α : Type} {M : Model} {A : Around} {c : Prop} [Decidable c] {a b : Sem α} {Q : α → Shared → Prop} {E : Value → Shared → Prop} {s : Shared} (h1 : wpAny M A a Q E s) (h2 : wpAny M A b Q E s) : wpAny M A (if c then a else b) Q E s := by
  split
  · exact h1
  · exact h2
theorem meets_enumerate_newT (l : Addr) (items : Array Value) : Meets (Builtin.«enumerate.__new__» { pos := [Value.type "enumerate", Value.ref l] }) fun x R s =>
    s.heap.IsTuple l items ∧ R (Except.ok (Flow.ret (Value.ref (s.heap.push { cls := Value.type "tuple_iterator", data := Data.fields #[Value.ref l, Value.int 0 0] }).objs.size)))
      { heap := (s.heap.push { cls := Value.type "tuple_iterator", data := Data.fields #[Value.ref l, Value.int 0 0] }).push { cls := Value.type "enumerate", data := Data.fields #[Value.none, Value.bool false, Value.ref s.heap.objs.size, rawInt 0, Value.none, Value.none] }, gens := s.gens, drawn := s.drawn, toks := s.toks, os := s.os } :=
  Meets.of_wp fun prog w A R s hh => by
    obtain ⟨hL, h⟩ := hh
    obtain ⟨hp, g, d, tk, os⟩ := s
    have hsub := sub_enumerate
    unfold Builtin.«enumerate.__new__»
    refine wpAny_bind ?_
    refine wpAny_bind ?_
    refine wpAny_pure ?_
    refine wpAny_ite_false rfl ?_
    refine wpAny_bind (wpAny_of_eq hsub (wpAny_ite_false rfl (wpAny_pure (wpAny_ite_true rfl (wpAny_bind ?_)))))
    refine wpAny_bind (wpAny_stack_any fun st => wpAny_pure ?_)
    refine wpAny_if ?_ ?_
    · refine wpAny_bind ?_
      refine wpAny_pure ?_
      refine wpAny_bind (wpAny_pyIter_tuple hL ?_)
      refine wpAny_bind ?_
      unfold Builtin.SmallTypes.newRecord
      show wpAny _ _ (newObj _ _) _ _ _
      unfold newObj
      refine wpAny_ite_false rfl ?_
      refine wpAny_bind (wpAny_alloc' (wpAny_pure ?_))
      refine wpAny_pure ?_
      exact ⟨_, rfl, h⟩
    · refine wpAny_bind ?_
      refine wpAny_of_eq (show (_ : Sem (Value × Option Value)) = pure (Value.ref l, none) from rfl) ?_
      refine wpAny_bind (wpAny_pyIter_tuple hL ?_)
      refine wpAny_bind ?_
      unfold Builtin.SmallTypes.newRecord
      show wpAny _ _ (newObj _ _) _ _ _
      unfold newObj
      refine wpAny_ite_false rfl ?_
      refine wpAny_bind (wpAny_alloc' (wpAny_pure ?_))
      refine wpAny_pure ?_
      exact ⟨_, rfl, h⟩
theorem call_enumerate_tup {prog : Program} {w : World} {A : Around} {E : Value → Shared → Prop} {s : Shared} {l : Addr} {items : Array Value} {Q : Value → Shared → Prop} (hL : s.heap.IsTuple l items)
    (h : ∀ (h' : Heap), IsEnum h' (s.heap.objs.size + 1) s.heap.objs.size 0 Value.none → h'.IsTupleIter s.heap.objs.size l 0 → h'.objs.size = s.heap.objs.size + 2 → (∀ (b : Addr) (o : Obj), s.heap.get? b = some o → h'.get? b = some o) →
      Q (Value.ref (s.heap.objs.size + 1)) { heap := h', gens := s.gens, drawn := s.drawn, toks := s.toks, os := s.os }) : wpAny (model prog w) A (call (Value.type "enumerate") [Value.ref l]) Q E s := by
  refine callType_new F.called_enumerate (by decide) (F.typeCall_enumerate_1 (Value.ref l)) (F.newCall_enumerate_1 (Value.ref l)) (fun obj => F.args_object_init_2 obj (Value.ref l)) F.entry_enumerate_new (meets_enumerate_newT l items) ⟨hL, ?_⟩
  have hz := Heap.size_push s.heap { cls := Value.type "tuple_iterator", data := Data.fields #[Value.ref l, Value.int 0 0] }
  show _ ∧ Q (Value.ref (s.heap.push _).objs.size) _
  have he : IsEnum ((s.heap.push { cls := Value.type "tuple_iterator", data := Data.fields #[Value.ref l, Value.int 0 0] }).push { cls := Value.type "enumerate", data := Data.fields #[Value.none, Value.bool false, Value.ref s.heap.objs.size, rawInt 0, Value.none, Value.none] }) (s.heap.push { cls := Value.type "tuple_iterator", data := Data.fields #[Value.ref l, Value.int 0 0] }).objs.size s.heap.objs.size 0 Value.none := Heap.get?_push_size _ rfl
  refine ⟨⟨_, he, rfl⟩, ?_⟩
  rw [hz] at he ⊢
  refine h _ he ⟨_, Heap.get?_push_of_some _ (Heap.get?_push_size _ rfl), rfl, rfl⟩ ?_ fun b o e => Heap.get?_push_of_some _ (Heap.get?_push_of_some _ e)
  rw [Heap.size_push, hz]
end K5
namespace K5
open PySem PySem.Spec PyProof.Rows L2 RS RZ
local macro_rules | `(tactic| walk_at "r1") => `(tactic| first | refine ⟨_, rfl, ?_⟩ | refine ⟨_, _, rfl, rfl, ?_⟩ | refine ⟨_, _, rfl, ?_⟩ | refine .inl ⟨_, rfl, ?_⟩ | refine .inr ⟨_, rfl, ?_⟩ | refine ⟨⟨_, rfl⟩, ?_⟩)
local macro_rules | `(tactic| walk_at "rr") => `(tactic| repeat walk_at "r1")
/-! ### enumerate of a tuple: its turns -/
theorem enumT_end {prog : Program} {w : World} {A : Around} {E : Value → Shared → Prop} {s : Shared} {e it l : Addr} {i : Nat} {items : Array Value} {old : Value} {Q : Option Value → Shared → Prop} (hh : A.handled = none) (he : IsEnum s.heap e it (↑i) old) (hit : s.heap.IsTupleIter it l i) (hl : s.heap.IsTuple l items) (hx : items[i]? = none)
    (hQ : ∀ (h' : Heap), Heap.ExtBut it s.heap h' → Q none { heap := h', gens := s.gens, drawn := s.drawn, toks := s.toks, os := s.os }) : wpAny (model prog w) A (pyNext (Value.ref e)) Q E s := by
  have hT : s.TypeIs (Value.ref e) "enumerate" := ⟨_, he, rfl⟩
  refine id (wpAny_bind (wpAny_attempt (wpAny_callSpecial?_slot hT F.slot_enumerate_next (wpAny_call_entry F.slot_enumerate_next hT F.entry_enumerate_next ?_ (F.args_enumerate_next_1 (Value.ref e))))))
  refine wpAny_bind ?_
  refine wpAny_pure ?_
  refine wpAny_bind (wpAny_field he rfl rfl (wpAny_bind (nextOf_tuple_end hh hit hl hx fun h' x he' hx' => ?_)))
  obtain ⟨o, ho, hc⟩ := hx'
  exact wpAny_bind (wpAny_isInstance ⟨o, ho, hc⟩ isSubtype_stop (wpAny_pure (hQ h' he')))
/-- enumerate of a tuple -/
def IteT (K : PySem.W.Frag) (a : Addr) : It where
  go := fun i H => ∃ xs x, SqT K H a xs ∧ xs[i]? = some x
  yld := fun i H v H' => ∃ T x, v = V.ref T ∧ H T = none ∧ H' = upd H T (HO.tup [V.int ↑i, x]) ∧ ∀ (xs : List V), SqT K H a xs → xs[i]? = some x
  stop := fun i H => ∃ xs, SqT K H a xs ∧ xs.length ≤ i
theorem sqT_inj {X : Cx} {pins : List (Addr × Obj)} {σ : L2.St} {H : Hp} {s : Shared} (I : Inv X pins σ H s) {a : Addr} {xs ys : List V} (h1 : SqT X.K H a xs) (h2 : SqT X.K H a ys) : xs = ys := I.tuple_inj h1 h2
theorem turn_enumT {P : Program} {w : World} {K : PySem.W.Frag} {elts : List Expr} {kk : Nat} {tpos : Pos} (a e it : Addr) : Turn P w K (Expr.Tuple elts kk tpos) (IteT K a) [e, it] e fun i h => (∃ old, IsEnum h e it (↑i) old) ∧ h.IsTupleIter it a i ∧ e ≠ it where
  mem := List.mem_cons_self
  obj := fun i h ⟨⟨old, he⟩, ⟨o, ho, hc, hd⟩, hne⟩ b hb => by
    rcases List.mem_cons.mp hb with rfl | hb
    · exact ⟨_, he, fun v => nofun⟩
    · rw [List.mem_singleton.mp hb]
      exact ⟨o, ho, fun v => by rw [hd]; nofun⟩
  keep := fun i h h' ⟨⟨old, he⟩, ⟨o, ho, hc, hd⟩, hne⟩ k => ⟨⟨old, k e List.mem_cons_self _ he⟩, ⟨o, k it (List.mem_cons_of_mem _ List.mem_cons_self) o ho, hc, hd⟩, hne⟩
  item := by
    rintro X rfl rfl rfl hc i pins s σ H E I hf ⟨⟨old, he⟩, hit, hne⟩ ⟨xs, x, hq, hx⟩
    obtain ⟨its, rv, p, hz⟩ := I.tuple hq
    obtain ⟨u, hu, ru⟩ := rv.get hx
    have hel := Heap.lt_size he
    have hil : it < s.heap.objs.size := by
      obtain ⟨o, ho, _⟩ := hit
      exact Heap.lt_size ho
    have hea : e ≠ a := by
      rintro rfl
      obtain ⟨o, ho, hcl, _⟩ := p
      rw [he] at ho
      have ho := Option.some.inj ho
      rw [← ho] at hcl
      exact absurd hcl (by intro z; injection z with z; exact absurd z (by decide))
    have hi : i < its.toArray.size := by
      rw [List.size_toArray]
      exact (List.getElem?_eq_some_iff.mp hu).1
    have hai : a ≠ it := by
      rintro rfl
      obtain ⟨o, ho, hcl, _⟩ := p
      obtain ⟨o2, ho2, hc2, _⟩ := hit
      rw [ho] at ho2
      have ho2 := Option.some.inj ho2
      rw [← ho2, hcl] at hc2
      exact absurd hc2 (by intro z; injection z with z; exact absurd z (by decide))
    refine wpAny_pyNext_enum_itemD (draws_tuple (A := X.A.in1) (I.ok.hd hc) it a hai its.toArray) he ⟨hit, p⟩ hi hne (by simp [hne, hea]) fun x0 h' tk hx0 ho hst hT hsz hk => ?_
    have ex : x0 = u := by
      have h1 : its.toArray[i]? = some x0 := hx0
      rw [List.getElem?_toArray, hu] at h1
      exact (Option.some.inj h1).symm
    subst ex
    refine ⟨Value.ref s.heap.objs.size, rfl, ?_⟩
    refine wpAny_letOwnedTupleGo_enum ho fun h'' he' sb => ?_
    have hT2 := (sb.2 s.heap.objs.size (Nat.ne_of_gt hel)).trans hT
    have new : ObjOk X.prog X.w (upd H s.heap.objs.size (.tup [V.int ↑i, x])) h'' s.heap.objs.size (.tup [V.int ↑i, x]) := ⟨(show (2 : Nat) ≤ sizeLine by decide), [Value.int (↑i) tk, x0], .cons ⟨tk, rfl⟩ (.cons ru .nil), ⟨_, hT2, rfl, 0, rfl⟩⟩
    have I1 := Inv.turnedNew (t' := tk + 1) I (ch := [e, it]) (h' := h'') (fun b ob hb q => by
      have n1 : b ≠ e := fun z => hb (by rw [z]; exact List.mem_cons_self)
      have n2 : b ≠ it := fun z => hb (by rw [z]; exact List.mem_cons_of_mem _ List.mem_cons_self)
      exact (sb.2 b n1).trans (hk b ob n1 n2 q)) hf (Nat.le_refl _) new
    refine ⟨V.ref s.heap.objs.size, _, I1, rfl, ⟨s.heap.objs.size, x, rfl, I.hok.fresh (Nat.le_refl _), rfl, fun ys hy => by rw [sqT_inj I hy hq]; exact hx⟩, ⟨⟨x0, ?_⟩, ?_, hne⟩, fun b hb => ?_⟩
    · have e1 : ((i + 1 : Nat) : Int) = (i : Int) + 1 := by omega
      rw [e1]
      exact he'
    · obtain ⟨⟨o, q1, q2, q3⟩, _⟩ := hst
      exact ⟨o, (sb.2 it (Ne.symm hne)).trans q1, q2, q3⟩
    · have hb' : b < s.heap.objs.size := by
        rcases List.mem_cons.mp hb with rfl | hb
        · exact hel
        · rw [List.mem_singleton.mp hb]
          exact hil
      rw [upd_ne (Nat.ne_of_lt hb')]
      exact (hf b hb).1
  done := by
    rintro X rfl rfl rfl hc i pins s σ H E I hf ⟨⟨old, he⟩, hit, hne⟩ ⟨xs, hq, hx⟩
    obtain ⟨its, rv, p, hz⟩ := I.tuple hq
    obtain ⟨f0, f1, f2, f3, f4, f5⟩ := hf it (List.mem_cons_of_mem _ List.mem_cons_self)
    have hl := rv.length
    refine enumT_end (I.ok.hd hc) he hit p ?_ fun h' eb => ⟨rfl, I.turned (fun b o hb q => eb b o hb q) f0 f1 f3 f4 f5⟩
    rw [List.getElem?_toArray]
    exact List.getElem?_eq_none (by omega)
  self := fun A i s Q E ⟨⟨_, he⟩, _⟩ h => wpAny_pyIter_enum he h
end K5
namespace K5
open PySem PySem.Spec PyProof.Rows L2 RS RZ
local macro_rules | `(tactic| walk_at "r1") => `(tactic| first | refine ⟨_, rfl, ?_⟩ | refine ⟨_, _, rfl, rfl, ?_⟩ | refine ⟨_, _, rfl, ?_⟩ | refine .inl ⟨_, rfl, ?_⟩ | refine .inr ⟨_, rfl, ?_⟩ | refine ⟨⟨_, rfl⟩, ?_⟩)
local macro_rules | `(tactic| walk_at "rr") => `(tactic| repeat walk_at "r1")
def iEnumT (K : PySem.W.Frag) (ta : TA) : TI := fun σ H R => ta σ H fun vs H1 => ∃ a xs, vs = [.ref a] ∧ SqT K H1 a xs ∧ R (IteT K a) H1
theorem pi_enumT {X : Cx} {e : Expr} {ta : TA} {p pos tpos : Pos} {elts : List Expr} {kk : Nat} (hg : Gl X "enumerate") (hm : X.mg "enumerate" = none) (ha : PA X [e] ta) (hs : starEach [e] X.env = [(false, eval e X.env)] := by rfl) : PI X (Expr.Tuple elts kk tpos) ((Expr.Name "enumerate" p).Call [e] [] pos) (iEnumT X.K ta) := by
  refine ⟨fun pins s σ H R I h => Call_ (ld_blt I hg hm boot_enumerate (PyProof.Rows.callWith_type1 (thn (ha.run pos pins s σ H _ I h) fun us s1 ⟨vs, H1, I1, r1, q1⟩ => ?_) hs rfl))⟩
  obtain ⟨a, xs, rfl, hq, q⟩ := q1
  cases r1 with
  | cons r rr =>
  cases rr
  cases r
  obtain ⟨its, rv, pl, hz⟩ := I1.tuple hq
  refine call_enumerate_tup pl fun h' he hit hsz hk => ?_
  refine wpAny_pyIter_enum he ⟨s1.heap.objs.size + 1, [s1.heap.objs.size + 1, s1.heap.objs.size], _, IteT X.K a, H1, rfl, I1.kept hk, turn_enumT a (s1.heap.objs.size + 1) s1.heap.objs.size, ⟨⟨_, he⟩, hit, Nat.succ_ne_self _⟩, fun b hb => ?_, q⟩
  have hle : s1.heap.objs.size ≤ b := by
    rcases List.mem_cons.mp hb with rfl | hb
    · exact Nat.le_succ _
    · rw [List.mem_singleton.mp hb]
      exact Nat.le_refl _
  exact I1.fpOk hle (I1.hok.fresh hle)
end K5
namespace K5
open PySem PySem.Spec PyProof.Rows L2 RS RZ
local macro_rules | `(tactic| walk_at "r1") => `(tactic| first | refine ⟨_, rfl, ?_⟩ | refine ⟨_, _, rfl, rfl, ?_⟩ | refine ⟨_, _, rfl, ?_⟩ | refine .inl ⟨_, rfl, ?_⟩ | refine .inr ⟨_, rfl, ?_⟩ | refine ⟨⟨_, rfl⟩, ?_⟩)
local macro_rules | `(tactic| walk_at "rr") => `(tactic| repeat walk_at "r1")
/-! ### pairs_of -/
theorem lc2_enumT {K : PySem.W.Frag} {a : Addr} {xs : List V} {g g1 : TG} {tt tt1 : TT} {wi1 : TI} {te : TE} {vs vs1 : List Nat} {σ : L2.St} {H1 : Hp} {D : Addr} {Qd : Hp → Prop} (Pv : Nat → Hp → Prop) (h0 : Pv 0 (upd H1 D (.lst []))) (hl : ∀ i H, Pv i H → SqT K H a xs)
    (hs : ∀ (i : Nat) (x : V) (T : Addr) (H : Hp), xs[i]? = some x → H T = none → Pv i H → g (.ref T) (wipe σ vs) (upd H T (.tup [.int i, x])) fun σ2 H2 => wipe σ2 vs = wipe σ vs ∧ tt σ2 H2 fun b H3 => if b = true then wi1 σ2 H3 fun J1 H4 => Inn J1 g1 tt1 te vs1 D σ2 (Pv (i + 1)) H4 else Pv (i + 1) H3)
    (hd : ∀ H, Pv xs.length H → Qd H) : ∃ W : Nat → Nat → Hp → Prop, (∃ m, W 0 m (upd H1 D (HO.lst []))) ∧ ∀ (i m : Nat) (H : Hp), W i m H → (IteT K a).stop i H ∧ Qd H ∨ (IteT K a).go i H ∧ ∃ Nx : Hp → Prop, (∀ (H' : Hp), Nx H' → ∃ m', m' < m ∧ W (i + 1) m' H') ∧ ∀ (x : V) (H' : Hp), (IteT K a).yld i H x H' →
        g x (wipe σ vs) H' fun σ2 H2 => wipe σ2 vs = wipe σ vs ∧ tt σ2 H2 fun b H3 => if b = true then wi1 σ2 H3 fun J1 H4 => Inn J1 g1 tt1 te vs1 D σ2 Nx H4 else Nx H3 := by
  refine ⟨fun i m H => Pv i H ∧ i ≤ xs.length ∧ m = xs.length - i, ⟨_, h0, Nat.zero_le _, rfl⟩, fun i m H ⟨hp, hi, hm⟩ => ?_⟩
  have h1 := hl i H hp
  rcases Nat.lt_or_ge i xs.length with hlt | hge
  · refine .inr ⟨⟨xs, xs[i], h1, List.getElem?_eq_getElem _⟩, Pv (i + 1), fun H' hp' => ⟨xs.length - (i + 1), by omega, hp', by omega, rfl⟩, fun v H' hy => ?_⟩
    obtain ⟨T, x, rfl, hT, rfl, hx⟩ := hy
    exact hs i x T H (hx xs h1) hT hp
  · have e : i = xs.length := by omega
    exact .inl ⟨⟨xs, h1, by omega⟩, hd H (by rw [← e]; exact hp)⟩
def pairsP : List Str → List (List Str)
  | [] => []
  | a :: r => r.map (fun b => [a, b]) ++ pairsP r
theorem pairsP_drop {ss : List Str} {i : Nat} {a : Str} (h : ss[i]? = some a) : pairsP (ss.drop i) = (ss.drop (i + 1)).map (fun b => [a, b]) ++ pairsP (ss.drop (i + 1)) := by
  obtain ⟨hi, e⟩ := List.getElem?_eq_some_iff.mp h
  rw [List.drop_eq_getElem_cons hi, e]
  rfl
structure spPairsOf (vs : List V) (H : Hp) (Q : VK) (E : XK) : Prop where
  h : ∃ (a : Addr) (ss : List Str), vs = [.ref a] ∧ H a = some (.tup (ss.map V.str)) ∧ ss.length ≤ 20 ∧ ∀ p H' ks, H p = none → Same H H' → H' p = some (.tup (rk ks)) → TK H' ks → ks.map (·.2) = pairsP ss → Q (.ref p) H'
section
variable {P : Program} {w : World} {K : PySem.W.Frag} {mg : Str → Option Value} {base : Heap}
theorem sc_pairs_of : FnScope ["places", "index", "a", "b"] ["places"] (defScope s_pairs_of) := ⟨rfl, rfl, rfl, by decide +kernel, rfl, by decide +kernel, by decide +kernel⟩
theorem ok_pairs_of {f : Addr} {fd : FuncData} (F : Fun K "pairs_of" "pairs_of" s_pairs_of f fd) (T : Txt K mg) : FnOk P w K mg base CX0 1 f fd ["places"] spPairsOf := by
  refine F.ok sc_pairs_of (fun vs H Q E h => ?_) (fun cdv A outer s H vs Q E hr h => ?_)
  · obtain ⟨a, ss, rfl, _⟩ := h
    rfl
  · obtain ⟨a, ss, rfl, ha, hl, k⟩ := h
    refine ⟨_, pss_one (ps_ret (pe_callTy call_tuple_of (by rfl) T.n_tuple (by decide +kernel) (pa_cons
        (pe_lc2 (own := [("index", 1), ("a", 2), ("b", 3)]) (vs1 := [3]) (g := gTup K 2 (gCons (gName 1) (gCons (gName 2) gNil))) (g1 := gName 3) (tt := tYes) (tt1 := tYes) rfl sc_pairs_of.nd (pi_enumT (by rfl) T.n_enumerate (pa_cons (pv 0) pa_nil)) (blkOk_by (own := [("index", 1), ("a", 2), ("b", 3)]) (N := ["places", "index", "a", "b"]) (sc := defScope s_pairs_of) (by decide +kernel)) (by decide)
          (fun _ _ _ _ _ => pg_tup rfl (pgs_cons (pg_name (i := 1) sc_pairs_of.nd rfl (Or.inl rfl)) (pgs_cons (pg_name (i := 2) sc_pairs_of.nd rfl (Or.inl rfl)) pgs_nil))) (fun _ _ _ _ _ => pts_nil)
          (fun _ _ _ _ _ => (show PI _ _ _ (iTup K (tSl (rSlT K) (tVar 0) (tPart (tOp (rI0 fun i j => V.int (i + j)) (tVar 1) (tC (V.int 1)))) tNoPart)) from pi_tup (pe_slice sl_tup (pv 0) (po_some (pe_op op_add (pv 1) pe_int)) po_none))) (fun _ _ _ _ _ => pg_name (i := 3) sc_pairs_of.nd rfl (Or.inl rfl)) (fun _ _ _ _ _ => pts_nil)
          (fun _ _ _ _ _ => pe_tup (pa_cons (pv 2) (pa_cons (pv 3) pa_nil)))) pa_nil))), ?_⟩
    have hz := line1000
    walk_at "rr"
    refine ⟨a, _, rfl, SqT.of ha, fun D hD => ?_⟩
    refine lc2_enumT (K := K) (a := a) (xs := ss.map V.str) (fun i H2 => ∃ kts : RefK, H2 D = some (.lst (rk kts)) ∧ TK H2 kts ∧ kts.map (·.2) ++ pairsP (ss.drop i) = pairsP ss ∧ kts.length ≤ 20 * i ∧ Same H H2)
      ⟨[], upd_same, (fun _ h => nomatch h), rfl, Nat.le_refl _, same_new hD⟩ (fun i H2 ⟨_, _, _, _, _, S2⟩ => SqT.of (S2 _ _ ha)) ?_ ?_
    · rintro i x T H2 hx hT ⟨kts, hkD, hkt, hkp, hkl, S2⟩
      obtain ⟨za, hza, rfl⟩ := str_at hx
      have hi := (List.getElem?_eq_some_iff.mp hza).1
      have ST := same_new (o := .tup [.int i, .str za]) hT
      have S3 := S2.trans ST
      refine ⟨T, [.int i, .str za], rfl, SqT.of upd_same, rfl, ?_⟩
      walk_at "rr"
      refine ⟨rfl, ?_⟩
      have hkD3 := ST _ _ hkD
      have hkt3 := hkt.same ST
      obtain ⟨H3, e3⟩ : ∃ X, upd H2 T (.tup [.int i, .str za]) = X := ⟨_, rfl⟩
      rw [e3] at S3 hkD3 hkt3 ⊢
      walk_at "rr"
      have ei : ((i : Int) + 1) = ((i + 1 : Nat) : Int) := by omega
      refine ⟨a, _, rfl, SqT.of (S3 _ _ ha), ?_, fun p hp => ?_⟩
      · rw [ei, HT.sIx_nat, List.length_map]
        omega
      rw [ei, cut_from, ← List.map_drop]
      have S4 := same_new (o := .tup ((ss.drop (i + 1)).map V.str)) hp
      have h4p : (upd H3 p (.tup ((ss.drop (i + 1)).map V.str))) p = some (.tup ((ss.drop (i + 1)).map V.str)) := upd_same
      obtain ⟨H4, e4⟩ : ∃ X, upd H3 p (.tup ((ss.drop (i + 1)).map V.str)) = X := ⟨_, rfl⟩
      rw [e4] at S4 h4p ⊢
      walk_at "rr"
      refine ⟨⟨_, SqT.of h4p⟩, ?_⟩
      refine inn_tup (K := K) (a := p) (xs := (ss.drop (i + 1)).map V.str) (fun j H5 => ∃ kt2 : RefK, H5 D = some (.lst (rk (kts ++ kt2))) ∧ TK H5 (kts ++ kt2) ∧ kt2.map (·.2) = ((ss.drop (i + 1)).take j).map (fun b => [za, b]) ∧ Same H H5 ∧ H5 p = some (.tup ((ss.drop (i + 1)).map V.str)))
        ⟨[], by rw [List.append_nil]; exact S4 _ _ hkD3, by rw [List.append_nil]; exact hkt3.same S4, rfl, S3.trans S4, h4p⟩ (fun j H5 ⟨_, _, _, _, _, h5⟩ => SqT.of h5) ?_ ?_
      · rintro j x H5 hx ⟨kt2, hkD5, hkt5, hkm, S5, h5p⟩
        obtain ⟨z, hz0, rfl⟩ := str_at hx
        have hk2l : kt2.length ≤ 20 := by
          have := congrArg List.length hkm
          rw [List.length_map, List.length_map, List.length_take, List.length_drop] at this
          omega
        walk_at "rr"
        refine ⟨rfl, ?_⟩
        walk_at "rr"
        refine ⟨(by omega : (2 : Nat) ≤ sizeLine), fun t ht => ?_⟩
        have htD : D ≠ t := ne_of_none hkD5 ht
        refine ⟨rk (kts ++ kt2), by rw [upd_ne htD]; exact hkD5, by rw [rk_len, List.length_append]; omega, kt2 ++ [(t, [za, z])], ?_, fun q hq => ?_, ?_, same_own (S5.new ht) hD, ?_⟩
        · rw [upd_same, ← List.append_assoc, rk_app (kts ++ kt2)]
          rfl
        · rw [← List.append_assoc] at hq
          rcases List.mem_append.mp hq with hq | hq
          · have h0 := hkt5 q hq
            rw [upd_ne (by rintro e; rw [e, hkD5] at h0; cases h0), upd_ne (ne_of_none h0 ht)]
            exact h0
          · rw [List.mem_singleton.mp hq]
            show upd _ _ _ t = _
            rw [upd_ne htD.symm, upd_same]
            rfl
        · rw [take_more hz0, List.map_append, List.map_append, hkm]
          rfl
        · rw [upd_ne (by rintro e; rw [e, hkD5] at h5p; cases h5p), upd_ne (ne_of_none h5p ht)]
          exact h5p
      · rintro H5 ⟨kt2, hkD5, hkt5, hkm, S5, h5p⟩
        rw [List.length_map, List.take_length] at hkm
        refine ⟨kts ++ kt2, hkD5, hkt5, ?_, ?_, S5⟩
        · rw [List.map_append, hkm, List.append_assoc, ← pairsP_drop hza]
          exact hkp
        · have := congrArg List.length hkm
          rw [List.length_map, List.length_map, List.length_drop] at this
          rw [List.length_append]
          omega
    · rintro H2 ⟨kts, hkD, hkt, hkp, hkl, S2⟩
      rw [List.length_map, List.drop_length] at hkp
      have hkp : kts.map (·.2) = pairsP ss := by rw [← hkp]; exact (List.append_nil _).symm
      walk_at "rr"
      refine ⟨D, _, rfl, .inl ⟨SqL.of hkD, fun p hp => ?_⟩⟩
      exact k p _ kts (S2.none hp) (S2.new hp) upd_same (hkt.same (same_new hp)) hkp
end
end K5
namespace K5
open PySem PySem.Spec PyProof.Rows L2 RS RZ
local macro_rules | `(tactic| walk_at "r1") => `(tactic| first | refine ⟨_, rfl, ?_⟩ | refine ⟨_, _, rfl, rfl, ?_⟩ | refine ⟨_, _, rfl, ?_⟩ | refine .inl ⟨_, rfl, ?_⟩ | refine .inr ⟨_, rfl, ?_⟩ | refine ⟨⟨_, rfl⟩, ?_⟩)
local macro_rules | `(tactic| walk_at "rr") => `(tactic| repeat walk_at "r1")
/-! ### full_web of places that a web can have with all ties -/
theorem pairsP_eq {ss : List Str} (h : AscS ss) : pairsP ss = pairsS ss := by
  induction ss with
  | nil => rfl
  | cons a r ih =>
    obtain ⟨h1, h2⟩ := List.pairwise_cons.mp h
    show r.map (fun b => [a, b]) ++ pairsP r = r.map (tieS a) ++ pairsS r
    rw [ih h2]
    congr 1
    exact List.map_congr_left fun b hb => (tieS_lt (h1 b hb)).symm
theorem pairsP_asc : ∀ {ss : List Str}, AscS ss → Asc (pairsP ss) ∧ ∀ t ∈ pairsP ss, ∃ a b, t = [a, b] ∧ ltS a b = true ∧ a ∈ ss ∧ b ∈ ss
  | [], _ => ⟨.nil, fun _ h => nomatch h⟩
  | a :: r, h => by
    obtain ⟨h1, h2⟩ := List.pairwise_cons.mp h
    obtain ⟨i1, i2⟩ := pairsP_asc h2
    have el : ∀ t ∈ pairsP (a :: r), ∃ x y, t = [x, y] ∧ ltS x y = true ∧ x ∈ a :: r ∧ y ∈ a :: r := fun t ht => by
      rcases List.mem_append.mp ht with ht | ht
      · obtain ⟨b, hb, rfl⟩ := List.mem_map.mp ht
        exact ⟨a, b, rfl, h1 b hb, List.mem_cons_self, List.mem_cons_of_mem _ hb⟩
      · obtain ⟨x, y, e, hl, hx, hy⟩ := i2 t ht
        exact ⟨x, y, e, hl, List.mem_cons_of_mem _ hx, List.mem_cons_of_mem _ hy⟩
    refine ⟨List.pairwise_append.mpr ⟨?_, i1, fun t ht u hu => ?_⟩, el⟩
    · rw [List.pairwise_map]
      refine h2.imp fun {x y} hl => ?_
      show lexT [a, x] [a, y] = true
      unfold lexT lexT
      rw [ltS_irrefl, hl]
      simp
      exact .inl fun e => by rw [e, ltS_irrefl] at hl; cases hl
    · obtain ⟨b, hb, rfl⟩ := List.mem_map.mp ht
      obtain ⟨x, y, rfl, _, hx, _⟩ := i2 u hu
      show lexT [a, b] [x, y] = true
      unfold lexT
      have hl := h1 x hx
      rw [hl]
      simp
      exact .inl fun e => by rw [e, ltS_irrefl] at hl; cases hl
structure spFull (C : Addr) (vs : List V) (H : Hp) (Q : VK) (E : XK) : Prop where
  h : ∃ (pa : Addr) (ss : List Str), vs = [.ref pa] ∧ PlacesOk H pa ss ∧ (pairsP ss).length ≤ 60 ∧ ∀ q H', H q = none → Same H H' → WebAt C H' q ss (pairsP ss) → Q (.ref q) H'
section
variable {P : Program} {w : World} {K : PySem.W.Frag} {mg : Str → Option Value} {base : Heap}
theorem sc_full_web : FnScope ["places"] ["places"] (defScope s_full_web) := ⟨rfl, rfl, rfl, by decide +kernel, rfl, by decide +kernel, by decide +kernel⟩
theorem ok_full_web {f C fI : Addr} {fd fdI : FuncData} (F : Fun K "full_web" "full_web" s_full_web f fd) (T : Txt K mg) (W : WTxt K mg C) (M : Mk K C fI) (GI : FnOk P w K mg base CX0 6 fI fdI ["self", "places", "ties"] (spWebInit C)) (bI : Binds K fdI ["self", "places", "ties"] []) (DA : Dfn P w K mg base "_are_places" 4 ["value"] spIsPlaces) (DP : Dfn P w K mg base "pairs_of" 1 ["places"] spPairsOf) : FnOk P w K mg base CX0 8 f fd ["places"] (spFull C) := by
  refine F.ok sc_full_web (fun vs H Q E h => ?_) (fun cdv A outer s H vs Q E hr h => ?_)
  · obtain ⟨pa, ss, rfl, _⟩ := h
    rfl
  · obtain ⟨pa, ss, rfl, hpl, h60, k⟩ := h
    refine ⟨_, pss_cons (ps_if (pt_not (pt_val (pe_d DA (hr.mono (by decide)) (pa_cons (pv 0) pa_nil)))) (pss_one ps_never) pss_nil)
      (pss_one (ps_ret (pe_make M GI hr (by rfl) W.mgC bI .nil pass0 (pa_cons (pv 0) (pa_cons (pe_d DP (hr.mono (by decide)) (pa_cons (pv 0) pa_nil)) pa_nil))))), ?_⟩
    walk_at "rr"
    refine ⟨hpl.vd, fun H1 S1 => ?_⟩
    obtain ⟨e1, e2⟩ := hpl.asc
    rw [e1, e2, decide_eq_true hpl.2.2.2.1, decide_eq_true hpl.2.2.2.2]
    have hpl1 := hpl.same S1
    walk_at "rr"
    refine ⟨pa, ss, rfl, hpl1.1, by have := hpl.2.2.2.2; omega, fun ta H2 ks hta S2 hta2 hk hks => ?_⟩
    have S02 := S1.trans S2
    obtain ⟨asc, el⟩ := pairsP_asc hpl.2.1
    have hk60 : ks.length ≤ 60 := by have := congrArg List.length hks; rw [List.length_map] at this; omega
    walk_at "rr"
    intro x dx hx hdx ne
    have S3 : Same H2 (upd (upd H2 dx (.own x)) x (.ins C dx [])) := (same_new hdx).new (by rw [upd_ne ne.symm]; exact hx)
    have hx0 : H x = none := S02.none hx
    have hpl2 := hpl.same S02
    refine ⟨x, dx, pa, ta, ss, rfl, upd_same, hpl2.same S3, ⟨ta, ks, rfl, S3 _ _ hta2, hk.same S3, hk60, by rw [hks]; exact asc, fun q hq => el q.2 (by rw [← hks]; exact List.mem_map_of_mem hq)⟩, fun H' S' => ⟨rfl, ?_⟩⟩
    have np : pa ≠ x := ne_of_none hpl2.1 hx
    have nt : ta ≠ x := ne_of_none hta2 hx
    refine k x _ hx0 (same_own (S02.trans (S3.trans S')) hx0) ⟨dx, pa, ta, ks, upd_same, ⟨by rw [upd_ne np]; exact S' _ _ (S3 _ _ hpl2.1), hpl.2⟩, by rw [upd_ne nt]; exact S' _ _ (S3 _ _ hta2), fun q hq => ?_, hks⟩
    have h5 := S' _ _ (S3 _ _ (hk q hq))
    rw [upd_ne (ne_of_none (hk q hq) hx)]
    exact h5
end
end K5
namespace K5
open PySem PySem.Spec PyProof.Rows L2 RS RZ ZS
local macro_rules | `(tactic| walk_at "r1") => `(tactic| first | refine ⟨_, rfl, ?_⟩ | refine ⟨_, _, rfl, rfl, ?_⟩ | refine ⟨_, _, rfl, ?_⟩ | refine .inl ⟨_, rfl, ?_⟩ | refine .inr ⟨_, rfl, ?_⟩ | refine ⟨⟨_, rfl⟩, ?_⟩)
local macro_rules | `(tactic| walk_at "rr") => `(tactic| repeat walk_at "r1")
/-! ### sorted of a tuple of texts -/
theorem sorted_tup_tx {P : Program} {w : World} {A : Around} {E : Value → Shared → Prop} {s : Shared} {a : Addr} {items : Array Value} {xs : List Str} {Q : Value → Shared → Prop} (ht : s.heap.IsTuple a items) (hS : StrsAre items.toList xs) (hn : xs.length ≤ 1000)
    (h : ∀ s' p (out : Array Value) (c : Nat) (ys : List Str), (∀ b o, s.heap.get? b = some o → s'.heap.get? b = some o) → s'.gens = s.gens → s'.os = s.os → s'.drawn = s.drawn → (∀ o, s.heap.get? p ≠ some o) → s'.heap.get? p = some (seqObj "list" out c) → StrsAre out.toList ys → ys.Perm xs → sortedS ys = true → Q (.ref p) s') :
    wpAny (model P w) A (call (.builtin "sorted") [.ref a]) Q E s := by
  have hli : (1000 : Nat) ≤ sizeLine := by decide
  have lv := StrsAre.len_eq hS
  obtain ⟨o, ho, hc, n, hd⟩ := ht
  refine Calls.call_function_entry kind_sorted plain_sorted entry_sorted (args_sorted1 _) ?_; unfold Builtin.«sorted»; refine wpAny_bind (m := checkCount "sorted" 1 1 _) (wpAny_pure ?_)
  refine wpAny_bind (wpAny_collect_seq (A := A.in1) a (.inr rfl) ho hc hd (fun h1 k1 => ?_) (by rw [← Array.length_toList, lv]; omega))
  refine wpAny_bind (wpAny_newList ?_ (by rw [lv]; omega))
  have atL : (h1.push (seqObj "list" items.toList.toArray 0)).get? h1.objs.size = some (seqObj "list" items.toList.toArray 0) := Heap.get?_push_size _ rfl
  refine wpAny_bind (wpAny_holding (wpAny_call_entry slot_list_sort ⟨_, atL, rfl⟩ entry_list_sort (list_sort_treeKAny strKind_oneLt atL hS.keysOf (fun v₁ v₂ rest e => keyKind_strs (by rw [← e]; exact hS)) (by rw [lv]; omega) fun st' hp hs => ⟨_, rfl, ?_⟩) (args_list_sort _)))
  obtain ⟨ys, y1, y2, y3⟩ := sorted_out_str hS hp hs
  obtain ⟨c, hc2⟩ := sortedHeap_at (vs := items.toList) (out := (arrOf st').map (·.2)) atL
  have hle : ∀ o, s.heap.get? h1.objs.size ≠ some o := fun o e => absurd (Heap.lt_size (k1 _ _ e)) (Nat.lt_irrefl _)
  refine wpAny_pure ⟨_, rfl, h _ h1.objs.size _ c ys (fun b u e => ?_) rfl rfl rfl hle hc2 y1 y2 y3⟩
  have q := k1 b u e
  have lt := Heap.lt_size q
  show (sortedHeap (h1.push (seqObj "list" items.toList.toArray 0)) h1.objs.size items.toList ((arrOf st').map (·.2))).get? b = some u
  rw [sortedHeap_old (Nat.ne_of_lt lt) (by rw [size_push']; exact Nat.lt_succ_of_lt lt)]
  exact Heap.get?_push_of_some _ q
end K5
namespace K5
open PySem PySem.Spec PyProof.Rows L2 RS RZ ZS
local macro_rules | `(tactic| walk_at "r1") => `(tactic| first | refine ⟨_, rfl, ?_⟩ | refine ⟨_, _, rfl, rfl, ?_⟩ | refine ⟨_, _, rfl, ?_⟩ | refine .inl ⟨_, rfl, ?_⟩ | refine .inr ⟨_, rfl, ?_⟩ | refine ⟨⟨_, rfl⟩, ?_⟩)
local macro_rules | `(tactic| walk_at "rr") => `(tactic| repeat walk_at "r1")
/-! ### sorted of a tuple of texts, by values -/
theorem got_of {P : Program} {w : World} {H : Hp} {h : Heap} {a : Addr} {o : HO} (x : ObjOk P w H h a o) : ∃ u, h.get? a = some u := by
  cases o with
  | lst xs => obtain ⟨_, _, _, _, e⟩ := x; exact ⟨_, e⟩
  | tup xs => obtain ⟨_, _, _, o, e, _⟩ := x; exact ⟨_, e⟩
  | dK kvs => obtain ⟨_, _, _, _, o, _, _, e, _⟩ := x; exact ⟨_, e⟩
  | dT kvs => obtain ⟨_, _, _, _, o, _, _, e, _⟩ := x; exact ⟨_, e⟩
  | set S n => obtain ⟨o, _, _, _, e, _⟩ := x; exact ⟨_, e⟩
  | ins C dx fs => obtain ⟨_, _, _, e, _⟩ := x; exact ⟨_, e⟩
  | own y => obtain ⟨_, e⟩ := x; exact ⟨_, e⟩
  | xd fs => obtain ⟨_, ⟨_, _, _, e, _⟩, _⟩ := x; exact ⟨_, e⟩
  | rng lo hi => obtain ⟨_, _, _, e⟩ := x; exact ⟨_, e⟩
  | frz ob u => obtain ⟨e, _⟩ := x; exact ⟨_, e⟩
  | tbl ps => exact ⟨_, show h.get? a = some _ from x⟩
  | met f y => exact ⟨_, show h.get? a = some _ from x⟩
  | ext φ => obtain ⟨_, ⟨_, e⟩, _⟩ := x; exact ⟨_, e⟩
def rSortT (K : PySem.W.Frag) : List V → Hp → VK → Prop := fun vs H Q => ∃ (a : Addr) (xs : List Str), vs = [.ref a] ∧ SqT K H a (xs.map V.str) ∧ xs.length ≤ 1000 ∧ ∀ (ys : List Str) (p : Addr), ys.Perm xs → sortedS ys = true → H p = none → Q (.ref p) (upd H p (.lst (ys.map V.str)))
theorem call_sortT {X : Cx} : CallR X (.builtin "sorted") (rSortT X.K) := by
  intro pins s σ H xs us Q I r h
  obtain ⟨a, ss, rfl, ha, hl, q⟩ := h
  cases r with
  | cons r1 r2 =>
  cases r2
  cases r1
  obtain ⟨its, rv, pl, hz⟩ := I.tuple ha
  refine sorted_tup_tx pl (by simpa using strsAre_of rv) hl fun s2 p out c ys k2 gg oo dd hp hob hS hperm hsort => ?_
  have hli : (1000 : Nat) ≤ sizeLine := by decide
  have hlen : (ys.map V.str).length ≤ sizeLine := by rw [List.length_map, hperm.length_eq]; omega
  have hn : s.heap.get? p = none := by
    cases e : s.heap.get? p with
    | none => rfl
    | some o => exact absurd e (hp o)
  have fr : H p = none := by
    cases e : H p with
    | none => rfl
    | some o =>
      obtain ⟨u, e2⟩ := got_of (I.hok p o e)
      exact absurd e2 (hp u)
  have J2 : Inv X pins σ (upd H p (.lst (ys.map V.str))) { s with heap := s2.heap, gens := s2.gens, drawn := s2.drawn, toks := s2.toks } :=
    I.call (ch := []) (Un.laidN k2 hn fr) (I.hok.laidN k2 fr ⟨hlen, out.toList, c, vals_of_strs hS, hob⟩) (by rw [gg]; exact I.bare) (fun _ z => nomatch z)
  have e : s2 = { s with heap := s2.heap, gens := s2.gens, drawn := s2.drawn, toks := s2.toks } := by
    cases s2; cases s; cases oo; rfl
  rw [e]
  exact ⟨.ref p, _, J2, rfl, q ys p hperm hsort fr⟩
/-! ### promises put together -/
theorem fnok_up {P : Program} {w : World} {K : PySem.W.Frag} {mg : Str → Option Value} {base : Heap} {CX : CXT} {k : Nat} {f : Addr} {fd : FuncData} {ps : List Str} {sp : Sp} (F : FnOk P w K mg base CX0 k f fd ps sp) : FnOk P w K mg base CX k f fd ps sp :=
  ⟨F.len, fun A outer s H args us vs Q E hr he hb hv hs => codeAny_mono (F.run A outer s H args us vs Q E hr he hb hv hs) fun r s' h => by
    cases r with
    | error e => exact h.elim
    | ok fl =>
      cases fl with
      | ret u => exact h
      | next => exact h
      | brk => exact h
      | cont => exact h⟩
theorem fnok_or {P : Program} {w : World} {K : PySem.W.Frag} {mg : Str → Option Value} {base : Heap} {CX : CXT} {k : Nat} {f : Addr} {fd : FuncData} {ps : List Str} {sp sp' : Sp} (F : FnOk P w K mg base CX k f fd ps sp) (G : FnOk P w K mg base CX k f fd ps sp') : FnOk P w K mg base CX k f fd ps (fun vs H Q E => sp vs H Q E ∨ sp' vs H Q E) :=
  ⟨fun vs H Q E h => h.elim (F.len vs H Q E) (G.len vs H Q E), fun A outer s H args us vs Q E hr he hb hv hs => hs.elim (F.run A outer s H args us vs Q E hr he hb hv) (G.run A outer s H args us vs Q E hr he hb hv)⟩
theorem pe_dx {X : Cx} {x : Str} {k : Nat} {ps : List Str} {sp : Sp} {E : XK} {e : Expr} {es : List Expr} {t : TA} {p pos : Pos} (D : DfnX X.prog X.w X.K X.mg X.base x k ps sp) (hr : Room k X.A) (hx : Passes (L2.CX X.prog X.w) X E) (ha : PA X (e :: es) t) (hg : Gl X x := by rfl) (hdb : (x == ("__debug__" : Str)) = false := by decide) (he : starEach (e :: es) X.env = (false, eval e X.env) :: starEach es X.env := by rfl) (hpl : (backTo pos (starEach es X.env)).any (·.1) = false := by rfl) :
    PE X (.Call (.Name x p) (e :: es) [] pos) (tCall sp [] E t) := by
  obtain ⟨f, fd, m, kp, b, F⟩ := D.h
  exact pe_call F hr hg m kp b .nil hx ha hdb he hpl
/-! ### enumerate of a tuple in a comprehension -/
theorem lc_enumT {K : PySem.W.Frag} {a : Addr} {xs : List V} {g : TG} {tt : TT} {te : TE} {vs : List Nat} {σ : L2.St} {H1 : Hp} {D : Addr} {Qd : Hp → Prop} (Pv : Nat → Hp → Prop) (h0 : Pv 0 (upd H1 D (.lst []))) (hl : ∀ i H, Pv i H → SqT K H a xs)
    (hs : ∀ (i : Nat) (x : V) (T : Addr) (H : Hp), xs[i]? = some x → H T = none → Pv i H → g (.ref T) (wipe σ vs) (upd H T (.tup [.int i, x])) fun σ2 H2 => wipe σ2 vs = wipe σ vs ∧ tt σ2 H2 fun b H3 => if b = true then te σ2 H3 fun y H4 => ∃ acc, H4 D = some (.lst acc) ∧ acc.length < sizeLine ∧ Pv (i + 1) (upd H4 D (.lst (acc ++ [y]))) else Pv (i + 1) H3)
    (hd : ∀ H, Pv xs.length H → Qd H) : ∃ W : Nat → Nat → Hp → Prop, (∃ m, W 0 m (upd H1 D (HO.lst []))) ∧ ∀ (i m : Nat) (H : Hp), W i m H → (IteT K a).stop i H ∧ Qd H ∨ (IteT K a).go i H ∧ ∃ Nx : Hp → Prop, (∀ (H' : Hp), Nx H' → ∃ m', m' < m ∧ W (i + 1) m' H') ∧ ∀ (x : V) (H' : Hp), (IteT K a).yld i H x H' →
        g x (wipe σ vs) H' fun σ2 H2 => wipe σ2 vs = wipe σ vs ∧ tt σ2 H2 fun b H3 => if b = true then te σ2 H3 fun y H4 => ∃ acc, H4 D = some (.lst acc) ∧ acc.length < sizeLine ∧ Nx (upd H4 D (.lst (acc ++ [y]))) else Nx H3 := by
  refine ⟨fun i m H => Pv i H ∧ i ≤ xs.length ∧ m = xs.length - i, ⟨_, h0, Nat.zero_le _, rfl⟩, fun i m H ⟨hp, hi, hm⟩ => ?_⟩
  have h1 := hl i H hp
  rcases Nat.lt_or_ge i xs.length with hlt | hge
  · refine .inr ⟨⟨xs, xs[i], h1, List.getElem?_eq_getElem _⟩, Pv (i + 1), fun H' hp' => ⟨xs.length - (i + 1), by omega, hp', by omega, rfl⟩, fun v H' hy => ?_⟩
    obtain ⟨T, x, rfl, hT, rfl, hx⟩ := hy
    exact hs i x T H (hx xs h1) hT hp
  · have e : i = xs.length := by omega
    exact .inl ⟨⟨xs, h1, by omega⟩, hd H (by rw [← e]; exact hp)⟩
/-! ### t[::-1] of a tuple -/
theorem sliceApplied_rev {prog : Program} {w : World} {A : Around} {E : Value → Shared → Prop} {s : Shared} {sl : Addr} {vl vu vs : Value} {n : Nat} {Q : Int × Int × Nat → Shared → Prop} (hs : s.heap.IsSliceOf sl vl vu vs) (pl : IsPart vl none) (pu : IsPart vu none) (ps : IsPart vs (some (-1)))
    (h : Q ((n : Int) - 1, -1, n) s) : wpAny (model prog w) A (Builtin.Slice.sliceApplied (.ref sl) (pure (n : Int))) Q E s := by
  obtain ⟨os, hos, hcs, hds⟩ := id hs
  unfold Builtin.Slice.sliceApplied Builtin.Slice.sliceFields
  refine wpAny_bind (wpAny_bind (wpAny_field hos hds (x := vl) rfl (wpAny_bind (wpAny_field hos hds (x := vu) rfl (wpAny_bind (wpAny_field hos hds (x := vs) rfl (wpAny_pure ?_)))))))
  refine wpAny_bind (HT.slicePart_ ps ?_)
  show wpAny _ _ (if ((-1 : Int) == 0) = true then _ else _) _ _ s
  rw [if_neg (by decide)]
  refine wpAny_bind (HT.slicePart_ pl (wpAny_bind (HT.slicePart_ pu (wpAny_bind (wpAny_pure ?_)))))
  show wpAny _ _ (pure ((n : Int) - 1, (-1 : Int), Builtin.Slice.slicePlaces ((n : Int) - 1) (-1) (-1))) _ _ s
  have e2 : Builtin.Slice.slicePlaces ((n : Int) - 1) (-1) (-1) = n := by
    unfold Builtin.Slice.slicePlaces
    rw [if_neg (by omega)]
    by_cases c : (n : Int) - 1 > -1
    · rw [if_pos c]
      have : ((n : Int) - 1 - -1 - 1) / (- -1) + 1 = n := by
        rw [show (- -1 : Int) = 1 by decide, Int.ediv_one]
        omega
      rw [this, Int.toNat_natCast]
    · rw [if_neg c]
      show (0 : Int).toNat = n
      have : n = 0 := by omega
      subst this
      rfl
  rw [e2]
  exact wpAny_pure h
theorem pick_rev (xs : List Value) : ((List.range xs.length).filterMap fun (m : Nat) => xs.toArray[(((xs.length : Nat) : Int) - 1 + (m : Int) * -1).toNat]?).toArray = xs.reverse.toArray := by
  have h := PySem.W.krv_all xs.toArray
  rw [List.size_toArray] at h
  have e : ((List.range xs.length).filterMap fun (m : Nat) => xs.toArray[(((xs.length : Nat) : Int) - 1 + (m : Int) * -1).toNat]?) = ((List.range xs.length).map fun k => xs.length - 1 - k).filterMap (xs.toArray[·]?) := by
    rw [List.filterMap_map]
    congr 1
    funext m
    show _ = xs.toArray[xs.length - 1 - m]?
    rw [show (((xs.length : Nat) : Int) - 1 + (m : Int) * -1).toNat = xs.length - 1 - m by omega]
  rw [e, PySem.W.krv_range, List.filterMap_reverse, h]
theorem getItem_tuple_rev {prog : Program} {w : World} {A : Around} {E : Value → Shared → Prop} {s : Shared} {t sl : Addr} {its : List Value} {vl vu vs : Value} {Q : Value → Shared → Prop} (ht : IsTup s.heap t its.toArray) (hs : s.heap.IsSliceOf sl vl vu vs) (pl : IsPart vl none) (pu : IsPart vu none) (ps : IsPart vs (some (-1)))
    (h : Q (.ref s.heap.objs.size) { s with heap := s.heap.push { cls := .type "tuple", data := .seq its.reverse.toArray } }) (hsz : its.length ≤ sizeLine) : wpAny (model prog w) A (getItem (.ref t) (.ref sl)) Q E s := by
  have htake : sizeOk (.seq its.reverse.toArray) := by
    show its.reverse.toArray.size ≤ sizeLine
    rw [List.size_toArray, List.length_reverse]
    exact hsz
  obtain ⟨os, hos, hcs, hds⟩ := id hs
  have hTs : s.TypeIs (.ref sl) "slice" := ⟨os, hos, hcs⟩
  unfold getItem
  try with_reducible refine wpAny_holding ?_
  first | refine wpAny_bind (wpAny_pure ?_) | skip
  refine wpAny_bind (wpAny_sequenceKey ht.typeIs (by decide) ?_)
  refine wpAny_bind (wpAny_callSpecial?_slot (name := Str.ofString "__getitem__") ht.typeIs PyProof.Rows.slot_tuple_getitem
    (wpAny_call_entry PyProof.Rows.slot_tuple_getitem ht.typeIs entry_tuple_getitem ?_ (args_tuple_getitem _ _)))
  show wpAny _ _ (Builtin.Tuple.tupleItemsOf (.ref t) >>= _) _ _ s
  refine wpAny_bind (tupleItemsOf_ ht ?_)
  refine wpAny_bind (wpAny_typeOf hTs ?_)
  rw [if_pos (by decide)]
  have hn : ((its.toArray.size : Nat) : Int) = (its.length : Int) := by rw [List.size_toArray]
  rw [hn]
  refine wpAny_bind (sliceApplied_rev hs pl pu ps ?_)
  have hno : ¬ (((((its.length : Nat) : Int) - 1) == 0 && (-1 : Int) == 1 && its.length == its.toArray.size) = true) := by
    intro q
    rw [Bool.and_eq_true, Bool.and_eq_true] at q
    exact absurd q.1.2 (by decide)
  show wpAny _ _ (if ((((its.length : Nat) : Int) - 1) == 0 && (-1 : Int) == 1 && its.length == its.toArray.size) = true then _ else _) _ _ s
  rw [if_neg hno, pick_rev]
  first
    | exact wpAny_bind (m := Builtin.Tuple.tupleExact _) (wpAny_newObj_type (wpAny_pure ⟨_, rfl, wpAny_pure h⟩) htake)
    | exact wpAny_bind (m := Builtin.Tuple.tupleExact _) (wpAny_newObj_type (wpAny_bind (wpAny_pure (wpAny_pure ⟨_, rfl, wpAny_pure h⟩))) htake)
    | exact wpAny_bind (wpAny_bind (m := Builtin.Tuple.tupleExact _) (wpAny_newObj_type (wpAny_pure (wpAny_pure ⟨_, rfl, wpAny_pure h⟩)) htake))
    | exact wpAny_bind (wpAny_bind (m := Builtin.Tuple.tupleExact _) (wpAny_newObj_type (wpAny_pure ⟨_, rfl, wpAny_pure h⟩) htake))
def tRevT (K : PySem.W.Frag) (te : TE) : TE := fun σ H Q => te σ H fun x H1 => ∃ a xs, x = .ref a ∧ SqT K H1 a xs ∧ ∀ p, H1 p = none → Q (.ref p) (upd H1 p (.tup xs.reverse))
theorem pe_revT {X : Cx} {e : Expr} {te : TE} {k : Nat} {p1 p2 p3 pos : Pos} (he : PE X e te) : PE X (.Subscript e (.Slice none none (some (.UnaryOp .USub (.Constant (.int 1) k p1) p2)) p3) pos) (tRevT X.K te) := by
  refine ⟨fun pins s σ H Q I h => ?_⟩
  refine Subscript_ (thn (he.run pins s σ H _ I h) fun v s1 ⟨x, H1, I1, r1, q1⟩ => ?_)
  obtain ⟨a, xs, ex, hx, q⟩ := q1
  subst ex
  cases r1
  have hst : PO X (some (.UnaryOp .USub (.Constant (.int 1) k p1) p2)) (tPart (tUn (rU fun i => .int (-i)) (tC (.int 1)))) := po_some (pe_un un_neg pe_int)
  refine wpAny_Slice (thn (po_none.run pins s1 σ H1 (fun o H2 => o = none ∧ H2 = H1) I1 ⟨rfl, rfl⟩) fun vl s2 ⟨l, H2, I2, pl, el, e2⟩ => ?_)
  subst el e2
  refine thn (po_none.run pins s2 σ H2 (fun o H3 => o = none ∧ H3 = H2) I2 ⟨rfl, rfl⟩) fun vu s3 ⟨u, H3, I3, pu, eu, e3⟩ => ?_
  subst eu e3
  refine thn (hst.run pins s3 σ H3 (fun o H4 => o = some (-1) ∧ H4 = H3) I3 ⟨1, rfl, -1, rfl, rfl, rfl⟩) fun vs s4 ⟨o, H4, I4, ps, eo, e4⟩ => ?_
  subst eo e4
  have I5 : Inv X pins σ H4 { s4 with heap := s4.heap.push { cls := .type "slice", data := .fields #[vl, vu, vs] } } := I4.kept (t' := s4.toks) fun b ob q => Heap.get?_push_of_some _ q
  obtain ⟨its, r, ht, hz⟩ := I5.tuple hx
  have hlen := r.length
  show wpAny (model X.prog X.w) X.A (subscriptTail e (.Slice none none (some (.UnaryOp .USub (.Constant (.int 1) k p1) p2)) p3) (.ref a) (.ref s4.heap.objs.size)) (EP X pins σ Q) X.xe { s4 with heap := s4.heap.push { cls := .type "slice", data := .fields #[vl, vu, vs] } }
  refine tail_any (ops := [.ref a, .ref s4.heap.objs.size]) ht.typeIs (PyProof.Rows.slot_tuple_getitem.lookup) ?_ (by with_unfolding_all rfl)
  refine getItem_tuple_rev ht (Heap.IsSliceOf.new _ vl vu vs) pl pu ps ?_ (by omega)
  refine ⟨.ref _, _, I5.laid (t' := s4.toks) (o := .tup xs.reverse) (fun b ob q => Heap.get?_push_of_some _ q) (Nat.le_refl _) ?_, rfl, q _ (I5.hok.fresh (Nat.le_refl _))⟩
  exact ⟨by rw [List.length_reverse]; exact hz, _, r.reverse, IsTup.new _ _⟩
/-! ### t + u, t[a:b]: a tuple that holds it, whichever -/
def rCatS : R2 := fun x y H Q => ∃ a b xs ys, x = .ref a ∧ y = .ref b ∧ H a = some (.tup xs) ∧ H b = some (.tup ys) ∧ xs.length + ys.length ≤ sizeLine ∧ ∀ q H', Same H H' → H' q = some (.tup (xs ++ ys)) → Q (.ref q) H'
theorem op_catS {X : Cx} : OpR X (binaryOp .Add) rCatS := by
  intro pins s σ H x y v u Q I rx ry h
  obtain ⟨a, b, xs, ys, rfl, rfl, ha, hb, hz, q⟩ := h
  refine op_catA pins s σ H _ _ v u Q I rx ry ⟨a, b, xs, ys, rfl, rfl, SqT.of ha, SqT.of hb, hz, fun e => ?_, fun _ e => ?_, fun _ _ p hp => q p _ (same_new hp) upd_same⟩
  · subst e
    exact q b H (Same.refl _) hb
  · subst e
    exact q a H (Same.refl _) (by rw [List.append_nil]; exact ha)
def rSlS : V → Option Int → Option Int → Hp → VK → Prop := fun x lo hi H Q => ∃ a xs, x = .ref a ∧ H a = some (.tup xs) ∧ ∀ q H', Same H H' → H' q = some (.tup (cutV xs lo hi)) → Q (.ref q) H'
theorem cut_whole {xs : List V} {lo hi : Option Int} (h : HT.sIx xs.length 0 lo = 0 ∧ HT.sIx xs.length xs.length hi = xs.length) : cutV xs lo hi = xs := by
  unfold cutV
  rw [h.1, h.2, List.drop_zero, Nat.sub_zero, List.take_length]
theorem sl_tupS {X : Cx} : SlR X rSlS := by
  intro pins s σ H x v vl vu lo hi sl Q I rx hs pl pu h
  obtain ⟨a, xs, rfl, hx, q⟩ := h
  exact sl_tupA pins s σ H _ v vl vu lo hi sl Q I rx hs pl pu ⟨a, xs, rfl, SqT.of hx, fun hw => q a H (Same.refl _) (by rw [cut_whole hw]; exact hx), fun _ p hp => q p _ (same_new hp) upd_same⟩
end K5
namespace K5
open PySem PySem.Spec PyProof.Rows L2 RS RZ ZS
local macro_rules | `(tactic| walk_at "r1") => `(tactic| first | refine ⟨_, rfl, ?_⟩ | refine ⟨_, _, rfl, rfl, ?_⟩ | refine ⟨_, _, rfl, ?_⟩ | refine .inl ⟨_, rfl, ?_⟩ | refine .inr ⟨_, rfl, ?_⟩ | refine ⟨⟨_, rfl⟩, ?_⟩)
local macro_rules | `(tactic| walk_at "rr") => `(tactic| repeat walk_at "r1")
/-! ### ring_web -/
theorem nd_at {rs : List Str} (nd : rs.Nodup) {i j : Nat} (hi : i < rs.length) (hj : j < rs.length) (e : rs.getD i "" = rs.getD j "") : i = j := by
  rw [List.getD_eq_getElem?_getD, List.getD_eq_getElem?_getD, List.getElem?_eq_getElem hi, List.getElem?_eq_getElem hj] at e
  have e : rs[i] = rs[j] := e
  rcases Nat.lt_trichotomy i j with h | h | h
  · exact absurd e (List.pairwise_iff_getElem.mp nd i j hi hj h)
  · exact h
  · exact absurd e.symm (List.pairwise_iff_getElem.mp nd j i hj hi h)
def befI (n i : Nat) : Nat := if i = 0 then n - 1 else i - 1
theorem befI_lt {n i : Nat} (h : i < n) : befI n i < n := by
  unfold befI
  split <;> omega
theorem bef_ne {rs : List Str} (nd : rs.Nodup) (h2 : 2 ≤ rs.length) {i : Nat} (hi : i < rs.length) : befS rs i ≠ rs.getD i "" := fun e => by
  have := nd_at nd (befI_lt hi) hi e
  unfold befI at this
  split at this <;> omega
theorem tieS_inj {a b c d : Str} (h : a ≠ b) (h2 : c ≠ d) (e : tieS a b = tieS c d) : (a = c ∧ b = d) ∨ (a = d ∧ b = c) := by
  obtain ⟨x, y, e1, _, h3⟩ := tieS_ne h
  obtain ⟨x2, y2, e2, _, h4⟩ := tieS_ne h2
  rw [e1, e2] at e
  obtain ⟨ex, e⟩ := List.cons.inj e
  obtain ⟨ey, _⟩ := List.cons.inj e
  subst ex ey
  rcases h3 with ⟨rfl, rfl⟩ | ⟨rfl, rfl⟩ <;> rcases h4 with ⟨rfl, rfl⟩ | ⟨rfl, rfl⟩
  · exact .inl ⟨rfl, rfl⟩
  · exact .inr ⟨rfl, rfl⟩
  · exact .inr ⟨rfl, rfl⟩
  · exact .inl ⟨rfl, rfl⟩
def ringT (rs : List Str) : List (List Str) := (List.range rs.length).map fun i => tieS (befS rs i) (rs.getD i "")
theorem ringT_len (rs : List Str) : (ringT rs).length = rs.length := by
  unfold ringT
  rw [List.length_map, List.length_range]
theorem ringT_at {rs : List Str} {i : Nat} (h : i < rs.length) : (ringT rs)[i]? = some (tieS (befS rs i) (rs.getD i "")) := by
  unfold ringT
  rw [List.getElem?_map, List.getElem?_range h]
  rfl
theorem ringT_nodup {rs : List Str} (nd : rs.Nodup) (h3 : 3 ≤ rs.length) : (ringT rs).Nodup := by
  unfold ringT List.Nodup
  rw [List.pairwise_map]
  refine List.Pairwise.imp_of_mem (fun {i j} hi hj hlt e => ?_) (List.pairwise_lt_range (n := rs.length))
  have hi := List.mem_range.mp hi
  have hj := List.mem_range.mp hj
  rcases tieS_inj (bef_ne nd (by omega) hi) (bef_ne nd (by omega) hj) e with ⟨_, e2⟩ | ⟨e1, e2⟩
  · have := nd_at nd hi hj e2
    omega
  · have h1 := nd_at nd (befI_lt hi) hj e1
    have h2 := nd_at nd hi (befI_lt hj) e2
    unfold befI at h1 h2
    split at h1 <;> split at h2 <;> omega
theorem ringT_el {rs : List Str} (nd : rs.Nodup) (h3 : 3 ≤ rs.length) : ∀ t ∈ ringT rs, ∃ x y, t = [x, y] ∧ ltS x y = true ∧ x ∈ rs ∧ y ∈ rs := fun t ht => by
  unfold ringT at ht
  obtain ⟨i, hi, rfl⟩ := List.mem_map.mp ht
  have hi := List.mem_range.mp hi
  obtain ⟨x, y, e, hl, h⟩ := tieS_ne (bef_ne nd (by omega) hi)
  have m1 := befS_mem hi
  have m2 : rs.getD i "" ∈ rs := by
    rw [List.getD_eq_getElem?_getD, List.getElem?_eq_getElem hi]
    exact List.getElem_mem _
  refine ⟨x, y, e, hl, ?_, ?_⟩
  · rcases h with ⟨rfl, _⟩ | ⟨rfl, _⟩
    · exact m1
    · exact m2
  · rcases h with ⟨_, rfl⟩ | ⟨_, rfl⟩
    · exact m2
    · exact m1
theorem asc_of_srt {ts : List (List Str)} (h : ts.Pairwise fun a b => lexT b a = false) (nd : ts.Nodup) : Asc ts :=
  h.imp₂ (fun a b h1 h2 => by
    cases e : lexT a b with
    | true => rfl
    | false => exact absurd (lexT_total e h1) h2) nd
theorem PvT.same {HX : Hp} {D : Addr} {ts : List (List Str)} {i : Nat} {H H' : Hp} (h : PvT HX D ts i H) (S : Same H H') : PvT HX D ts i H' := by
  obtain ⟨⟨kts, a, b, c⟩, s⟩ := h
  exact ⟨⟨kts, S _ _ a, b.same S, c⟩, s.trans S⟩
structure spRing (C : Addr) (vs : List V) (H : Hp) (Q : VK) (E : XK) : Prop where
  h : ∃ (a : Addr) (rs : List Str), vs = [.ref a] ∧ H a = some (.tup (rs.map V.str)) ∧ rs.Nodup ∧ (∀ s ∈ rs, isNameV (.str s) = true) ∧ 3 ≤ rs.length ∧ rs.length ≤ 16 ∧
    ∀ q H' ss ts, H q = none → Same H H' → WebAt C H' q ss ts → AscS ss → ss.Perm rs → Asc ts → ts.Perm (ringT rs) → Q (.ref q) H'
theorem diff_ok {rs : List Str} (nd : rs.Nodup) (hn : ∀ s ∈ rs, isNameV (.str s) = true) : diffB (rs.map V.str) = true := by
  unfold diffB
  rw [Bool.and_eq_true]
  refine ⟨?_, decide_eq_true (nodup_map_str.mpr nd)⟩
  rw [List.all_map, List.all_eq_true]
  exact hn
theorem kds_of {H : Hp} {rs : List Str} (hn : ∀ s ∈ rs, isNameV (.str s) = true) : ∀ x ∈ rs.map V.str, ∃ t, Kd H x t := fun x hx => by
  obtain ⟨s, hs, rfl⟩ := List.mem_map.mp hx
  exact ⟨_, .str s (name_len (hn s hs))⟩
section
variable {P : Program} {w : World} {K : PySem.W.Frag} {mg : Str → Option Value} {base : Heap}
theorem sc_ring_web : FnScope ["ring", "ties", "index", "place"] ["ring"] (defScope s_ring_web) := ⟨rfl, rfl, rfl, by decide +kernel, rfl, by decide +kernel, by decide +kernel⟩
theorem ok_ring_web {f C fI : Addr} {fd fdI : FuncData} (F : Fun K "ring_web" "ring_web" s_ring_web f fd) (T : Txt K mg) (W : WTxt K mg C) (M : Mk K C fI) (GI : FnOk P w K mg base CX0 6 fI fdI ["self", "places", "ties"] (spWebInit C)) (bI : Binds K fdI ["self", "places", "ties"] []) (DD : Dfn P w K mg base "are_different_names" 3 ["value"] (spDiff K)) (DT : Dfn P w K mg base "tie_of" 1 ["a", "b"] spTieOf) : FnOk P w K mg base CX0 8 f fd ["ring"] (spRing C) := by
  refine F.ok sc_ring_web (fun vs H Q E h => ?_) (fun cdv A outer s H vs Q E hr h => ?_)
  · obtain ⟨a, rs, rfl, _⟩ := h
    rfl
  · obtain ⟨a, rs, rfl, ha, nd, hn, h3, h16, k⟩ := h
    obtain ⟨tf, hF⟩ := T.c_MAX_PLACES
    refine ⟨_, pss_cons (ps_if (PW.pt (pw_or (pt_not (pt_val (pe_d DD (hr.mono (by decide)) (pa_cons (pv 0) pa_nil)))) (pw_or1 (pt_not (pt_chain op_le op_le pe_int (pe_callB call_len (by rfl) T.n_len (by decide +kernel) (pa_cons (pv 0) pa_nil)) (pe_glob (v := .int 16) rfl hF ⟨_, rfl⟩)))))) (pss_one ps_never) pss_nil)
      (pss_cons (ps_setLc (i := 1) (own := [("index", 2), ("place", 3)]) (g := gTup K 2 (gCons (gName 2) (gCons (gName 3) gNil))) (tt := tYes) rfl sc_ring_web.nd rfl rfl (sw_true rfl rfl rfl (by decide +kernel)) (pi_enumT (by rfl) T.n_enumerate (pa_cons (pv 0) pa_nil)) (blkOk_by (own := [("index", 2), ("place", 3)]) (N := ["ring", "ties", "index", "place"]) (sc := defScope s_ring_web) (by decide +kernel))
          (fun _ _ _ _ _ => pg_tup rfl (pgs_cons (pg_name (i := 2) sc_ring_web.nd rfl (Or.inl rfl)) (pgs_cons (pg_name (i := 3) sc_ring_web.nd rfl (Or.inl rfl)) pgs_nil))) (fun _ _ _ _ _ => pts_nil)
          (fun _ _ _ _ _ => pe_d DT (hr.mono (by decide)) (pa_cons (pe_ix (show IxR _ (rIxT K) from ix_tup) (pv 0) (pe_op op_sub (pv 2) pe_int) (fun _ _ => rfl)) (pa_cons (pv 3) pa_nil))))
      (pss_one (ps_ret (pe_make M GI hr (by rfl) W.mgC bI .nil pass0 (pa_cons (pe_callTy call_tuple_of (by rfl) T.n_tuple (by decide +kernel) (pa_cons (pe_callB (show CallR _ _ (rSortT K) from call_sortT) (by rfl) T.n_sorted (by decide +kernel) (pa_cons (pv 0) pa_nil)) pa_nil))
        (pa_cons (pe_callTy call_tuple_of (by rfl) T.n_tuple (by decide +kernel) (pa_cons (pe_callB (show CallR _ _ (rSortTT K) from cr_sortTT) (by rfl) T.n_sorted (by decide +kernel) (pa_cons (pv 1) pa_nil)) pa_nil)) pa_nil)))))), ?_⟩
    have hz := line1000
    walk_at "rr"
    refine ⟨a, rs.map V.str, rfl, ha, by rw [List.length_map]; omega, kds_of hn, fun H1 S1 => ?_⟩
    rw [diff_ok nd hn]
    walk_at "rr"
    refine ⟨_, rs.length, rfl, .inr ⟨_, SqT.of (S1 _ _ ha), by rw [List.length_map]⟩, ?_⟩
    walk_at "rr"
    refine ifT (decide_eq_true (by omega)) ?_
    walk_at "rr"
    refine ifF (by rw [decide_eq_true (by omega : (rs.length : Int) ≤ 16)]; rfl) ?_
    walk_at "rr"
    have ha1 := S1 _ _ ha
    refine ⟨a, _, rfl, SqT.of ha1, fun D hD => ?_⟩
    refine lc_enumT (K := K) (a := a) (xs := rs.map V.str) (PvT H1 D (ringT rs)) (PvT.start hD) (fun i H2 h => SqT.of (h.s _ _ ha1)) ?_ ?_
    · rintro i x T2 H2 hx hT hP
      obtain ⟨z, hz0, rfl⟩ := str_at hx
      have hi := (List.getElem?_eq_some_iff.mp hz0).1
      have ez : rs.getD i "" = z := by rw [List.getD_eq_getElem?_getD, hz0]; rfl
      have ST := same_new (o := .tup [.int i, .str z]) hT
      refine ⟨T2, [.int i, .str z], rfl, SqT.of upd_same, rfl, ?_⟩
      walk_at "rr"
      refine ⟨rfl, ?_⟩
      walk_at "rr"
      have hP3 := hP.same ST
      refine ⟨a, _, _, _, rfl, rfl, SqT.of (hP3.s _ _ ha1), atI_bef (by omega), ?_⟩
      walk_at "rr"
      refine ⟨by rw [← ez]; exact bef_ne nd (by omega) (by omega), fun p hp => ?_⟩
      exact hP3.put (t := tieS (befS rs i) z) hD (by rw [ringT_len]; omega) (by rw [ringT_at (by omega), ez]) hp
    · rintro H2 hP
      have S2 := hP.s
      rw [List.length_map, ← ringT_len rs] at hP
      obtain ⟨kts, hkD, hkt, hkm⟩ := hP.fin
      have ndT := ringT_nodup nd h3
      have elT := ringT_el nd h3
      have hkl : kts.length = rs.length := by have := congrArg List.length hkm; rwa [List.length_map, ringT_len] at this
      walk_at "rr"
      have ha2 := S2 _ _ ha1
      refine ⟨a, rs, rfl, SqT.of ha2, by omega, fun ys l1 hys hso hl1 => ?_⟩
      have S3 := same_new (o := .lst (ys.map V.str)) hl1
      have hl1' : (upd H2 l1 (.lst (ys.map V.str))) l1 = some (.lst (ys.map V.str)) := upd_same
      have S13 := S2.trans S3
      obtain ⟨H3, e3⟩ : ∃ X, upd H2 l1 (.lst (ys.map V.str)) = X := ⟨_, rfl⟩
      rw [e3] at S3 S13 hl1' ⊢
      walk_at "rr"
      refine ⟨l1, _, rfl, .inl ⟨SqL.of hl1', fun pa hpa => ?_⟩⟩
      have S4 := same_new (o := .tup (ys.map V.str)) hpa
      have hpa4 : (upd H3 pa (.tup (ys.map V.str))) pa = some (.tup (ys.map V.str)) := upd_same
      have S14 := S13.trans S4
      have hkD4 := S4 _ _ (S3 _ _ hkD)
      have hkt4 := (hkt.same S3).same S4
      obtain ⟨H4, e4⟩ : ∃ X, upd H3 pa (.tup (ys.map V.str)) = X := ⟨_, rfl⟩
      rw [e4] at S4 S14 hpa4 hkD4 hkt4 ⊢
      walk_at "rr"
      refine ⟨D, kts, rfl, SqL.of hkD4, fun q hq => SqT.of (hkt4 q hq), fun q hq => ?_, fun L l2 hL hsrt hl2 => ?_⟩
      · obtain ⟨x, y, e, _⟩ := elT q.2 (by rw [← hkm]; exact List.mem_map_of_mem hq)
        rw [e]
        exact List.cons_ne_nil _ _
      have S5 := same_new (o := .lst (rk L)) hl2
      have hl2' : (upd H4 l2 (.lst (rk L))) l2 = some (.lst (rk L)) := upd_same
      have S15 := S14.trans S5
      have hLt : TK (upd H4 l2 (.lst (rk L))) L := fun q hq => S5 _ _ (hkt4 q (hL.mem_iff.mp hq))
      have hpa5 := S5 _ _ hpa4
      have hLT : (L.map (·.2)).Perm (ringT rs) := by rw [← hkm]; exact hL.map _
      have hLa : Asc (L.map (·.2)) := asc_of_srt hsrt (hLT.nodup_iff.mpr ndT)
      have hpl5 : (upd H4 l2 (.lst (rk L))) pa = some (.tup (ys.map V.str)) := hpa5
      obtain ⟨H5, e5⟩ : ∃ X, upd H4 l2 (.lst ((L.map (·.1)).map V.ref)) = X := ⟨_, rfl⟩
      have e5' : upd H4 l2 (.lst (rk L)) = H5 := e5
      rw [e5'] at S5 S15 hl2' hLt hpa5
      rw [e5]
      walk_at "rr"
      refine ⟨l2, _, rfl, .inl ⟨SqL.of hl2', fun ta hta => ?_⟩⟩
      have S6 := same_new (o := .tup (rk L)) hta
      have hta6 : (upd H5 ta (.tup (rk L))) ta = some (.tup (rk L)) := upd_same
      have S16 := S1.trans (S15.trans S6)
      have hpa6 := S6 _ _ hpa5
      have hLt6 := hLt.same S6
      obtain ⟨H6, e6⟩ : ∃ X, upd H5 ta (.tup (rk L)) = X := ⟨_, rfl⟩
      rw [e6] at S6 S16 hta6 hpa6 hLt6 ⊢
      walk_at "rr"
      intro x dx hx hdx ne
      have S7 : Same H6 (upd (upd H6 dx (.own x)) x (.ins C dx [])) := (same_new hdx).new (by rw [upd_ne ne.symm]; exact hx)
      have hx0 : H x = none := S16.none hx
      have has : AscS ys := asc_of_sorted hso (hys.nodup_iff.mpr nd)
      have hyn : ∀ s ∈ ys, isNameV (.str s) = true := fun s hs => hn s (hys.mem_iff.mp hs)
      have hyl := hys.length_eq
      have hLl := hL.length_eq
      have hpl : PlacesOk H6 pa ys := ⟨hpa6, has, hyn, by omega, by omega⟩
      refine ⟨x, dx, pa, ta, ys, rfl, upd_same, hpl.same S7, ⟨ta, L, rfl, S7 _ _ hta6, hLt6.same S7, by omega, hLa, fun q hq => ?_⟩, fun H' S' => ⟨rfl, ?_⟩⟩
      · obtain ⟨x, y, e, hl, hx, hy⟩ := elT q.2 (hLT.mem_iff.mp (List.mem_map_of_mem hq))
        exact ⟨x, y, e, hl, hys.mem_iff.mpr hx, hys.mem_iff.mpr hy⟩
      have np : pa ≠ x := ne_of_none hpa6 hx
      have nt : ta ≠ x := ne_of_none hta6 hx
      refine k x _ ys (L.map (·.2)) hx0 (same_own (S16.trans (S7.trans S')) hx0) ⟨dx, pa, ta, L, upd_same, ⟨by rw [upd_ne np]; exact S' _ _ (S7 _ _ hpa6), hpl.2⟩, by rw [upd_ne nt]; exact S' _ _ (S7 _ _ hta6), fun q hq => ?_, rfl⟩ has hys hLa hLT
      have h5 := S' _ _ (S7 _ _ (hLt6 q hq))
      rw [upd_ne (ne_of_none (hLt6 q hq) hx)]
      exact h5
end
end K5
namespace K5
open PySem PySem.Spec PyProof.Rows L2 RS RZ ZS
local macro_rules | `(tactic| walk_at "r1") => `(tactic| first | refine ⟨_, rfl, ?_⟩ | refine ⟨_, _, rfl, rfl, ?_⟩ | refine ⟨_, _, rfl, ?_⟩ | refine .inl ⟨_, rfl, ?_⟩ | refine .inr ⟨_, rfl, ?_⟩ | refine ⟨⟨_, rfl⟩, ?_⟩)
local macro_rules | `(tactic| walk_at "rr") => `(tactic| repeat walk_at "r1")
/-! ### full_web and ring_web of what no web can be -/
theorem deep_ties {H : Hp} {ta : Addr} {ks : RefK} (h1 : H ta = some (.tup (rk ks))) (h2 : TK H ks) (hl : ks.length ≤ 900) (h5 : ∀ k ∈ ks, k.2.length ≤ 1000 ∧ ∀ s ∈ k.2, s.length ≤ 1000) : DeepT H (.ref ta) := by
  refine ⟨⟨_, .tup h1⟩, fun a' xs e ha => ?_⟩
  cases e
  rw [h1] at ha
  have e := HO.tup.inj (Option.some.inj ha)
  subst e
  refine ⟨by rw [rk_len]; omega, fun x hx => ?_⟩
  obtain ⟨j, hj⟩ := List.getElem?_of_mem hx
  obtain ⟨k0, hk0, rfl⟩ := rk_at hj
  have hm := List.mem_of_getElem? hk0
  obtain ⟨l1, l2⟩ := h5 k0 hm
  have h7 := h2 k0 hm
  refine ⟨⟨_, .tup h7⟩, fun a2 xs2 e2 ha2 => ?_⟩
  cases e2
  rw [h7] at ha2
  have e := HO.tup.inj (Option.some.inj ha2)
  subst e
  refine ⟨by rw [List.length_map]; exact l1, fun y hy => ?_⟩
  obtain ⟨s, hs, rfl⟩ := List.mem_map.mp hy
  exact ⟨_, .str s (l2 s hs)⟩
def FullOk (H : Hp) (v : V) : Prop := ∃ (pa : Addr) (ss : List Str), v = .ref pa ∧ PlacesOk H pa ss ∧ (pairsP ss).length ≤ 60
structure spFullX (mg : Str → Option Value) (vs : List V) (H : Hp) (Q : VK) (E : XK) : Prop where
  h : ∃ v : V, vs = [v] ∧ VdT H v ∧ ¬ FullOk H v ∧ ∀ C H', mg "InvalidWeb" = some (.ref C) → Same H H' → E (.ref C) none H'
def diffV (H : Hp) : V → Bool
  | .ref a => match H a with
    | some (.tup xs) => diffB xs
    | _ => false
  | _ => false
theorem diffV_at {H : Hp} {a : Addr} {xs : List V} (h : H a = some (.tup xs)) : diffV H (.ref a) = diffB xs := by
  show (match H a with | some (.tup xs) => diffB xs | _ => false) = _
  rw [h]
theorem not_diff {H : Hp} {v : V} (h : areNames H v = false) : diffV H v = false := by
  cases v with
  | ref a =>
    show (match H a with | some (.tup xs) => diffB xs | _ => false) = _
    have h : (match H a with | some (.tup xs) => xs.all isNameV | _ => false) = false := h
    cases e : H a with
    | none => rfl
    | some o =>
      rw [e] at h
      cases o with
      | tup xs =>
        have h : xs.all isNameV = false := h
        show (xs.all isNameV && decide xs.Nodup) = false
        rw [h, Bool.false_and]
      | _ => rfl
  | _ => rfl
structure spDiff2 (vs : List V) (H : Hp) (Q : VK) (E : XK) : Prop where
  h : ∃ v : V, vs = [v] ∧ VdT H v ∧ ∀ H', Same H H' → Q (.bl (diffV H v)) H'
def RingOk (H : Hp) (v : V) : Prop := ∃ (a : Addr) (rs : List Str), v = .ref a ∧ H a = some (.tup (rs.map V.str)) ∧ rs.Nodup ∧ 3 ≤ rs.length ∧ rs.length ≤ 16
structure spRingX (mg : Str → Option Value) (vs : List V) (H : Hp) (Q : VK) (E : XK) : Prop where
  h : ∃ v : V, vs = [v] ∧ VdT H v ∧ ¬ RingOk H v ∧ ∀ C H', mg "InvalidWeb" = some (.ref C) → Same H H' → E (.ref C) none H'
section
variable {P : Program} {w : World} {K : PySem.W.Frag} {mg : Str → Option Value} {base : Heap}
theorem ok_diff2 {f : Addr} {fd : FuncData} (F : Fun K "are_different_names" "are_different_names" s_are_different_names f fd) (T : Txt K mg) (DA : Dfn P w K mg base "are_names" 2 ["value"] spAreNames) : FnOk P w K mg base CX0 3 f fd ["value"] spDiff2 := by
  refine F.ok sc_are_diff (fun vs H Q E h => ?_) (fun cdv A outer s H vs Q E hr h => ?_)
  · obtain ⟨v, rfl, _⟩ := h
    rfl
  · obtain ⟨v, rfl, ⟨⟨t, hk⟩, hv⟩, k⟩ := h
    refine ⟨_, pss_one (ps_ret (pe_and (pe_d DA hr (pa_cons (pv 0) pa_nil))
      (pe_one (pe_cmpR op_eq (ZS.pe_lenTx rfl T.n_len T.n_set (pv 0)) (pe_callB call_len (by rfl) T.n_len (by decide +kernel) (pa_cons (pv 0) pa_nil)) (nomark _))))), ?_⟩
    walk_at "rr"
    refine ⟨v, t, hk, rfl, hv, fun H1 S1 => ?_⟩
    walk_at "rr"
    cases hn : areNames H v with
    | false =>
      refine ifF rfl ?_
      exact q_bl (Q := Q) (not_diff hn).symm (k H1 S1)
    | true =>
      obtain ⟨a, xs, rfl, ha, hx⟩ := names_tup hn
      obtain ⟨ss, rfl⟩ := names_strs hx
      obtain ⟨hl, _⟩ := hv a _ rfl ha
      rw [List.length_map] at hl
      refine ifT rfl ?_
      walk_at "rr"
      refine ⟨a, ss, rfl, .inr (SqT.of (S1 _ _ ha)), hl, ?_⟩
      walk_at "rr"
      have hs := line1000
      refine ⟨_, ss.length, rfl, .inr ⟨_, SqT.of (S1 _ _ ha), by rw [List.length_map]⟩, ?_⟩
      refine ⟨rfl, ?_⟩
      refine q_bl (Q := Q) ?_ (k H1 S1)
      rw [diffV_at ha]
      unfold diffB
      rw [hx, Bool.true_and]
      refine decide_eq_decide.mpr ?_
      rw [nodup_map_str, ← nub_len_iff]
      constructor
      · intro e
        have := V.int.inj e
        omega
      · intro e
        rw [e]
theorem okx_full_web {f C fI : Addr} {fd fdI : FuncData} (F : Fun K "full_web" "full_web" s_full_web f fd) (T : Txt K mg) (I : ITxt K mg) (W : WTxt K mg C) (M : Mk K C fI) (GX : FnOk P w K mg base (L2.CX P w) 6 fI fdI ["self", "places", "ties"] (spWebInitX mg)) (bI : Binds K fdI ["self", "places", "ties"] []) (DA : Dfn P w K mg base "_are_places" 4 ["value"] spIsPlaces) (DP : Dfn P w K mg base "pairs_of" 1 ["places"] spPairsOf) : FnOk P w K mg base (L2.CX P w) 8 f fd ["places"] (spFullX mg) := by
  refine F.okX sc_full_web (fun vs H Q E h => ?_) (fun cdv A outer s H vs Q E hr h => ?_)
  · obtain ⟨v, rfl, _⟩ := h
    rfl
  · obtain ⟨v, rfl, hv, hno, k⟩ := h
    obtain ⟨CI, pl⟩ := I.p_IW
    refine ⟨_, pss_cons (ps_if (pt_not (pt_val (pe_d DA (hr.mono (by decide)) (pa_cons (pv 0) pa_nil))))
        (pss_one (ps_raise (W := fun cls d _ H => E cls d H) rfl (takes_of rfl rfl rfl rfl) (pmk_own PySem.F.excBase_ValueError pl.q pl.g pl.k (raises_own pl.s pl.t) (by rfl)))) pss_nil)
      (pss_one (ps_ret (pe_make M GX hr (by rfl) W.mgC bI .nil (passes_call (W := fun cls d _ H => E cls d H) (takes_of rfl rfl rfl rfl) (fun _ _ _ _ h => h)) (pa_cons (pv 0) (pa_cons (pe_d DP (hr.mono (by decide)) (pa_cons (pv 0) pa_nil)) pa_nil))))), ?_⟩
    walk_at "rr"
    refine ⟨hv, fun H1 S1 => ?_⟩
    walk_at "rr"
    cases hb : (ascV H v && (decide (1 ≤ lenV H v) && decide (lenV H v ≤ 16))) with
    | false =>
      refine ifT rfl ?_
      exact k CI H1 pl.g S1
    | true =>
      obtain ⟨pa, ss, rfl, hpl⟩ := places_of hb
      refine ifF rfl ?_
      walk_at "rr"
      have hpl1 := hpl.same S1
      refine ⟨pa, ss, rfl, hpl1.1, by have := hpl.2.2.2.2; omega, fun ta H2 ks hta S2 hta2 hk hks => ?_⟩
      have S02 := S1.trans S2
      walk_at "rr"
      intro x dx hx hdx ne
      have S3 : Same H2 (upd (upd H2 dx (.own x)) x (.ins C dx [])) := (same_new hdx).new (by rw [upd_ne ne.symm]; exact hx)
      have hpl2 := (hpl.same S02).same S3
      have hkl : 2 * ks.length ≤ 16 * 15 := by
        have h1 := congrArg List.length hks
        rw [List.length_map, pairsP_eq hpl.2.1] at h1
        have h2 := pairs_len ss
        have h3 := hpl.2.2.2.2
        rw [h1, h2]
        exact Nat.mul_le_mul h3 (by omega)
      refine ⟨x, .ref pa, .ref ta, rfl, hpl2.vd, deep_ties (S3 _ _ hta2) (hk.same S3) (by omega) (fun q hq => ?_), ?_, fun CE H' m S' => k CE H' m (S02.trans (S3.trans S'))⟩
      · obtain ⟨asc, el⟩ := pairsP_asc hpl.2.1
        obtain ⟨a, b, e, _, h1, h2⟩ := el q.2 (by rw [← hks]; exact List.mem_map_of_mem hq)
        rw [e]
        refine ⟨(by decide : 2 ≤ 1000), fun s hs => ?_⟩
        rcases List.mem_cons.mp hs with rfl | hs
        · exact name_len (hpl.2.2.1 _ h1)
        · rw [List.mem_singleton.mp hs]
          exact name_len (hpl.2.2.1 _ h2)
      · rintro ⟨pa', ss', e1, _, a, ks', e2, h1, _, h60, _⟩
        cases e2
        have h1' := h1.symm.trans (S3 _ _ hta2)
        have e := congrArg List.length (HO.tup.inj (Option.some.inj h1'))
        rw [rk_len, rk_len] at e
        have h2 := congrArg List.length hks
        rw [List.length_map] at h2
        exact hno ⟨pa, ss, rfl, hpl, by omega⟩
theorem okx_ring_web {f : Addr} {fd : FuncData} (F : Fun K "ring_web" "ring_web" s_ring_web f fd) (T : Txt K mg) (I : ITxt K mg) (DD : Dfn P w K mg base "are_different_names" 3 ["value"] spDiff2) : FnOk P w K mg base (L2.CX P w) 8 f fd ["ring"] (spRingX mg) := by
  refine F.okX sc_ring_web (fun vs H Q E h => ?_) (fun cdv A outer s H vs Q E hr h => ?_)
  · obtain ⟨v, rfl, _⟩ := h
    rfl
  · obtain ⟨v, rfl, hv, hno, k⟩ := h
    obtain ⟨CI, pl⟩ := I.p_IW
    obtain ⟨tf, hF⟩ := T.c_MAX_PLACES
    refine ⟨_, pss_cons (ps_if (PW.pt (pw_or (pt_not (pt_val (pe_d DD (hr.mono (by decide)) (pa_cons (pv 0) pa_nil)))) (pw_or1 (pt_not (pt_chain op_le op_le pe_int (pe_callB call_len (by rfl) T.n_len (by decide +kernel) (pa_cons (pv 0) pa_nil)) (pe_glob (v := .int 16) rfl hF ⟨_, rfl⟩))))))
        (pss_one (ps_raise (W := fun cls d _ H => E cls d H) rfl (takes_of rfl rfl rfl rfl) (pmk_own PySem.F.excBase_ValueError pl.q pl.g pl.k (raises_own pl.s pl.t) (by rfl)))) pss_nil)
      (pss_cons ps_never (pss_one ps_never)), ?_⟩
    walk_at "rr"
    refine ⟨hv, fun H1 S1 => ?_⟩
    walk_at "rr"
    cases hb : diffV H v with
    | false =>
      refine ifT rfl ?_
      refine ifT rfl ?_
      exact k CI H1 pl.g S1
    | true =>
      refine ifF rfl ?_
      obtain ⟨a, rs, rfl, ha, nd⟩ : ∃ (a : Addr) (rs : List Str), v = .ref a ∧ H a = some (.tup (rs.map V.str)) ∧ rs.Nodup := by
        cases hn : areNames H v with
        | false =>
          rw [not_diff hn] at hb
          cases hb
        | true =>
          obtain ⟨a, xs, rfl, ha, hx⟩ := names_tup hn
          obtain ⟨ss, rfl⟩ := names_strs hx
          rw [diffV_at ha] at hb
          unfold diffB at hb
          exact ⟨a, ss, rfl, ha, nodup_map_str.mp (of_decide_eq_true (Bool.and_eq_true_iff.mp hb).2)⟩
      walk_at "rr"
      refine ⟨_, rs.length, rfl, .inr ⟨_, SqT.of (S1 _ _ ha), by rw [List.length_map]⟩, ?_⟩
      walk_at "rr"
      refine ite2 (fun c1 => ?_) (fun c1 => ?_)
      · have c1 : (3 : Int) ≤ rs.length := of_decide_eq_true c1
        walk_at "rr"
        refine ifT ?_ ?_
        · rw [decide_eq_false (fun c2 : (rs.length : Int) ≤ 16 => hno ⟨a, rs, rfl, ha, nd, by omega, by omega⟩)]
          rfl
        · exact k CI H1 pl.g S1
      · walk_at "rr"
        exact k CI H1 pl.g S1
end
end K5
namespace K5
open PySem PySem.Spec PyProof.Rows L2 RS RZ ZS
local macro_rules | `(tactic| walk_at "r1") => `(tactic| first | refine ⟨_, rfl, ?_⟩ | refine ⟨_, _, rfl, rfl, ?_⟩ | refine ⟨_, _, rfl, ?_⟩ | refine .inl ⟨_, rfl, ?_⟩ | refine .inr ⟨_, rfl, ?_⟩ | refine ⟨⟨_, rfl⟩, ?_⟩)
local macro_rules | `(tactic| walk_at "rr") => `(tactic| repeat walk_at "r1")
/-! ### _law_mixed of a list or a tuple -/
structure spMixedA (vs : List V) (H : Hp) (Q : VK) (E : XK) : Prop where
  h : ∃ (d l : Addr) (xs : List V), Dice H d ∧ vs = [.ref d, .ref l] ∧ H l = some (.tup xs) ∧ xs.length ≤ 1000 ∧ ∀ (q : Addr) (ys : List V) (H' : Hp), Go d H H' → H q = none → q ≠ d → H' q = some (.lst ys) → ys.Perm xs → Q (.ref q) H'
/-! ### what no web has -/
theorem strs_inj {a b : List Str} (h : a.map V.str = b.map V.str) : a = b := (List.map_inj_right fun _ _ e => V.str.inj e).mp h
theorem PlacesOk.at_eq {H : Hp} {p : Addr} {ss rs : List Str} (h : PlacesOk H p ss) (hp : H p = some (.tup (rs.map V.str))) : ss = rs := by
  have h1 := h.1
  rw [hp] at h1
  exact (strs_inj (HO.tup.inj (Option.some.inj h1))).symm
theorem nw_p {H : Hp} {p : Addr} {rs : List Str} {v : V} (hp : H p = some (.tup (rs.map V.str))) (h : AscS rs → (∀ s ∈ rs, isNameV (.str s) = true) → 1 ≤ rs.length → False) : ¬ WebOk H (.ref p) v := by
  rintro ⟨pa, ss, e, hpl, _⟩
  cases e
  have e := hpl.at_eq hp
  subst e
  exact h hpl.2.1 hpl.2.2.1 hpl.2.2.2.1
theorem nw_v {H : Hp} {v1 v2 : V} (h : ∀ a xs, v1 = .ref a → H a = some (.tup xs) → xs ≠ [] → False) : ¬ WebOk H v1 v2 := by
  rintro ⟨pa, ss, e, hpl, _⟩
  refine h pa _ e hpl.1 fun e2 => ?_
  have := congrArg List.length e2
  rw [List.length_map] at this
  have h1 := hpl.2.2.2.1
  have : ss.length = 0 := this
  omega
theorem nw_t {H : Hp} {p : Addr} {ss : List Str} {v : V} (hpl : PlacesOk H p ss) (h : TiesOk H ss v → False) : ¬ WebOk H (.ref p) v := by
  rintro ⟨pa, ss', e, hpl', ht⟩
  cases e
  have e := hpl'.at_eq hpl.1
  subst e
  exact h ht
theorem asc_rev {ss : List Str} (h : AscS ss) (h2 : AscS ss.reverse) : ss.length ≤ 1 := by
  match ss, h, h2 with
  | [], _, _ => exact Nat.zero_le _
  | [_], _, _ => exact Nat.le_refl _
  | a :: b :: r, h, h2 =>
    have h3 := (List.pairwise_cons.mp h).1 b List.mem_cons_self
    unfold AscS at h2
    rw [List.pairwise_reverse] at h2
    have h4 := (List.pairwise_cons.mp h2).1 b List.mem_cons_self
    rw [show ltS b a = false from by
      cases e : ltS b a with
      | false => rfl
      | true => exact absurd (ltS_trans h3 e) (by rw [ltS_irrefl]; exact Bool.false_ne_true)] at h4
    cases h4
theorem ascT_rev {ts : List (List Str)} (h : Asc ts) (h2 : Asc ts.reverse) : ts.length ≤ 1 := by
  match ts, h, h2 with
  | [], _, _ => exact Nat.zero_le _
  | [_], _, _ => exact Nat.le_refl _
  | a :: b :: r, h, h2 =>
    have h3 := (List.pairwise_cons.mp h).1 b List.mem_cons_self
    unfold Asc at h2
    rw [List.pairwise_reverse] at h2
    have h4 := (List.pairwise_cons.mp h2).1 b List.mem_cons_self
    rw [lexT_asym h3] at h4
    cases h4
/-- what is no tie between these places -/
structure BadTie (H : Hp) (ss : List Str) (v : V) : Prop where
  vd : VdT H v
  no : ∀ (a : Addr) (x y : Str), v = .ref a → H a = some (.tup ([x, y].map V.str)) → ltS x y = true → x ∈ ss → y ∈ ss → False
theorem ties_more {H : Hp} {ss : List Str} {t : Addr} {xs : List V} {v : V} (ht : H t = some (.tup (xs ++ [v]))) (hb : ∀ (a : Addr) (x y : Str), v = .ref a → H a = some (.tup ([x, y].map V.str)) → ltS x y = true → x ∈ ss → y ∈ ss → False) (h : TiesOk H ss (.ref t)) : False := by
  obtain ⟨a, ks, e, h1, h2, _, _, h5⟩ := h
  cases e
  rw [ht] at h1
  have e := HO.tup.inj (Option.some.inj h1)
  have hm : v ∈ rk ks := by rw [← e]; exact List.mem_append_right _ List.mem_cons_self
  obtain ⟨j, hj⟩ := List.getElem?_of_mem hm
  obtain ⟨k0, hk0, rfl⟩ := rk_at hj
  have hk := List.mem_of_getElem? hk0
  obtain ⟨x, y, e2, hl, hx, hy⟩ := h5 k0 hk
  have h6 := h2 k0 hk
  rw [e2] at h6
  exact hb k0.1 x y rfl h6 hl hx hy
theorem ties_at {H : Hp} {ss : List Str} {t : Addr} {ks : RefK} (ht : H t = some (.tup (rk ks))) (hk : TK H ks) (h : TiesOk H ss (.ref t)) : Asc (ks.map (·.2)) := by
  obtain ⟨a, ks', e, h1, h2, _, h4, _⟩ := h
  cases e
  rw [ht] at h1
  have e := rk_inj hk h2 (HO.tup.inj (Option.some.inj h1))
  rw [e]
  exact h4
theorem dup_not {α : Type} {l : List α} {i : Nat} {x : α} (h : l[i]? = some x) : ¬ (l.take i ++ ([x] ++ l.drop i)).Nodup := fun nd => by
  have h2 := (List.nodup_append.mp nd).2.1
  obtain ⟨hi, e⟩ := List.getElem?_eq_some_iff.mp h
  rw [List.drop_eq_getElem_cons hi, e] at h2
  exact (List.nodup_cons.mp h2).1 List.mem_cons_self
structure spBent (vs : List V) (H : Hp) (Q : VK) (E : XK) : Prop where
  h : ∃ (d pa ta : Addr) (ss : List Str) (ks : RefK), vs = [.ref d, .ref pa, .ref ta] ∧ Dice H d ∧ PlacesOk H pa ss ∧ H ta = some (.tup (rk ks)) ∧ TK H ks ∧ Wb ss (ks.map (·.2)) ∧ (∀ x ∈ ss, x ∈ names16) ∧ ks.length ≤ 60 ∧
    ∀ (q : Addr) (H' : Hp) (v1 v2 : V), Go d H H' → H' q = some (.lst [v1, v2]) → VdT H' v1 → DeepT H' v2 → ¬ WebOk H' v1 v2 → Q (.ref q) H'
def rNeE : R2 := fun x y H Q => ∃ (a b : Addr) (ks : RefK), x = .ref a ∧ y = .ref b ∧ H a = some (.tup (rk ks)) ∧ TK H ks ∧ (∀ k ∈ ks, okT k.2) ∧ H b = some (.tup []) ∧ Q (.bl (!ks.isEmpty)) H
theorem op_neE {X : Cx} (hu : X.A.units + 64 < cLine) : OpR X (compareOp .NotEq) rNeE := by
  intro pins s σ H x y v u Q I rx ry h
  obtain ⟨a, b, ks, rfl, rfl, ha, hk, ok, hb, q⟩ := h
  refine op_neD hu pins s σ H _ _ v u Q I rx ry ⟨tDD (ks.map (·.2)), tDD [], .tup (SqT.of ha) (dp_rk ks hk), .tup (SqT.of hb) .nil, tDD_ok _ fun t ht => ?_, tDD_ok _ fun t ht => (nomatch ht), ?_⟩
  · obtain ⟨k, hk, rfl⟩ := List.mem_map.mp ht
    exact ok k hk
  · rw [eqv_tDD]
    have e : decide (ks.map (·.2) = []) = ks.isEmpty := by
      cases ks with
      | nil => rfl
      | cons k ks => rfl
    rw [e]
    exact q
theorem mk_new {H : Hp} {p : Addr} (o : HO) (hp : H p = none) : ∃ H', upd H p o = H' ∧ Same H H' ∧ H' p = some o := ⟨_, rfl, same_new hp, upd_same⟩
theorem bent_go {H H' : Hp} {d pa ta : Addr} {ss : List Str} {ks : RefK} (hd : Dice H d) (hpl : PlacesOk H pa ss) (hta : H ta = some (.tup (rk ks))) (hk : TK H ks) (g : Go d H H') : PlacesOk H' pa ss ∧ H' ta = some (.tup (rk ks)) ∧ TK H' ks :=
  ⟨⟨g.keep _ _ (dice_ne_tup hd hpl.1) hpl.1, hpl.2⟩, g.keep _ _ (dice_ne_tup hd hta) hta, hk.go hd g⟩
theorem vd_flat {H : Hp} {v : V} {t : String} (h : Kd H v t) (hn : ∀ a xs, v = .ref a → H a ≠ some (.tup xs)) : VdT H v := ⟨⟨t, h⟩, fun a xs e ha => absurd ha (hn a xs e)⟩
end K5
namespace K5
open PySem PySem.Spec PyProof.Rows L2 RS RZ ZS
local macro_rules | `(tactic| walk_at "r1") => `(tactic| first | refine ⟨_, rfl, ?_⟩ | refine ⟨_, _, rfl, rfl, ?_⟩ | refine ⟨_, _, rfl, ?_⟩ | refine .inl ⟨_, rfl, ?_⟩ | refine .inr ⟨_, rfl, ?_⟩ | refine ⟨⟨_, rfl⟩, ?_⟩)
local macro_rules | `(tactic| walk_at "rr") => `(tactic| repeat walk_at "r1")
section
variable {P : Program} {w : World} {K : PySem.W.Frag} {mg : Str → Option Value} {base : Heap}
theorem ok_law_mixedA {f : Addr} {fd : FuncData} (F : Fun K "_law_mixed" "_law_mixed" s_law_mixed f fd) (T : Txt K mg) (DR : Dfn P w K mg base "_law_roll" 1 ["dice", "total"] spRoll) : FnOk P w K mg base CX0 2 f fd ["dice", "items"] spMixedA := by
  refine F.ok sc_mixed (fun vs H Q E h => ?_) (fun cdv A outer s H vs Q E hr h => ?_)
  · obtain ⟨d, l, xs, _, rfl, _⟩ := h
    rfl
  · obtain ⟨d, l, xs, hd, rfl, hl, hn, k⟩ := h
    have hld : l ≠ d := dice_ne_tup hd hl
    refine ⟨_, pss_cons (ps_par (i := 2) (j := 3) rfl sc_mixed.nd rfl rfl (by decide) rfl rfl (pa_cons (pe_callTy call_list_of (by rfl) T.n_list (by decide +kernel) (pa_cons (pv 1) pa_nil)) (pa_cons (pe_lst pa_nil) pa_nil)) (by rfl))
      (pss_cons (ps_for PassesOwn.never rfl (pi_range1 (by rfl) T.n_range (pa_cons (pe_callB call_len (by rfl) T.n_len (by decide +kernel) (pa_cons (pv 1) pa_nil)) pa_nil)) (pg_name (i := 4) sc_mixed.nd rfl (Or.inl rfl))
        (pss_one (ps_expr (pe_bm PySem.F.plainAttrs_list PySem.F.slot_list_append PySem.F.type_list_append mt_append (pv 3) (pa_cons
          (pe_bm PySem.F.plainAttrs_list PySem.F.slot_list_pop PySem.F.type_list_pop mt_popAt (pv 2) (pa_cons (pe_d DR hr (pa_cons (pv 0) (pa_cons (pe_callB call_len (by rfl) T.n_len (by decide +kernel) (pa_cons (pv 2) pa_nil)) pa_nil))) pa_nil)) pa_nil)))))
      (pss_one (ps_ret (pv 3)))), ?_⟩
    walk_at "rr"
    refine ⟨l, xs, rfl, .inr (SqT.of hl), fun L hL => ?_⟩
    walk_at "rr"
    refine ⟨Nat.zero_le _, fun q hq => ?_⟩
    have hLq : L ≠ q := fun e => by
      subst e
      rw [upd_same] at hq
      cases hq
    have hq0 : H q = none := by
      cases e : H q with
      | none => rfl
      | some o =>
        rw [upd_ne (Ne.symm hLq), e] at hq
        cases hq
    have hLd : L ≠ d := (Go.refl hd).at_ne hL
    have hqd : q ≠ d := (Go.refl hd).at_ne hq0
    have hlL : l ≠ L := ne_of_none hl hL
    have hlq : l ≠ q := ne_of_none hl hq0
    obtain ⟨HA, eA⟩ : ∃ X, upd (upd H L (.lst xs)) q (.lst []) = X := ⟨_, rfl⟩
    have gA : Go d H HA := by
      rw [← eA]
      exact (Go.own ((Go.refl hd).new hL) hq0 hqd)
    have hAl : HA l = some (.tup xs) := gA.keep l _ hld hl
    have hAL : HA L = some (.lst xs) := by
      rw [← eA, upd_ne hLq, upd_same]
    have hAq : HA q = some (.lst []) := by
      rw [← eA, upd_same]
    rw [eA]
    walk_at "rr"
    have hs := line1000
    refine ⟨_, xs.length, rfl, .inr ⟨_, SqT.of hAl, rfl⟩, ?_⟩
    refine ⟨_, rfl, by omega, by omega, ?_⟩
    rw [Int.toNat_natCast]
    refine for_range (lo := 0) (n := xs.length) (fun i σ H' => ∃ (v4 : Option V) (left found : List V), σ = [some (.ref d), some (.ref l), some (.ref L), some (.ref q), v4] ∧ H' L = some (.lst left) ∧ H' q = some (.lst found) ∧ (found ++ left).Perm xs ∧ found.length = i ∧ Go d H H')
      ⟨_, xs, [], rfl, hAL, hAq, List.Perm.refl _, rfl, gA⟩ ?_ ?_
    · rintro i σ H' hi ⟨v4, left, found, rfl, h1, h2, hp, hfl, gg⟩
      have hlen := hp.length_eq
      rw [List.length_append] at hlen
      walk_at "rr"
      refine ⟨.inl ⟨rfl, _, SqL.of h2⟩, ?_⟩
      walk_at "rr"
      refine ⟨.inl ⟨rfl, _, SqL.of h1⟩, ?_⟩
      walk_at "rr"
      refine ⟨_, left.length, rfl, .inl ⟨_, SqL.of h1, rfl⟩, ?_⟩
      walk_at "rr"
      refine roll_go gg.dice (by omega) (by omega) fun j H2 j0 j1 g2 => ?_
      have h1' := g2.keep L _ hLd h1
      have h2' := g2.keep q _ hqd h2
      have hj : j.toNat < left.length := by omega
      walk_at "rr"
      refine ⟨L, left, j, j.toNat, left[j.toNat], rfl, rfl, h1', by omega, by omega, seqIndex_of j0 (by omega), List.getElem?_eq_getElem hj, ?_⟩
      walk_at "rr"
      refine ⟨q, found, left[j.toNat], rfl, rfl, by rw [upd_ne hLq.symm]; exact h2', by omega, ?_⟩
      walk_at "rr"
      refine ⟨_, left.eraseIdx j.toNat, found ++ [left[j.toNat]], rfl, by rw [upd_ne hLq, upd_same], upd_same, ?_, by rw [List.length_append, hfl] <;> rfl, ?_⟩
      · refine List.Perm.trans ?_ hp
        rw [List.append_assoc]
        refine List.Perm.append_left found ?_
        exact (erase_perm left j.toNat left[j.toNat] (List.getElem?_eq_getElem hj))
      · exact ((gg.trans g2).own hL hLd).own hq0 hqd
    · rintro σ H' ⟨v4, left, found, rfl, h1, h2, hp, hfl, gg⟩
      walk_at "rr"
      have hlen := hp.length_eq
      rw [List.length_append] at hlen
      have e : left = [] := List.length_eq_zero_iff.mp (by omega)
      subst e
      rw [List.append_nil] at hp
      exact k q found H' gg hq0 hqd h2 hp
end
end K5
namespace K5
open PySem PySem.Spec PyProof.Rows L2 RS RZ ZS
local macro_rules | `(tactic| walk_at "r1") => `(tactic| first | refine ⟨_, rfl, ?_⟩ | refine ⟨_, _, rfl, rfl, ?_⟩ | refine ⟨_, _, rfl, ?_⟩ | refine .inl ⟨_, rfl, ?_⟩ | refine .inr ⟨_, rfl, ?_⟩ | refine ⟨⟨_, rfl⟩, ?_⟩)
local macro_rules | `(tactic| walk_at "rr") => `(tactic| repeat walk_at "r1")
/-! ### _law_bent -/
theorem webok_back {H H' : Hp} {v1 v2 : V} (S : Same H H') (h1 : VdT H v1) (h2 : DeepT H v2) (h : WebOk H' v1 v2) : WebOk H v1 v2 := by
  obtain ⟨pa, ss, rfl, hpl, ht⟩ := h
  obtain ⟨⟨t, hk⟩, _⟩ := h1
  exact ⟨pa, ss, rfl, ⟨kd_back hk S hpl.1, hpl.2⟩, ties_back h2 S ht⟩
theorem bent_fin {H H4 : Hp} {d : Addr} {v1 v2 : V} {Q : VK} (k : ∀ (q : Addr) (H' : Hp) (v1 v2 : V), Go d H H' → H' q = some (.lst [v1, v2]) → VdT H' v1 → DeepT H' v2 → ¬ WebOk H' v1 v2 → Q (.ref q) H') (g4 : Go d H H4) (h1 : VdT H4 v1) (h2 : DeepT H4 v2) (no : ¬ WebOk H4 v1 v2) :
    [v1, v2].length ≤ sizeLine ∧ ∀ q, H4 q = none → Q (.ref q) (upd H4 q (.lst [v1, v2])) :=
  ⟨show (2 : Nat) ≤ sizeLine by decide, fun q hq => k q _ v1 v2 (g4.new hq) upd_same (h1.same (same_new hq)) (h2.same (same_new hq)) fun h => no (webok_back (same_new hq) h1 h2 h)⟩
theorem vd_strs {H : Hp} {p : Addr} {rs : List Str} (h : H p = some (.tup (rs.map V.str))) (hl : rs.length ≤ 1000) (hn : ∀ s ∈ rs, s.length ≤ 1000) : VdT H (.ref p) := by
  refine ⟨⟨_, .tup h⟩, fun a xs e ha => ?_⟩
  cases e
  rw [h] at ha
  have e := HO.tup.inj (Option.some.inj ha)
  subst e
  refine ⟨by rw [List.length_map]; exact hl, fun x hx => ?_⟩
  obtain ⟨s, hs, rfl⟩ := List.mem_map.mp hx
  exact ⟨_, .str s (hn s hs)⟩
theorem vd_lst {H : Hp} {p : Addr} {xs : List V} (h : H p = some (.lst xs)) : VdT H (.ref p) := vd_flat (.lst h) fun a xs e ha => by
  cases e
  rw [h] at ha
  cases ha
theorem deep_lst {H : Hp} {p : Addr} {xs : List V} (h : H p = some (.lst xs)) : DeepT H (.ref p) := ⟨⟨_, .lst h⟩, fun a xs e ha => by
  cases e
  rw [h] at ha
  cases ha⟩
theorem deep_more {H : Hp} {t : Addr} {ks : RefK} {v : V} (h1 : H t = some (.tup (rk ks ++ [v]))) (h2 : TK H ks) (hl : ks.length ≤ 800) (h5 : ∀ k ∈ ks, k.2.length ≤ 1000 ∧ ∀ s ∈ k.2, s.length ≤ 1000) (hv : VdT H v) : DeepT H (.ref t) := by
  refine ⟨⟨_, .tup h1⟩, fun a' xs e ha => ?_⟩
  cases e
  rw [h1] at ha
  have e := HO.tup.inj (Option.some.inj ha)
  subst e
  refine ⟨by rw [List.length_append, rk_len]; exact Nat.add_le_add hl (by decide : 1 ≤ 100), fun x hx => ?_⟩
  rcases List.mem_append.mp hx with hx | hx
  · obtain ⟨j, hj⟩ := List.getElem?_of_mem hx
    obtain ⟨k0, hk0, rfl⟩ := rk_at hj
    have hm := List.mem_of_getElem? hk0
    obtain ⟨l1, l2⟩ := h5 k0 hm
    exact vd_strs (h2 k0 hm) l1 l2
  · rw [List.mem_singleton.mp hx]
    exact hv
theorem BadTie.same {H H' : Hp} {ss : List Str} {v : V} (h : BadTie H ss v) (S : Same H H') : BadTie H' ss v := ⟨h.vd.same S, fun a x y e ha => by
  obtain ⟨⟨t, hk⟩, _⟩ := h.vd
  subst e
  exact h.no a x y rfl (kd_back hk S ha)⟩
theorem bad_two {H : Hp} {p : Addr} {a b : Str} {ss : List Str} (h : H p = some (.tup [.str a, .str b])) (la : a.length ≤ 1000) (lb : b.length ≤ 1000) (no : ltS a b = true → a ∈ ss → False) : BadTie H ss (.ref p) :=
  ⟨vd_strs (rs := [a, b]) h (by decide : 2 ≤ 1000) fun s hs => by
    rcases List.mem_cons.mp hs with rfl | hs
    · exact la
    · rw [List.mem_singleton.mp hs]
      exact lb, fun q x y e ha hl hx _ => by
    cases e
    rw [h] at ha
    cases ha
    exact no hl hx⟩
theorem bad_one {H : Hp} {p : Addr} {a : Str} {ss : List Str} (h : H p = some (.tup [.str a])) (la : a.length ≤ 1000) : BadTie H ss (.ref p) :=
  ⟨vd_strs (rs := [a]) h (by decide : 1 ≤ 1000) fun s hs => by
    rw [List.mem_singleton.mp hs]
    exact la, fun q x y e ha hl hx _ => by
    cases e
    rw [h] at ha
    cases ha⟩
theorem bad_lst {H : Hp} {p : Addr} {xs : List V} {ss : List Str} (h : H p = some (.lst xs)) : BadTie H ss (.ref p) := ⟨vd_lst h, fun q x y e ha _ _ _ => by
  cases e
  rw [h] at ha
  cases ha⟩
theorem cut_one {xs : List V} {i : Nat} (h : i < xs.length) : cutV xs (some (i : Int)) (some ((i : Int) + 1)) = (xs.drop i).take 1 := by
  unfold cutV
  rw [HT.sIx_nat, show ((i : Int) + 1) = ((i + 1 : Nat) : Int) by omega, HT.sIx_nat]
  congr 1
  · omega
  · congr 1
    omega
theorem rk_dup {ks : RefK} {i : Nat} {k0 : Addr × List Str} (h : ks[i]? = some k0) : cutV (rk ks) none (some (i : Int)) ++ cutV (rk ks) (some (i : Int)) (some ((i : Int) + 1)) ++ cutV (rk ks) (some (i : Int)) none = rk (ks.take i ++ ([k0] ++ ks.drop i)) := by
  obtain ⟨hi, e⟩ := List.getElem?_eq_some_iff.mp h
  have e1 : ∀ l : RefK, rk l = l.map fun k => V.ref k.1 := fun l => by unfold rk; rw [List.map_map]; rfl
  rw [cut_to, cut_one (by rw [rk_len]; exact hi), cut_from, e1, e1, ← List.map_take, ← List.map_drop, ← List.map_take, ← List.map_append, ← List.map_append, List.append_assoc]
  congr 2
  congr 1
  rw [List.drop_eq_getElem_cons hi, e]
  rfl
theorem rk_rev (ks : RefK) : (rk ks).reverse = rk ks.reverse := by
  unfold rk
  rw [List.map_reverse, List.map_reverse]
theorem name_len8 {s : Str} (h : isNameV (.str s) = true) : s.length ≤ 8 := by
  change isWordS s = true at h
  unfold isWordS at h
  exact of_decide_eq_true (Bool.and_eq_true_iff.mp (Bool.and_eq_true_iff.mp h).1).2
theorem at_last {ss : List Str} (hne : ss ≠ []) : atI (ss.map V.str) (-1) = some (.str (ss.getLast hne)) := by
  conv => lhs; rw [← List.dropLast_concat_getLast hne, List.map_append]
  exact atI_last _ _
theorem app_len (a b : Str) : (a ++ b).length = a.length + b.length := by
  show (a.cps ++ b.cps).size = a.cps.size + b.cps.size
  exact Array.size_append
section
variable {P : Program} {w : World} {K : PySem.W.Frag} {mg : Str → Option Value} {base : Heap}
theorem sc_bent : FnScope ["dice", "places", "ties", "way", "at"] ["dice", "places", "ties"] (defScope s_law_bent) := ⟨rfl, rfl, rfl, by decide +kernel, rfl, by decide +kernel, by decide +kernel⟩
theorem ok_law_bent {f : Addr} {fd : FuncData} (F : Fun K "_law_bent" "_law_bent" s_law_bent f fd) (T : Txt K mg) (DR : Dfn P w K mg base "_law_roll" 1 ["dice", "total"] spRoll) (DP : Dfn P w K mg base "_law_pick" 2 ["dice", "items"] spPick) : FnOk P w K mg base CX0 3 f fd ["dice", "places", "ties"] spBent := by
  refine F.ok sc_bent (fun vs H Q E h => ?_) (fun cdv A outer s H vs Q E hr h => ?_)
  · obtain ⟨d, pa, ta, ss, ks, rfl, _⟩ := h
    rfl
  · obtain ⟨d, pa, ta, ss, ks, rfl, hd, hpl, hta, hk, hw, h16, h60, k⟩ := h
    have hr1 := hr.mono (by decide : 1 ≤ 2)
    have hu64 := hr.units
    refine ⟨_, pss_cons (ps_par (i := 3) (j := 4) rfl sc_bent.nd rfl rfl (by decide) rfl rfl (pa_cons (pe_d DR hr1 (pa_cons (pv 0) (pa_cons pe_int pa_nil)))
          (pa_cons (pe_ifExp (pt_cmpR (show OpR _ _ rNeE from op_neE hu64) (pv 2) (pe_tup pa_nil) (nomark _)) (pe_d DR hr1 (pa_cons (pv 0) (pa_cons (pe_callB call_len (by rfl) T.n_len (by decide +kernel) (pa_cons (pv 2) pa_nil)) pa_nil))) pe_int) pa_nil)) (by rfl))
      (pss_cons (ps_if (pt_cmpR op_eq (pv 3) pe_int (nomark _)) (pss_one (ps_ret (pe_ifExp (pt_cmpR op_gt (pe_callB call_len (by rfl) T.n_len (by decide +kernel) (pa_cons (pv 1) pa_nil)) pe_int (nomark _)) (pe_lst (pa_cons (pe_revT (pv 1)) (pa_cons (pv 2) pa_nil))) (pe_lst (pa_cons (pe_tup pa_nil) (pa_cons (pv 2) pa_nil)))))) pss_nil)
      (pss_cons (ps_if (pt_cmpR op_eq (pv 3) pe_int (nomark _)) (pss_one (ps_ret (pe_lst (pa_cons (pe_op (show OpR _ _ rCatS from op_catS) (pv 1) (pe_tup (pa_cons pe_str pa_nil))) (pa_cons (pv 2) pa_nil))))) pss_nil)
      (pss_cons (ps_if (pt_cmpR op_eq (pv 3) pe_int (nomark _)) (pss_one (ps_ret (pe_lst (pa_cons (pe_callTy call_list_of (by rfl) T.n_list (by decide +kernel) (pa_cons (pv 1) pa_nil)) (pa_cons (pv 2) pa_nil))))) pss_nil)
      (pss_cons (ps_if (pt_cmpR op_eq (pv 3) pe_int (nomark _)) (pss_one (ps_ret (pe_lst (pa_cons (pv 1) (pa_cons (pe_callTy call_list_of (by rfl) T.n_list (by decide +kernel) (pa_cons (pv 2) pa_nil)) pa_nil))))) pss_nil)
      (pss_cons (ps_if (pt_cmpR op_eq (pv 3) pe_int (nomark _)) (pss_one (ps_ret (pe_lst (pa_cons (pv 1) (pa_cons (pe_op (show OpR _ _ rCatS from op_catS) (pv 2) (pe_tup (pa_cons (pe_d DP hr (pa_cons (pv 0) (pa_cons
            (pe_lst (pa_cons (pe_tup (pa_cons pe_str (pa_cons pe_str pa_nil))) (pa_cons (pe_tup (pa_cons pe_str (pa_cons pe_str pa_nil))) (pa_cons pe_str (pa_cons pe_non (pa_cons (pe_tup (pa_cons pe_str pa_nil)) (pa_cons (pe_lst (pa_cons pe_str (pa_cons pe_str pa_nil))) (pa_cons (pe_tup (pa_cons pe_str (pa_cons pe_str pa_nil))) pa_nil)))))))) pa_nil))) pa_nil))) pa_nil))))) pss_nil)
      (pss_cons (ps_if (PW.pt (pw_and (pt_cmpR op_eq (pv 3) pe_int (nomark _)) (pw_and1 (pt_cmpR (show OpR _ _ rNeE from op_neE hu64) (pv 2) (pe_tup pa_nil) (nomark _)))))
          (pss_one (ps_ret (pe_lst (pa_cons (pv 1) (pa_cons (pe_op (show OpR _ _ rCatS from op_catS) (pe_op (show OpR _ _ rCatS from op_catS) (pe_slice (show SlR _ rSlS from sl_tupS) (pv 2) po_none (po_some (pv 4))) (pe_slice (show SlR _ rSlS from sl_tupS) (pv 2) (po_some (pv 4)) (po_some (pe_op op_add (pv 4) pe_int)))) (pe_slice (show SlR _ rSlS from sl_tupS) (pv 2) (po_some (pv 4)) po_none)) pa_nil))))) pss_nil)
      (pss_cons (ps_if (PW.pt (pw_and (pt_cmpR op_eq (pv 3) pe_int (nomark _)) (pw_and1 (pt_cmpR op_gt (pe_callB call_len (by rfl) T.n_len (by decide +kernel) (pa_cons (pv 2) pa_nil)) pe_int (nomark _)))))
          (pss_one (ps_ret (pe_lst (pa_cons (pv 1) (pa_cons (pe_revT (pv 2)) pa_nil))))) pss_nil)
      (pss_cons (ps_if (PW.pt (pw_and (pt_cmpR op_eq (pv 3) pe_int (nomark _)) (pw_and1 (pt_cmpR (show OpR _ _ rNeE from op_neE hu64) (pv 2) (pe_tup pa_nil) (nomark _)))))
          (pss_one (ps_ret (pe_lst (pa_cons (pe_slice (show SlR _ rSlS from sl_tupS) (pv 1) (po_some pe_int) po_none) (pa_cons (pe_op (show OpR _ _ rCatS from op_catS) (pv 2) (pe_tup (pa_cons (pe_tup (pa_cons (pe_ix (show IxR _ (rIxT K) from ix_tup) (pv 1) pe_int (fun _ _ => rfl)) (pa_cons (pe_op op_add_str (pe_ix (show IxR _ (rIxT K) from ix_tup) (pv 1) (pe_un un_neg pe_int) (fun _ _ => rfl)) pe_str) pa_nil))) pa_nil))) pa_nil))))) pss_nil)
      (pss_one (ps_ret (pe_lst (pa_cons (pe_d DP hr (pa_cons (pv 0) (pa_cons (pe_lst (pa_cons pe_non (pa_cons pe_int (pa_cons pe_str (pa_cons pe_dnewK (pa_cons (pe_tup pa_nil) pa_nil)))))) pa_nil))) (pa_cons (pv 2) pa_nil))))))))))))), ?_⟩
    have hz := line1000
    have hnm := hpl.2.2.1
    have hl1 := hpl.2.2.2.1
    have hl16 := hpl.2.2.2.2
    have hlen : ∀ k ∈ ks, k.2.length ≤ 1000 ∧ ∀ s ∈ k.2, s.length ≤ 1000 := fun q hq => by
      obtain ⟨a, b, e, _, h1, h2⟩ := hw.el q.2 (List.mem_map_of_mem hq)
      rw [e]
      refine ⟨(by decide : 2 ≤ 1000), fun s hs => ?_⟩
      rcases List.mem_cons.mp hs with rfl | hs
      · exact name_len (hnm _ h1)
      · rw [List.mem_singleton.mp hs]
        exact name_len (hnm _ h2)
    have hok : ∀ k ∈ ks, okT k.2 := fun q hq => by
      obtain ⟨a, b, e, _, h1, h2⟩ := hw.el q.2 (List.mem_map_of_mem hq)
      rw [e]
      intro s hs
      rcases List.mem_cons.mp hs with rfl | hs
      · exact names_ok _ (h16 _ h1)
      · rw [List.mem_singleton.mp hs]
        exact names_ok _ (h16 _ h2)
    walk_at "rr"
    refine roll_go hd (by decide) (by decide) fun wy H1 w0 w1 g1 => ?_
    walk_at "rr"
    refine ⟨Nat.zero_le _, fun t0 ht0 => ?_⟩
    obtain ⟨H2, e2, S2, h2⟩ := mk_new (.tup []) ht0
    rw [e2]
    have g2 := g1.same S2
    obtain ⟨a1, a2, a3⟩ := bent_go hd hpl hta hk g2
    refine ⟨ta, t0, ks, rfl, rfl, a2, a3, hok, h2, ?_⟩
    walk_at "rr"
    refine ite2 (fun c0 => ?_) (fun c0 => ?_)
    · walk_at "rr"
      refine ⟨_, ks.length, rfl, .inr ⟨_, SqT.of a2, by rw [rk_len]⟩, ?_⟩
      have hne : 0 < ks.length := by
        cases ks with
        | nil => cases c0
        | cons _ _ => exact Nat.succ_pos _
      refine roll_go g2.dice (by omega) (by omega) fun wat H3 q0 q1 g3' => ?_
      have g3 := g2.trans g3'
      walk_at "rr"
      refine ⟨rfl, _, rfl, ?_⟩
      refine ite2 (fun c1 => ?_) (fun c1 => ?_)
      · obtain ⟨b1, b2, b3⟩ := bent_go hd hpl hta hk g3
        walk_at "rr"
        refine ⟨_, ss.length, rfl, .inr ⟨_, SqT.of b1.1, by rw [List.length_map]⟩, ?_⟩
        walk_at "rr"
        refine ite2 (fun c2 => ?_) (fun c2 => ?_)
        · have c2 : (1 : Int) < ss.length := of_decide_eq_true c2
          walk_at "rr"
          refine ⟨pa, _, rfl, SqT.of b1.1, fun p hp => ?_⟩
          rw [← List.map_reverse]
          obtain ⟨H4, e4, S4, h4⟩ := mk_new (.tup (ss.reverse.map V.str)) hp
          rw [e4]
          walk_at "rr"
          refine bent_fin k (g3.same S4) (vd_strs h4 (by rw [List.length_reverse]; omega) fun s hs => name_len (hnm s (List.mem_reverse.mp hs))) (deep_ties (S4 _ _ b2) (b3.same S4) (by omega) hlen) (nw_p h4 fun as _ _ => ?_)
          have := asc_rev hpl.2.1 as
          omega
        · walk_at "rr"
          refine ⟨Nat.zero_le _, fun p hp => ?_⟩
          obtain ⟨H4, e4, S4, h4⟩ := mk_new (.tup []) hp
          rw [e4]
          walk_at "rr"
          exact bent_fin k (g3.same S4) (vd_strs (rs := []) h4 (Nat.zero_le _) fun s hs => nomatch hs) (deep_ties (S4 _ _ b2) (b3.same S4) (by omega) hlen) (nw_p (rs := []) h4 fun _ _ h => absurd h (by decide))
      walk_at "rr"
      refine ⟨rfl, _, rfl, ?_⟩
      refine ite2 (fun c2 => ?_) (fun c2 => ?_)
      · obtain ⟨b1, b2, b3⟩ := bent_go hd hpl hta hk g3
        walk_at "rr"
        refine ⟨show (1 : Nat) ≤ sizeLine by decide, fun p hp => ?_⟩
        obtain ⟨H4, e4, S4, h4⟩ := mk_new (.tup [.str "Z"]) hp
        rw [e4]
        walk_at "rr"
        refine ⟨pa, p, _, _, rfl, rfl, S4 _ _ b1.1, h4, by rw [List.length_map]; show ss.length + 1 ≤ sizeLine; omega, fun q H5 S5 h5 => ?_⟩
        have h5 : H5 q = some (.tup ((ss ++ (["Z"] : List Str)).map V.str)) := by rw [h5, List.map_append]; rfl
        have S := S4.trans S5
        walk_at "rr"
        refine bent_fin k (g3.same S) (vd_strs h5 (by rw [List.length_append]; exact (by omega : ss.length + 1 ≤ 1000)) fun s hs => ?_) (deep_ties (S _ _ b2) (b3.same S) (by omega) hlen) (nw_p h5 fun _ hn _ => ?_)
        · rcases List.mem_append.mp hs with hs | hs
          · exact name_len (hnm s hs)
          · rw [List.mem_singleton.mp hs]
            decide
        · have := hn "Z" (List.mem_append_right _ List.mem_cons_self)
          revert this
          decide +kernel
      walk_at "rr"
      refine ⟨rfl, _, rfl, ?_⟩
      refine ite2 (fun c3 => ?_) (fun c3 => ?_)
      · obtain ⟨b1, b2, b3⟩ := bent_go hd hpl hta hk g3
        walk_at "rr"
        refine ⟨pa, _, rfl, .inr (SqT.of b1.1), fun p hp => ?_⟩
        obtain ⟨H4, e4, S4, h4⟩ := mk_new (.lst (ss.map V.str)) hp
        rw [e4]
        walk_at "rr"
        exact bent_fin k (g3.same S4) (vd_lst h4) (deep_ties (S4 _ _ b2) (b3.same S4) (by omega) hlen) (nw_v fun a xs e ha _ => by cases e; rw [h4] at ha; cases ha)
      walk_at "rr"
      refine ⟨rfl, _, rfl, ?_⟩
      refine ite2 (fun c4 => ?_) (fun c4 => ?_)
      · obtain ⟨b1, b2, b3⟩ := bent_go hd hpl hta hk g3
        walk_at "rr"
        refine ⟨ta, _, rfl, .inr (SqT.of b2), fun p hp => ?_⟩
        obtain ⟨H4, e4, S4, h4⟩ := mk_new (.lst (rk ks)) hp
        rw [e4]
        walk_at "rr"
        exact bent_fin k (g3.same S4) (b1.same S4).vd (deep_lst h4) (nw_t (b1.same S4) fun ⟨a, ks', e, h1, _⟩ => by cases e; rw [h4] at h1; cases h1)
      walk_at "rr"
      refine ⟨rfl, _, rfl, ?_⟩
      refine ite2 (fun c5 => ?_) (fun c5 => ?_)
      · obtain ⟨b1, b2, b3⟩ := bent_go hd hpl hta hk g3
        walk_at "rr"
        refine ⟨show (2 : Nat) ≤ sizeLine by decide, fun p1 hp1 => ?_⟩
        obtain ⟨H4, e4, S4, h4⟩ := mk_new (.tup [.str "a", .str "a"]) hp1
        rw [e4]
        walk_at "rr"
        refine ⟨show (2 : Nat) ≤ sizeLine by decide, fun p2 hp2 => ?_⟩
        obtain ⟨H5, e5, S5, h5⟩ := mk_new (.tup [.str "zzz", .str "zzzz"]) hp2
        rw [e5]
        walk_at "rr"
        refine ⟨show (1 : Nat) ≤ sizeLine by decide, fun p3 hp3 => ?_⟩
        obtain ⟨H6, e6, S6, h6⟩ := mk_new (.tup [.str "a"]) hp3
        rw [e6]
        walk_at "rr"
        refine ⟨show (2 : Nat) ≤ sizeLine by decide, fun p4 hp4 => ?_⟩
        obtain ⟨H7, e7, S7, h7⟩ := mk_new (.lst [.str "a", .str "b"]) hp4
        rw [e7]
        walk_at "rr"
        refine ⟨show (2 : Nat) ≤ sizeLine by decide, fun p5 hp5 => ?_⟩
        obtain ⟨H8, e8, S8, h8⟩ := mk_new (.tup [.str "b", .str "a"]) hp5
        rw [e8]
        walk_at "rr"
        refine ⟨show (7 : Nat) ≤ sizeLine by decide, fun l hl => ?_⟩
        have g4 := g3.same S4
        have g5 := g4.same S5
        have g6 := g5.same S6
        have g7 := g6.same S7
        have g8 := g7.same S8
        refine pick_new g8.dice hl (by simp) (show (7 : Nat) ≤ 1000 by decide) fun y H9 hy g9 => ?_
        have hb : BadTie H9 ss y := by
          simp only [List.mem_cons, List.not_mem_nil, or_false] at hy
          rcases hy with rfl | rfl | rfl | rfl | rfl | rfl | rfl
          · exact bad_two (g9.keep _ _ (g3.at_ne hp1) ((((S5.trans S6).trans S7).trans S8) _ _ h4)) (by decide) (by decide) fun h _ => absurd h (by decide +kernel)
          · exact bad_two (g9.keep _ _ (g4.at_ne hp2) (((S6.trans S7).trans S8) _ _ h5)) (by decide) (by decide) fun _ h => absurd (h16 _ h) (by decide +kernel)
          · exact ⟨vd_flat (.str "ab" (by decide)) (fun _ _ e => nomatch e), fun _ _ _ e => nomatch e⟩
          · exact ⟨vd_flat .non (fun _ _ e => nomatch e), fun _ _ _ e => nomatch e⟩
          · exact bad_one (g9.keep _ _ (g5.at_ne hp3) ((S7.trans S8) _ _ h6)) (by decide)
          · exact bad_lst (g9.keep _ _ (g6.at_ne hp4) (S8 _ _ h7))
          · exact bad_two (g9.keep _ _ (g7.at_ne hp5) h8) (by decide) (by decide) fun h _ => absurd h (by decide +kernel)
        have g10 := g8.trans g9
        obtain ⟨b1, b2, b3⟩ := bent_go hd hpl hta hk g10
        walk_at "rr"
        refine ⟨show (1 : Nat) ≤ sizeLine by decide, fun p6 hp6 => ?_⟩
        obtain ⟨H10, e10, S10, h10⟩ := mk_new (.tup [y]) hp6
        rw [e10]
        walk_at "rr"
        refine ⟨ta, p6, _, _, rfl, rfl, S10 _ _ b2, h10, by rw [rk_len]; exact (by omega : ks.length + 1 ≤ sizeLine), fun q H11 S11 h11 => ?_⟩
        have S := S10.trans S11
        walk_at "rr"
        have hb2 := hb.same S
        exact bent_fin k (g10.same S) (b1.same S).vd (deep_more h11 (b3.same S) (by omega) hlen hb2.vd) (nw_t (b1.same S) (ties_more h11 hb2.no))
      walk_at "rr"
      refine ⟨rfl, _, rfl, ?_⟩
      refine ite2 (fun c6 => ?_) (fun c6 => ?_)
      · walk_at "rr"
        refine ⟨Nat.zero_le _, fun p1 hp1 => ?_⟩
        obtain ⟨H4, e4, S4, h4⟩ := mk_new (.tup []) hp1
        rw [e4]
        have g4 := g3.same S4
        obtain ⟨b1, b2, b3⟩ := bent_go hd hpl hta hk g4
        refine ⟨ta, p1, ks, rfl, rfl, b2, b3, hok, h4, ?_⟩
        walk_at "rr"
        refine ite2 (fun c7 => ?_) (fun c7 => ?_)
        · first
            | exact absurd c7 c0
            | (
               obtain ⟨i, rfl⟩ : ∃ i : Nat, wat = i := ⟨wat.toNat, by omega⟩
               have hi : i < ks.length := by omega
               walk_at "rr"
               refine ⟨ta, _, rfl, b2, fun q1 H5 S5 h5 => ?_⟩
               walk_at "rr"
               refine ⟨ta, _, rfl, S5 _ _ b2, fun q2 H6 S6 h6 => ?_⟩
               walk_at "rr"
               have l1 := cutV_length (rk ks) none (some (i : Int))
               have l2 := cutV_length (rk ks) (some (i : Int)) (some ((i : Int) + 1))
               have l3 := cutV_length (rk ks) (some (i : Int)) none
               rw [rk_len] at l1 l2 l3
               refine ⟨q1, q2, _, _, rfl, rfl, S6 _ _ h5, h6, by omega, fun q3 H7 S7 h7 => ?_⟩
               walk_at "rr"
               refine ⟨ta, _, rfl, S7 _ _ (S6 _ _ (S5 _ _ b2)), fun q4 H8 S8 h8 => ?_⟩
               refine ⟨q3, q4, _, _, rfl, rfl, S8 _ _ h7, h8, by rw [List.length_append]; omega, fun q5 H9 S9 h9 => ?_⟩
               have S := ((((S5.trans S6).trans S7).trans S8).trans S9)
               obtain ⟨k0, hk0⟩ : ∃ k0, ks[i]? = some k0 := ⟨_, List.getElem?_eq_getElem hi⟩
               rw [rk_dup hk0] at h9
               have hsub : ∀ z ∈ ks.take i ++ ([k0] ++ ks.drop i), z ∈ ks := fun z hz => by
                 rcases List.mem_append.mp hz with hz | hz
                 · exact List.mem_of_mem_take hz
                 · rcases List.mem_append.mp hz with hz | hz
                   · rw [List.mem_singleton.mp hz]
                     exact List.mem_of_getElem? hk0
                   · exact List.mem_of_mem_drop hz
               have hk9 : TK H9 (ks.take i ++ ([k0] ++ ks.drop i)) := fun z hz => S _ _ (b3 z (hsub z hz))
               walk_at "rr"
               refine bent_fin k (g4.same S) (b1.same S).vd (deep_ties h9 hk9 (by rw [List.length_append, List.length_append, List.length_take, List.length_drop]; show min i ks.length + (1 + (ks.length - i)) ≤ 900; omega) fun z hz => hlen z (hsub z hz)) (nw_t (b1.same S) fun h => ?_)
               have nd := Asc.nodup (ties_at h9 hk9 h)
               rw [List.map_append, List.map_append, List.map_take, List.map_drop] at nd
               exact dup_not (x := k0.2) (by rw [List.getElem?_map, hk0]; rfl) nd)
        · first
            | exact absurd c0 c7
            | (have hwy : wy = 5 := V.int.inj (of_decide_eq_true c6)
               have gL := g4
               walk_at "rr"
               refine ⟨rfl, _, rfl, ?_⟩
               refine ifF (by rw [hwy]; rfl) ?_
               walk_at "rr"
               refine ⟨rfl, _, rfl, ?_⟩
               refine ifF (by rw [hwy]; rfl) ?_
               walk_at "rr"
               refine fun e0 he0 => ?_
               obtain ⟨HE, eE, SE, hE⟩ := mk_new (.dK []) he0
               rw [eE]
               walk_at "rr"
               refine ⟨Nat.zero_le _, fun tE htE => ?_⟩
               obtain ⟨HF, eF, SF, hF⟩ := mk_new (.tup []) htE
               rw [eF]
               walk_at "rr"
               refine ⟨show (5 : Nat) ≤ sizeLine by decide, fun lF hlF => ?_⟩
               have gF := (gL.same SE).same SF
               have gE := gL.same SE
               have nE : e0 ≠ d := gL.at_ne he0
               refine pick_new gF.dice hlF (by simp) (show (5 : Nat) ≤ 1000 by decide) fun y HG hy gG => ?_
               have gAll := gF.trans gG
               obtain ⟨b1, b2, b3⟩ := bent_go hd hpl hta hk gAll
               have hyv : VdT HG y ∧ ∀ a xs, y = .ref a → HG a = some (.tup xs) → xs ≠ [] → False := by
                 simp only [List.mem_cons, List.not_mem_nil, or_false] at hy
                 rcases hy with rfl | rfl | rfl | rfl | rfl
                 · exact ⟨vd_flat .non (fun _ _ e => nomatch e), fun _ _ e => nomatch e⟩
                 · exact ⟨vd_flat (.int 0) (fun _ _ e => nomatch e), fun _ _ e => nomatch e⟩
                 · exact ⟨vd_flat (.str "a" (by decide)) (fun _ _ e => nomatch e), fun _ _ e => nomatch e⟩
                 · have h := gG.keep _ _ nE (SF _ _ hE)
                   refine ⟨vd_flat (.dK h) (fun a xs e ha => ?_), fun a xs e ha => ?_⟩
                   · cases e
                     rw [h] at ha
                     cases ha
                   · cases e
                     rw [h] at ha
                     cases ha
                 · have h := gG.keep _ _ ((gL.same SE).at_ne htE) hF
                   refine ⟨⟨⟨_, .tup h⟩, fun a xs e ha => ?_⟩, fun a xs e ha hne => ?_⟩
                   · cases e
                     rw [h] at ha
                     cases ha
                     exact ⟨Nat.zero_le _, fun _ h => nomatch h⟩
                   · cases e
                     rw [h] at ha
                     cases ha
                     exact hne rfl
               walk_at "rr"
               exact bent_fin k gAll hyv.1 (deep_ties b2 b3 (by omega) hlen) (nw_v hyv.2))
      walk_at "rr"
      refine ⟨rfl, _, rfl, ?_⟩
      refine ite2 (fun c7 => ?_) (fun c7 => ?_)
      · walk_at "rr"
        obtain ⟨b1, b2, b3⟩ := bent_go hd hpl hta hk g3
        refine ⟨_, ks.length, rfl, .inr ⟨_, SqT.of b2, by rw [rk_len]⟩, ?_⟩
        walk_at "rr"
        refine ite2 (fun c8 => ?_) (fun c8 => ?_)
        · have c8 : (1 : Int) < ks.length := of_decide_eq_true c8
          walk_at "rr"
          refine ⟨ta, _, rfl, SqT.of b2, fun p hp => ?_⟩
          rw [rk_rev]
          obtain ⟨H4, e4, S4, h4⟩ := mk_new (.tup (rk ks.reverse)) hp
          rw [e4]
          walk_at "rr"
          have hk4 : TK H4 ks.reverse := fun z hz => S4 _ _ (b3 z (List.mem_reverse.mp hz))
          refine bent_fin k (g3.same S4) (b1.same S4).vd (deep_ties h4 hk4 (by rw [List.length_reverse]; omega) fun z hz => hlen z (List.mem_reverse.mp hz)) (nw_t (b1.same S4) fun h => ?_)
          have a1 := ties_at h4 hk4 h
          rw [List.map_reverse] at a1
          have := ascT_rev hw.at_ a1
          rw [List.length_map] at this
          omega
        · have hwy : wy = 6 := V.int.inj (of_decide_eq_true c7)
          have gL := g3
          walk_at "rr"
          refine ⟨rfl, _, rfl, ?_⟩
          refine ifF (by rw [hwy]; rfl) ?_
          walk_at "rr"
          refine fun e0 he0 => ?_
          obtain ⟨HE, eE, SE, hE⟩ := mk_new (.dK []) he0
          rw [eE]
          walk_at "rr"
          refine ⟨Nat.zero_le _, fun tE htE => ?_⟩
          obtain ⟨HF, eF, SF, hF⟩ := mk_new (.tup []) htE
          rw [eF]
          walk_at "rr"
          refine ⟨show (5 : Nat) ≤ sizeLine by decide, fun lF hlF => ?_⟩
          have gF := (gL.same SE).same SF
          have gE := gL.same SE
          have nE : e0 ≠ d := gL.at_ne he0
          refine pick_new gF.dice hlF (by simp) (show (5 : Nat) ≤ 1000 by decide) fun y HG hy gG => ?_
          have gAll := gF.trans gG
          obtain ⟨b1, b2, b3⟩ := bent_go hd hpl hta hk gAll
          have hyv : VdT HG y ∧ ∀ a xs, y = .ref a → HG a = some (.tup xs) → xs ≠ [] → False := by
            simp only [List.mem_cons, List.not_mem_nil, or_false] at hy
            rcases hy with rfl | rfl | rfl | rfl | rfl
            · exact ⟨vd_flat .non (fun _ _ e => nomatch e), fun _ _ e => nomatch e⟩
            · exact ⟨vd_flat (.int 0) (fun _ _ e => nomatch e), fun _ _ e => nomatch e⟩
            · exact ⟨vd_flat (.str "a" (by decide)) (fun _ _ e => nomatch e), fun _ _ e => nomatch e⟩
            · have h := gG.keep _ _ nE (SF _ _ hE)
              refine ⟨vd_flat (.dK h) (fun a xs e ha => ?_), fun a xs e ha => ?_⟩
              · cases e
                rw [h] at ha
                cases ha
              · cases e
                rw [h] at ha
                cases ha
            · have h := gG.keep _ _ ((gL.same SE).at_ne htE) hF
              refine ⟨⟨⟨_, .tup h⟩, fun a xs e ha => ?_⟩, fun a xs e ha hne => ?_⟩
              · cases e
                rw [h] at ha
                cases ha
                exact ⟨Nat.zero_le _, fun _ h => nomatch h⟩
              · cases e
                rw [h] at ha
                cases ha
                exact hne rfl
          walk_at "rr"
          exact bent_fin k gAll hyv.1 (deep_ties b2 b3 (by omega) hlen) (nw_v hyv.2)
      walk_at "rr"
      refine ⟨rfl, _, rfl, ?_⟩
      refine ite2 (fun c8 => ?_) (fun c8 => ?_)
      · walk_at "rr"
        refine ⟨Nat.zero_le _, fun p1 hp1 => ?_⟩
        obtain ⟨H4, e4, S4, h4⟩ := mk_new (.tup []) hp1
        rw [e4]
        have g4 := g3.same S4
        obtain ⟨b1, b2, b3⟩ := bent_go hd hpl hta hk g4
        refine ⟨ta, p1, ks, rfl, rfl, b2, b3, hok, h4, ?_⟩
        walk_at "rr"
        refine ite2 (fun c9 => ?_) (fun c9 => ?_)
        · have hsn : ss ≠ [] := fun e => by rw [e] at hl1; exact absurd hl1 (by decide)
          have hl0 : 0 < ss.length := hl1
          walk_at "rr"
          refine ⟨pa, _, rfl, b1.1, fun q1 H5 S5 h5 => ?_⟩
          have e1 : cutV (ss.map V.str) (some 1) none = (ss.drop 1).map V.str := by
            rw [show (1 : Int) = ((1 : Nat) : Int) from rfl, cut_from, List.map_drop]
          rw [e1] at h5
          walk_at "rr"
          refine ⟨pa, _, _, _, rfl, rfl, SqT.of (S5 _ _ b1.1), atI_nat (at_str hl0), ?_⟩
          walk_at "rr"
          refine ⟨pa, _, _, _, rfl, rfl, SqT.of (S5 _ _ b1.1), at_last hsn, ?_⟩
          have hml := List.getLast_mem hsn
          have h8 := name_len8 (hnm _ hml)
          walk_at "rr"
          refine ⟨(by have : (Str.ofString "z").length = 1 := rfl; omega), ?_⟩
          walk_at "rr"
          refine ⟨show (2 : Nat) ≤ sizeLine by decide, fun p2 hp2 => ?_⟩
          obtain ⟨H6, e6, S6, h6⟩ := mk_new (.tup [.str (ss.getD 0 ""), .str (ss.getLast hsn ++ "z")]) hp2
          rw [e6]
          walk_at "rr"
          refine ⟨show (1 : Nat) ≤ sizeLine by decide, fun p3 hp3 => ?_⟩
          obtain ⟨H7, e7, S7, h7⟩ := mk_new (.tup [.ref p2]) hp3
          rw [e7]
          walk_at "rr"
          have S57 := (S5.trans S6).trans S7
          refine ⟨ta, p3, _, _, rfl, rfl, S57 _ _ b2, h7, by rw [rk_len]; exact (by omega : ks.length + 1 ≤ sizeLine), fun q2 H8 S8 h8x => ?_⟩
          have S := S57.trans S8
          have h5' := S8 _ _ (S7 _ _ (S6 _ _ h5))
          have h6' := S8 _ _ (S7 _ _ h6)
          have hm0 : ss.getD 0 "" ∈ ss := by
            rw [List.getD_eq_getElem?_getD, List.getElem?_eq_getElem hl0]
            exact List.getElem_mem _
          walk_at "rr"
          refine bent_fin k (g4.same S) (vd_strs h5' (by rw [List.length_drop]; omega) fun s hs => name_len (hnm s (List.mem_of_mem_drop hs))) (deep_more h8x (b3.same S) (by omega) hlen (vd_strs (rs := [ss.getD 0 "", ss.getLast hsn ++ "z"]) h6' (by decide : 2 ≤ 1000) fun s hs => ?_)) ?_
          · rcases List.mem_cons.mp hs with rfl | hs
            · exact name_len (hnm _ hm0)
            · rw [List.mem_singleton.mp hs, app_len]
              have : (Str.ofString "z").length = 1 := rfl
              show _ + (Str.ofString "z").length ≤ 1000
              omega
          · rintro ⟨pa', ss', e, hpl', ht⟩
            cases e
            have e := hpl'.at_eq h5'
            subst e
            refine ties_more h8x (fun a x y e ha _ hx _ => ?_) ht
            cases e
            rw [h6'] at ha
            have e := HO.tup.inj (Option.some.inj ha)
            have e : V.str (ss.getD 0 "") = V.str x := (List.cons.inj e).1
            have e := V.str.inj e
            subst e
            have nd := hpl.2.1.nodup
            rw [← List.take_append_drop 1 ss] at nd
            refine (List.nodup_append.mp nd).2.2 _ ?_ _ hx rfl
            rw [List.take_one, List.getD_eq_getElem?_getD, ← List.head?_eq_getElem?]
            cases hh : ss.head? with
            | none => rw [List.head?_eq_none_iff] at hh; exact absurd hh hsn
            | some a => exact List.mem_cons_self
        · have hwy : wy = 7 := V.int.inj (of_decide_eq_true c8)
          have gL := g4
          walk_at "rr"
          walk_at "rr"
          refine fun e0 he0 => ?_
          obtain ⟨HE, eE, SE, hE⟩ := mk_new (.dK []) he0
          rw [eE]
          walk_at "rr"
          refine ⟨Nat.zero_le _, fun tE htE => ?_⟩
          obtain ⟨HF, eF, SF, hF⟩ := mk_new (.tup []) htE
          rw [eF]
          walk_at "rr"
          refine ⟨show (5 : Nat) ≤ sizeLine by decide, fun lF hlF => ?_⟩
          have gF := (gL.same SE).same SF
          have gE := gL.same SE
          have nE : e0 ≠ d := gL.at_ne he0
          refine pick_new gF.dice hlF (by simp) (show (5 : Nat) ≤ 1000 by decide) fun y HG hy gG => ?_
          have gAll := gF.trans gG
          obtain ⟨b1, b2, b3⟩ := bent_go hd hpl hta hk gAll
          have hyv : VdT HG y ∧ ∀ a xs, y = .ref a → HG a = some (.tup xs) → xs ≠ [] → False := by
            simp only [List.mem_cons, List.not_mem_nil, or_false] at hy
            rcases hy with rfl | rfl | rfl | rfl | rfl
            · exact ⟨vd_flat .non (fun _ _ e => nomatch e), fun _ _ e => nomatch e⟩
            · exact ⟨vd_flat (.int 0) (fun _ _ e => nomatch e), fun _ _ e => nomatch e⟩
            · exact ⟨vd_flat (.str "a" (by decide)) (fun _ _ e => nomatch e), fun _ _ e => nomatch e⟩
            · have h := gG.keep _ _ nE (SF _ _ hE)
              refine ⟨vd_flat (.dK h) (fun a xs e ha => ?_), fun a xs e ha => ?_⟩
              · cases e
                rw [h] at ha
                cases ha
              · cases e
                rw [h] at ha
                cases ha
            · have h := gG.keep _ _ ((gL.same SE).at_ne htE) hF
              refine ⟨⟨⟨_, .tup h⟩, fun a xs e ha => ?_⟩, fun a xs e ha hne => ?_⟩
              · cases e
                rw [h] at ha
                cases ha
                exact ⟨Nat.zero_le _, fun _ h => nomatch h⟩
              · cases e
                rw [h] at ha
                cases ha
                exact hne rfl
          walk_at "rr"
          exact bent_fin k gAll hyv.1 (deep_ties b2 b3 (by omega) hlen) (nw_v hyv.2)
      have gL := g3
      walk_at "rr"
      refine fun e0 he0 => ?_
      obtain ⟨HE, eE, SE, hE⟩ := mk_new (.dK []) he0
      rw [eE]
      walk_at "rr"
      refine ⟨Nat.zero_le _, fun tE htE => ?_⟩
      obtain ⟨HF, eF, SF, hF⟩ := mk_new (.tup []) htE
      rw [eF]
      walk_at "rr"
      refine ⟨show (5 : Nat) ≤ sizeLine by decide, fun lF hlF => ?_⟩
      have gF := (gL.same SE).same SF
      have gE := gL.same SE
      have nE : e0 ≠ d := gL.at_ne he0
      refine pick_new gF.dice hlF (by simp) (show (5 : Nat) ≤ 1000 by decide) fun y HG hy gG => ?_
      have gAll := gF.trans gG
      obtain ⟨b1, b2, b3⟩ := bent_go hd hpl hta hk gAll
      have hyv : VdT HG y ∧ ∀ a xs, y = .ref a → HG a = some (.tup xs) → xs ≠ [] → False := by
        simp only [List.mem_cons, List.not_mem_nil, or_false] at hy
        rcases hy with rfl | rfl | rfl | rfl | rfl
        · exact ⟨vd_flat .non (fun _ _ e => nomatch e), fun _ _ e => nomatch e⟩
        · exact ⟨vd_flat (.int 0) (fun _ _ e => nomatch e), fun _ _ e => nomatch e⟩
        · exact ⟨vd_flat (.str "a" (by decide)) (fun _ _ e => nomatch e), fun _ _ e => nomatch e⟩
        · have h := gG.keep _ _ nE (SF _ _ hE)
          refine ⟨vd_flat (.dK h) (fun a xs e ha => ?_), fun a xs e ha => ?_⟩
          · cases e
            rw [h] at ha
            cases ha
          · cases e
            rw [h] at ha
            cases ha
        · have h := gG.keep _ _ ((gL.same SE).at_ne htE) hF
          refine ⟨⟨⟨_, .tup h⟩, fun a xs e ha => ?_⟩, fun a xs e ha hne => ?_⟩
          · cases e
            rw [h] at ha
            cases ha
            exact ⟨Nat.zero_le _, fun _ h => nomatch h⟩
          · cases e
            rw [h] at ha
            cases ha
            exact hne rfl
      walk_at "rr"
      exact bent_fin k gAll hyv.1 (deep_ties b2 b3 (by omega) hlen) (nw_v hyv.2)
    · have g3 := g2
      walk_at "rr"
      walk_at "rr"
      refine ⟨rfl, _, rfl, ?_⟩
      refine ite2 (fun c1 => ?_) (fun c1 => ?_)
      · obtain ⟨b1, b2, b3⟩ := bent_go hd hpl hta hk g3
        walk_at "rr"
        refine ⟨_, ss.length, rfl, .inr ⟨_, SqT.of b1.1, by rw [List.length_map]⟩, ?_⟩
        walk_at "rr"
        refine ite2 (fun c2 => ?_) (fun c2 => ?_)
        · have c2 : (1 : Int) < ss.length := of_decide_eq_true c2
          walk_at "rr"
          refine ⟨pa, _, rfl, SqT.of b1.1, fun p hp => ?_⟩
          rw [← List.map_reverse]
          obtain ⟨H4, e4, S4, h4⟩ := mk_new (.tup (ss.reverse.map V.str)) hp
          rw [e4]
          walk_at "rr"
          refine bent_fin k (g3.same S4) (vd_strs h4 (by rw [List.length_reverse]; omega) fun s hs => name_len (hnm s (List.mem_reverse.mp hs))) (deep_ties (S4 _ _ b2) (b3.same S4) (by omega) hlen) (nw_p h4 fun as _ _ => ?_)
          have := asc_rev hpl.2.1 as
          omega
        · walk_at "rr"
          refine ⟨Nat.zero_le _, fun p hp => ?_⟩
          obtain ⟨H4, e4, S4, h4⟩ := mk_new (.tup []) hp
          rw [e4]
          walk_at "rr"
          exact bent_fin k (g3.same S4) (vd_strs (rs := []) h4 (Nat.zero_le _) fun s hs => nomatch hs) (deep_ties (S4 _ _ b2) (b3.same S4) (by omega) hlen) (nw_p (rs := []) h4 fun _ _ h => absurd h (by decide))
      walk_at "rr"
      refine ⟨rfl, _, rfl, ?_⟩
      refine ite2 (fun c2 => ?_) (fun c2 => ?_)
      · obtain ⟨b1, b2, b3⟩ := bent_go hd hpl hta hk g3
        walk_at "rr"
        refine ⟨show (1 : Nat) ≤ sizeLine by decide, fun p hp => ?_⟩
        obtain ⟨H4, e4, S4, h4⟩ := mk_new (.tup [.str "Z"]) hp
        rw [e4]
        walk_at "rr"
        refine ⟨pa, p, _, _, rfl, rfl, S4 _ _ b1.1, h4, by rw [List.length_map]; show ss.length + 1 ≤ sizeLine; omega, fun q H5 S5 h5 => ?_⟩
        have h5 : H5 q = some (.tup ((ss ++ (["Z"] : List Str)).map V.str)) := by rw [h5, List.map_append]; rfl
        have S := S4.trans S5
        walk_at "rr"
        refine bent_fin k (g3.same S) (vd_strs h5 (by rw [List.length_append]; exact (by omega : ss.length + 1 ≤ 1000)) fun s hs => ?_) (deep_ties (S _ _ b2) (b3.same S) (by omega) hlen) (nw_p h5 fun _ hn _ => ?_)
        · rcases List.mem_append.mp hs with hs | hs
          · exact name_len (hnm s hs)
          · rw [List.mem_singleton.mp hs]
            decide
        · have := hn "Z" (List.mem_append_right _ List.mem_cons_self)
          revert this
          decide +kernel
      walk_at "rr"
      refine ⟨rfl, _, rfl, ?_⟩
      refine ite2 (fun c3 => ?_) (fun c3 => ?_)
      · obtain ⟨b1, b2, b3⟩ := bent_go hd hpl hta hk g3
        walk_at "rr"
        refine ⟨pa, _, rfl, .inr (SqT.of b1.1), fun p hp => ?_⟩
        obtain ⟨H4, e4, S4, h4⟩ := mk_new (.lst (ss.map V.str)) hp
        rw [e4]
        walk_at "rr"
        exact bent_fin k (g3.same S4) (vd_lst h4) (deep_ties (S4 _ _ b2) (b3.same S4) (by omega) hlen) (nw_v fun a xs e ha _ => by cases e; rw [h4] at ha; cases ha)
      walk_at "rr"
      refine ⟨rfl, _, rfl, ?_⟩
      refine ite2 (fun c4 => ?_) (fun c4 => ?_)
      · obtain ⟨b1, b2, b3⟩ := bent_go hd hpl hta hk g3
        walk_at "rr"
        refine ⟨ta, _, rfl, .inr (SqT.of b2), fun p hp => ?_⟩
        obtain ⟨H4, e4, S4, h4⟩ := mk_new (.lst (rk ks)) hp
        rw [e4]
        walk_at "rr"
        exact bent_fin k (g3.same S4) (b1.same S4).vd (deep_lst h4) (nw_t (b1.same S4) fun ⟨a, ks', e, h1, _⟩ => by cases e; rw [h4] at h1; cases h1)
      walk_at "rr"
      refine ⟨rfl, _, rfl, ?_⟩
      refine ite2 (fun c5 => ?_) (fun c5 => ?_)
      · obtain ⟨b1, b2, b3⟩ := bent_go hd hpl hta hk g3
        walk_at "rr"
        refine ⟨show (2 : Nat) ≤ sizeLine by decide, fun p1 hp1 => ?_⟩
        obtain ⟨H4, e4, S4, h4⟩ := mk_new (.tup [.str "a", .str "a"]) hp1
        rw [e4]
        walk_at "rr"
        refine ⟨show (2 : Nat) ≤ sizeLine by decide, fun p2 hp2 => ?_⟩
        obtain ⟨H5, e5, S5, h5⟩ := mk_new (.tup [.str "zzz", .str "zzzz"]) hp2
        rw [e5]
        walk_at "rr"
        refine ⟨show (1 : Nat) ≤ sizeLine by decide, fun p3 hp3 => ?_⟩
        obtain ⟨H6, e6, S6, h6⟩ := mk_new (.tup [.str "a"]) hp3
        rw [e6]
        walk_at "rr"
        refine ⟨show (2 : Nat) ≤ sizeLine by decide, fun p4 hp4 => ?_⟩
        obtain ⟨H7, e7, S7, h7⟩ := mk_new (.lst [.str "a", .str "b"]) hp4
        rw [e7]
        walk_at "rr"
        refine ⟨show (2 : Nat) ≤ sizeLine by decide, fun p5 hp5 => ?_⟩
        obtain ⟨H8, e8, S8, h8⟩ := mk_new (.tup [.str "b", .str "a"]) hp5
        rw [e8]
        walk_at "rr"
        refine ⟨show (7 : Nat) ≤ sizeLine by decide, fun l hl => ?_⟩
        have g4 := g3.same S4
        have g5 := g4.same S5
        have g6 := g5.same S6
        have g7 := g6.same S7
        have g8 := g7.same S8
        refine pick_new g8.dice hl (by simp) (show (7 : Nat) ≤ 1000 by decide) fun y H9 hy g9 => ?_
        have hb : BadTie H9 ss y := by
          simp only [List.mem_cons, List.not_mem_nil, or_false] at hy
          rcases hy with rfl | rfl | rfl | rfl | rfl | rfl | rfl
          · exact bad_two (g9.keep _ _ (g3.at_ne hp1) ((((S5.trans S6).trans S7).trans S8) _ _ h4)) (by decide) (by decide) fun h _ => absurd h (by decide +kernel)
          · exact bad_two (g9.keep _ _ (g4.at_ne hp2) (((S6.trans S7).trans S8) _ _ h5)) (by decide) (by decide) fun _ h => absurd (h16 _ h) (by decide +kernel)
          · exact ⟨vd_flat (.str "ab" (by decide)) (fun _ _ e => nomatch e), fun _ _ _ e => nomatch e⟩
          · exact ⟨vd_flat .non (fun _ _ e => nomatch e), fun _ _ _ e => nomatch e⟩
          · exact bad_one (g9.keep _ _ (g5.at_ne hp3) ((S7.trans S8) _ _ h6)) (by decide)
          · exact bad_lst (g9.keep _ _ (g6.at_ne hp4) (S8 _ _ h7))
          · exact bad_two (g9.keep _ _ (g7.at_ne hp5) h8) (by decide) (by decide) fun h _ => absurd h (by decide +kernel)
        have g10 := g8.trans g9
        obtain ⟨b1, b2, b3⟩ := bent_go hd hpl hta hk g10
        walk_at "rr"
        refine ⟨show (1 : Nat) ≤ sizeLine by decide, fun p6 hp6 => ?_⟩
        obtain ⟨H10, e10, S10, h10⟩ := mk_new (.tup [y]) hp6
        rw [e10]
        walk_at "rr"
        refine ⟨ta, p6, _, _, rfl, rfl, S10 _ _ b2, h10, by rw [rk_len]; exact (by omega : ks.length + 1 ≤ sizeLine), fun q H11 S11 h11 => ?_⟩
        have S := S10.trans S11
        walk_at "rr"
        have hb2 := hb.same S
        exact bent_fin k (g10.same S) (b1.same S).vd (deep_more h11 (b3.same S) (by omega) hlen hb2.vd) (nw_t (b1.same S) (ties_more h11 hb2.no))
      walk_at "rr"
      refine ⟨rfl, _, rfl, ?_⟩
      refine ite2 (fun c6 => ?_) (fun c6 => ?_)
      · walk_at "rr"
        refine ⟨Nat.zero_le _, fun p1 hp1 => ?_⟩
        obtain ⟨H4, e4, S4, h4⟩ := mk_new (.tup []) hp1
        rw [e4]
        have g4 := g3.same S4
        obtain ⟨b1, b2, b3⟩ := bent_go hd hpl hta hk g4
        refine ⟨ta, p1, ks, rfl, rfl, b2, b3, hok, h4, ?_⟩
        walk_at "rr"
        refine ite2 (fun c7 => ?_) (fun c7 => ?_)
        · first
            | exact absurd c7 c0
            | (
               obtain ⟨i, rfl⟩ : ∃ i : Nat, wat = i := ⟨wat.toNat, by omega⟩
               have hi : i < ks.length := by omega
               walk_at "rr"
               refine ⟨ta, _, rfl, b2, fun q1 H5 S5 h5 => ?_⟩
               walk_at "rr"
               refine ⟨ta, _, rfl, S5 _ _ b2, fun q2 H6 S6 h6 => ?_⟩
               walk_at "rr"
               have l1 := cutV_length (rk ks) none (some (i : Int))
               have l2 := cutV_length (rk ks) (some (i : Int)) (some ((i : Int) + 1))
               have l3 := cutV_length (rk ks) (some (i : Int)) none
               rw [rk_len] at l1 l2 l3
               refine ⟨q1, q2, _, _, rfl, rfl, S6 _ _ h5, h6, by omega, fun q3 H7 S7 h7 => ?_⟩
               walk_at "rr"
               refine ⟨ta, _, rfl, S7 _ _ (S6 _ _ (S5 _ _ b2)), fun q4 H8 S8 h8 => ?_⟩
               refine ⟨q3, q4, _, _, rfl, rfl, S8 _ _ h7, h8, by rw [List.length_append]; omega, fun q5 H9 S9 h9 => ?_⟩
               have S := ((((S5.trans S6).trans S7).trans S8).trans S9)
               obtain ⟨k0, hk0⟩ : ∃ k0, ks[i]? = some k0 := ⟨_, List.getElem?_eq_getElem hi⟩
               rw [rk_dup hk0] at h9
               have hsub : ∀ z ∈ ks.take i ++ ([k0] ++ ks.drop i), z ∈ ks := fun z hz => by
                 rcases List.mem_append.mp hz with hz | hz
                 · exact List.mem_of_mem_take hz
                 · rcases List.mem_append.mp hz with hz | hz
                   · rw [List.mem_singleton.mp hz]
                     exact List.mem_of_getElem? hk0
                   · exact List.mem_of_mem_drop hz
               have hk9 : TK H9 (ks.take i ++ ([k0] ++ ks.drop i)) := fun z hz => S _ _ (b3 z (hsub z hz))
               walk_at "rr"
               refine bent_fin k (g4.same S) (b1.same S).vd (deep_ties h9 hk9 (by rw [List.length_append, List.length_append, List.length_take, List.length_drop]; show min i ks.length + (1 + (ks.length - i)) ≤ 900; omega) fun z hz => hlen z (hsub z hz)) (nw_t (b1.same S) fun h => ?_)
               have nd := Asc.nodup (ties_at h9 hk9 h)
               rw [List.map_append, List.map_append, List.map_take, List.map_drop] at nd
               exact dup_not (x := k0.2) (by rw [List.getElem?_map, hk0]; rfl) nd)
        · first
            | exact absurd c0 c7
            | (have hwy : wy = 5 := V.int.inj (of_decide_eq_true c6)
               have gL := g4
               walk_at "rr"
               refine ⟨rfl, _, rfl, ?_⟩
               refine ifF (by rw [hwy]; rfl) ?_
               walk_at "rr"
               refine ⟨rfl, _, rfl, ?_⟩
               refine ifF (by rw [hwy]; rfl) ?_
               walk_at "rr"
               refine fun e0 he0 => ?_
               obtain ⟨HE, eE, SE, hE⟩ := mk_new (.dK []) he0
               rw [eE]
               walk_at "rr"
               refine ⟨Nat.zero_le _, fun tE htE => ?_⟩
               obtain ⟨HF, eF, SF, hF⟩ := mk_new (.tup []) htE
               rw [eF]
               walk_at "rr"
               refine ⟨show (5 : Nat) ≤ sizeLine by decide, fun lF hlF => ?_⟩
               have gF := (gL.same SE).same SF
               have gE := gL.same SE
               have nE : e0 ≠ d := gL.at_ne he0
               refine pick_new gF.dice hlF (by simp) (show (5 : Nat) ≤ 1000 by decide) fun y HG hy gG => ?_
               have gAll := gF.trans gG
               obtain ⟨b1, b2, b3⟩ := bent_go hd hpl hta hk gAll
               have hyv : VdT HG y ∧ ∀ a xs, y = .ref a → HG a = some (.tup xs) → xs ≠ [] → False := by
                 simp only [List.mem_cons, List.not_mem_nil, or_false] at hy
                 rcases hy with rfl | rfl | rfl | rfl | rfl
                 · exact ⟨vd_flat .non (fun _ _ e => nomatch e), fun _ _ e => nomatch e⟩
                 · exact ⟨vd_flat (.int 0) (fun _ _ e => nomatch e), fun _ _ e => nomatch e⟩
                 · exact ⟨vd_flat (.str "a" (by decide)) (fun _ _ e => nomatch e), fun _ _ e => nomatch e⟩
                 · have h := gG.keep _ _ nE (SF _ _ hE)
                   refine ⟨vd_flat (.dK h) (fun a xs e ha => ?_), fun a xs e ha => ?_⟩
                   · cases e
                     rw [h] at ha
                     cases ha
                   · cases e
                     rw [h] at ha
                     cases ha
                 · have h := gG.keep _ _ ((gL.same SE).at_ne htE) hF
                   refine ⟨⟨⟨_, .tup h⟩, fun a xs e ha => ?_⟩, fun a xs e ha hne => ?_⟩
                   · cases e
                     rw [h] at ha
                     cases ha
                     exact ⟨Nat.zero_le _, fun _ h => nomatch h⟩
                   · cases e
                     rw [h] at ha
                     cases ha
                     exact hne rfl
               walk_at "rr"
               exact bent_fin k gAll hyv.1 (deep_ties b2 b3 (by omega) hlen) (nw_v hyv.2))
      walk_at "rr"
      refine ⟨rfl, _, rfl, ?_⟩
      refine ite2 (fun c7 => ?_) (fun c7 => ?_)
      · walk_at "rr"
        obtain ⟨b1, b2, b3⟩ := bent_go hd hpl hta hk g3
        refine ⟨_, ks.length, rfl, .inr ⟨_, SqT.of b2, by rw [rk_len]⟩, ?_⟩
        walk_at "rr"
        refine ite2 (fun c8 => ?_) (fun c8 => ?_)
        · have c8 : (1 : Int) < ks.length := of_decide_eq_true c8
          walk_at "rr"
          refine ⟨ta, _, rfl, SqT.of b2, fun p hp => ?_⟩
          rw [rk_rev]
          obtain ⟨H4, e4, S4, h4⟩ := mk_new (.tup (rk ks.reverse)) hp
          rw [e4]
          walk_at "rr"
          have hk4 : TK H4 ks.reverse := fun z hz => S4 _ _ (b3 z (List.mem_reverse.mp hz))
          refine bent_fin k (g3.same S4) (b1.same S4).vd (deep_ties h4 hk4 (by rw [List.length_reverse]; omega) fun z hz => hlen z (List.mem_reverse.mp hz)) (nw_t (b1.same S4) fun h => ?_)
          have a1 := ties_at h4 hk4 h
          rw [List.map_reverse] at a1
          have := ascT_rev hw.at_ a1
          rw [List.length_map] at this
          omega
        · have hwy : wy = 6 := V.int.inj (of_decide_eq_true c7)
          have gL := g3
          walk_at "rr"
          refine ⟨rfl, _, rfl, ?_⟩
          refine ifF (by rw [hwy]; rfl) ?_
          walk_at "rr"
          refine fun e0 he0 => ?_
          obtain ⟨HE, eE, SE, hE⟩ := mk_new (.dK []) he0
          rw [eE]
          walk_at "rr"
          refine ⟨Nat.zero_le _, fun tE htE => ?_⟩
          obtain ⟨HF, eF, SF, hF⟩ := mk_new (.tup []) htE
          rw [eF]
          walk_at "rr"
          refine ⟨show (5 : Nat) ≤ sizeLine by decide, fun lF hlF => ?_⟩
          have gF := (gL.same SE).same SF
          have gE := gL.same SE
          have nE : e0 ≠ d := gL.at_ne he0
          refine pick_new gF.dice hlF (by simp) (show (5 : Nat) ≤ 1000 by decide) fun y HG hy gG => ?_
          have gAll := gF.trans gG
          obtain ⟨b1, b2, b3⟩ := bent_go hd hpl hta hk gAll
          have hyv : VdT HG y ∧ ∀ a xs, y = .ref a → HG a = some (.tup xs) → xs ≠ [] → False := by
            simp only [List.mem_cons, List.not_mem_nil, or_false] at hy
            rcases hy with rfl | rfl | rfl | rfl | rfl
            · exact ⟨vd_flat .non (fun _ _ e => nomatch e), fun _ _ e => nomatch e⟩
            · exact ⟨vd_flat (.int 0) (fun _ _ e => nomatch e), fun _ _ e => nomatch e⟩
            · exact ⟨vd_flat (.str "a" (by decide)) (fun _ _ e => nomatch e), fun _ _ e => nomatch e⟩
            · have h := gG.keep _ _ nE (SF _ _ hE)
              refine ⟨vd_flat (.dK h) (fun a xs e ha => ?_), fun a xs e ha => ?_⟩
              · cases e
                rw [h] at ha
                cases ha
              · cases e
                rw [h] at ha
                cases ha
            · have h := gG.keep _ _ ((gL.same SE).at_ne htE) hF
              refine ⟨⟨⟨_, .tup h⟩, fun a xs e ha => ?_⟩, fun a xs e ha hne => ?_⟩
              · cases e
                rw [h] at ha
                cases ha
                exact ⟨Nat.zero_le _, fun _ h => nomatch h⟩
              · cases e
                rw [h] at ha
                cases ha
                exact hne rfl
          walk_at "rr"
          exact bent_fin k gAll hyv.1 (deep_ties b2 b3 (by omega) hlen) (nw_v hyv.2)
      walk_at "rr"
      refine ⟨rfl, _, rfl, ?_⟩
      refine ite2 (fun c8 => ?_) (fun c8 => ?_)
      · walk_at "rr"
        refine ⟨Nat.zero_le _, fun p1 hp1 => ?_⟩
        obtain ⟨H4, e4, S4, h4⟩ := mk_new (.tup []) hp1
        rw [e4]
        have g4 := g3.same S4
        obtain ⟨b1, b2, b3⟩ := bent_go hd hpl hta hk g4
        refine ⟨ta, p1, ks, rfl, rfl, b2, b3, hok, h4, ?_⟩
        walk_at "rr"
        refine ite2 (fun c9 => ?_) (fun c9 => ?_)
        · have hsn : ss ≠ [] := fun e => by rw [e] at hl1; exact absurd hl1 (by decide)
          have hl0 : 0 < ss.length := hl1
          walk_at "rr"
          refine ⟨pa, _, rfl, b1.1, fun q1 H5 S5 h5 => ?_⟩
          have e1 : cutV (ss.map V.str) (some 1) none = (ss.drop 1).map V.str := by
            rw [show (1 : Int) = ((1 : Nat) : Int) from rfl, cut_from, List.map_drop]
          rw [e1] at h5
          walk_at "rr"
          refine ⟨pa, _, _, _, rfl, rfl, SqT.of (S5 _ _ b1.1), atI_nat (at_str hl0), ?_⟩
          walk_at "rr"
          refine ⟨pa, _, _, _, rfl, rfl, SqT.of (S5 _ _ b1.1), at_last hsn, ?_⟩
          have hml := List.getLast_mem hsn
          have h8 := name_len8 (hnm _ hml)
          walk_at "rr"
          refine ⟨(by have : (Str.ofString "z").length = 1 := rfl; omega), ?_⟩
          walk_at "rr"
          refine ⟨show (2 : Nat) ≤ sizeLine by decide, fun p2 hp2 => ?_⟩
          obtain ⟨H6, e6, S6, h6⟩ := mk_new (.tup [.str (ss.getD 0 ""), .str (ss.getLast hsn ++ "z")]) hp2
          rw [e6]
          walk_at "rr"
          refine ⟨show (1 : Nat) ≤ sizeLine by decide, fun p3 hp3 => ?_⟩
          obtain ⟨H7, e7, S7, h7⟩ := mk_new (.tup [.ref p2]) hp3
          rw [e7]
          walk_at "rr"
          have S57 := (S5.trans S6).trans S7
          refine ⟨ta, p3, _, _, rfl, rfl, S57 _ _ b2, h7, by rw [rk_len]; exact (by omega : ks.length + 1 ≤ sizeLine), fun q2 H8 S8 h8x => ?_⟩
          have S := S57.trans S8
          have h5' := S8 _ _ (S7 _ _ (S6 _ _ h5))
          have h6' := S8 _ _ (S7 _ _ h6)
          have hm0 : ss.getD 0 "" ∈ ss := by
            rw [List.getD_eq_getElem?_getD, List.getElem?_eq_getElem hl0]
            exact List.getElem_mem _
          walk_at "rr"
          refine bent_fin k (g4.same S) (vd_strs h5' (by rw [List.length_drop]; omega) fun s hs => name_len (hnm s (List.mem_of_mem_drop hs))) (deep_more h8x (b3.same S) (by omega) hlen (vd_strs (rs := [ss.getD 0 "", ss.getLast hsn ++ "z"]) h6' (by decide : 2 ≤ 1000) fun s hs => ?_)) ?_
          · rcases List.mem_cons.mp hs with rfl | hs
            · exact name_len (hnm _ hm0)
            · rw [List.mem_singleton.mp hs, app_len]
              have : (Str.ofString "z").length = 1 := rfl
              show _ + (Str.ofString "z").length ≤ 1000
              omega
          · rintro ⟨pa', ss', e, hpl', ht⟩
            cases e
            have e := hpl'.at_eq h5'
            subst e
            refine ties_more h8x (fun a x y e ha _ hx _ => ?_) ht
            cases e
            rw [h6'] at ha
            have e := HO.tup.inj (Option.some.inj ha)
            have e : V.str (ss.getD 0 "") = V.str x := (List.cons.inj e).1
            have e := V.str.inj e
            subst e
            have nd := hpl.2.1.nodup
            rw [← List.take_append_drop 1 ss] at nd
            refine (List.nodup_append.mp nd).2.2 _ ?_ _ hx rfl
            rw [List.take_one, List.getD_eq_getElem?_getD, ← List.head?_eq_getElem?]
            cases hh : ss.head? with
            | none => rw [List.head?_eq_none_iff] at hh; exact absurd hh hsn
            | some a => exact List.mem_cons_self
        · have hwy : wy = 7 := V.int.inj (of_decide_eq_true c8)
          have gL := g4
          walk_at "rr"
          walk_at "rr"
          refine fun e0 he0 => ?_
          obtain ⟨HE, eE, SE, hE⟩ := mk_new (.dK []) he0
          rw [eE]
          walk_at "rr"
          refine ⟨Nat.zero_le _, fun tE htE => ?_⟩
          obtain ⟨HF, eF, SF, hF⟩ := mk_new (.tup []) htE
          rw [eF]
          walk_at "rr"
          refine ⟨show (5 : Nat) ≤ sizeLine by decide, fun lF hlF => ?_⟩
          have gF := (gL.same SE).same SF
          have gE := gL.same SE
          have nE : e0 ≠ d := gL.at_ne he0
          refine pick_new gF.dice hlF (by simp) (show (5 : Nat) ≤ 1000 by decide) fun y HG hy gG => ?_
          have gAll := gF.trans gG
          obtain ⟨b1, b2, b3⟩ := bent_go hd hpl hta hk gAll
          have hyv : VdT HG y ∧ ∀ a xs, y = .ref a → HG a = some (.tup xs) → xs ≠ [] → False := by
            simp only [List.mem_cons, List.not_mem_nil, or_false] at hy
            rcases hy with rfl | rfl | rfl | rfl | rfl
            · exact ⟨vd_flat .non (fun _ _ e => nomatch e), fun _ _ e => nomatch e⟩
            · exact ⟨vd_flat (.int 0) (fun _ _ e => nomatch e), fun _ _ e => nomatch e⟩
            · exact ⟨vd_flat (.str "a" (by decide)) (fun _ _ e => nomatch e), fun _ _ e => nomatch e⟩
            · have h := gG.keep _ _ nE (SF _ _ hE)
              refine ⟨vd_flat (.dK h) (fun a xs e ha => ?_), fun a xs e ha => ?_⟩
              · cases e
                rw [h] at ha
                cases ha
              · cases e
                rw [h] at ha
                cases ha
            · have h := gG.keep _ _ ((gL.same SE).at_ne htE) hF
              refine ⟨⟨⟨_, .tup h⟩, fun a xs e ha => ?_⟩, fun a xs e ha hne => ?_⟩
              · cases e
                rw [h] at ha
                cases ha
                exact ⟨Nat.zero_le _, fun _ h => nomatch h⟩
              · cases e
                rw [h] at ha
                cases ha
                exact hne rfl
          walk_at "rr"
          exact bent_fin k gAll hyv.1 (deep_ties b2 b3 (by omega) hlen) (nw_v hyv.2)
      have gL := g3
      walk_at "rr"
      refine fun e0 he0 => ?_
      obtain ⟨HE, eE, SE, hE⟩ := mk_new (.dK []) he0
      rw [eE]
      walk_at "rr"
      refine ⟨Nat.zero_le _, fun tE htE => ?_⟩
      obtain ⟨HF, eF, SF, hF⟩ := mk_new (.tup []) htE
      rw [eF]
      walk_at "rr"
      refine ⟨show (5 : Nat) ≤ sizeLine by decide, fun lF hlF => ?_⟩
      have gF := (gL.same SE).same SF
      have gE := gL.same SE
      have nE : e0 ≠ d := gL.at_ne he0
      refine pick_new gF.dice hlF (by simp) (show (5 : Nat) ≤ 1000 by decide) fun y HG hy gG => ?_
      have gAll := gF.trans gG
      obtain ⟨b1, b2, b3⟩ := bent_go hd hpl hta hk gAll
      have hyv : VdT HG y ∧ ∀ a xs, y = .ref a → HG a = some (.tup xs) → xs ≠ [] → False := by
        simp only [List.mem_cons, List.not_mem_nil, or_false] at hy
        rcases hy with rfl | rfl | rfl | rfl | rfl
        · exact ⟨vd_flat .non (fun _ _ e => nomatch e), fun _ _ e => nomatch e⟩
        · exact ⟨vd_flat (.int 0) (fun _ _ e => nomatch e), fun _ _ e => nomatch e⟩
        · exact ⟨vd_flat (.str "a" (by decide)) (fun _ _ e => nomatch e), fun _ _ e => nomatch e⟩
        · have h := gG.keep _ _ nE (SF _ _ hE)
          refine ⟨vd_flat (.dK h) (fun a xs e ha => ?_), fun a xs e ha => ?_⟩
          · cases e
            rw [h] at ha
            cases ha
          · cases e
            rw [h] at ha
            cases ha
        · have h := gG.keep _ _ ((gL.same SE).at_ne htE) hF
          refine ⟨⟨⟨_, .tup h⟩, fun a xs e ha => ?_⟩, fun a xs e ha hne => ?_⟩
          · cases e
            rw [h] at ha
            cases ha
            exact ⟨Nat.zero_le _, fun _ h => nomatch h⟩
          · cases e
            rw [h] at ha
            cases ha
            exact hne rfl
      walk_at "rr"
      exact bent_fin k gAll hyv.1 (deep_ties b2 b3 (by omega) hlen) (nw_v hyv.2)
end
end K5
namespace K5
open PySem PySem.Spec PyProof.Rows L2 RS RZ ZS
local macro_rules | `(tactic| walk_at "r1") => `(tactic| first | refine ⟨_, rfl, ?_⟩ | refine ⟨_, _, rfl, rfl, ?_⟩ | refine ⟨_, _, rfl, ?_⟩ | refine .inl ⟨_, rfl, ?_⟩ | refine .inr ⟨_, rfl, ?_⟩ | refine ⟨⟨_, rfl⟩, ?_⟩)
local macro_rules | `(tactic| walk_at "rr") => `(tactic| repeat walk_at "r1")
/-! ### != of two objects by an own __eq__ -/
section
open PySem.W
variable {prog : Program} {w : World} {A : Around} {E : Value → Shared → Prop} {s : Shared} {K : Frag} {x y C f : Addr} {ox oy : Obj} {od od' : Option Obj}
theorem bound_ne {M : Model} {args : List Value} {Q : Option Value → Shared → Prop} (X : K.In s.heap) (I : InstAt s.heap x ox C od) (hs : findIn K (.ref C) "__ne__" = some (some (.builtin "object.__ne__"))) (h : wpAny M A (call (.builtin "object.__ne__") (.ref x :: args)) (fun v => Q (some v)) E s) : wpAny M A (callSpecialIfBound? (.ref x) "__ne__" args) Q E s := by
  simp only [callSpecialIfBound?, bindSpecialIfBound?]
  refine wpAny_holding (wpAny_bind (wpAny_bind (wpAny_bind (I.type.here ((looks_findIn X hs).here ?_)))))
  refine wpAny_bind (wpAny_askSetting (wpAny_ite ?_))
  have fin : wpAny M A (call (.builtin "object.__ne__") ([.ref x] ++ args) >>= fun v => pure (some v)) Q E s := wpAny_bind (wpAny_mono h (fun v s' h' => wpAny_pure h') fun _ _ h' => h')
  have bnd := PySem.F.cmp_object.ne.bind (.ref x)
  split
  · exact wpAny_bind ((Looks.of_pure bnd).here (wpAny_pure (by exact fin)))
  · exact wpAny_tryCatch (wpAny_bind ((Looks.of_pure bnd).here (wpAny_pure (by exact fin))))
theorem objNe_K {Q : Fin → Shared → Prop} (X : K.In s.heap) (I : InstAt s.heap x ox C od) (hs : findIn K (.ref C) "__eq__" = some (some (.ref f))) (hf : isFn K (.ref f) = true) (hu : A.units < cLine)
    (hcall : wpAny (model prog w) A (call (.ref f) [.ref x, .ref y]) (fun v s' => ∃ b, v = .bool b ∧ Q (.done (.ret (.bool (!b)))) s') E s) :
    wpAny (model prog w) A (Builtin.«object.__ne__» ⟨[.ref x, .ref y], []⟩) Q E s := by
  unfold Builtin.«object.__ne__»
  repeat (first
    | with_reducible refine wpAny_cRoomFor hu ?_
    | (refine wpAny_bind (m := callSpecialIfBound? (.ref x) (Str.ofString "__eq__") [.ref y])
        (ifBound_K X I hs hf (wpAny_mono hcall (fun r s' hr => by
          obtain ⟨b, rfl, hq⟩ := hr
          repeat (first | exact hq | exact wpAny_pure hq | exact wpAny_truthy_bool hq | (refine wpAny_bind (m := truthy (.bool _)) (wpAny_truthy_bool ?_)) | wp_step)) fun _ _ e => e)))
    | wp_step)
theorem ne_K {Q : Value → Shared → Prop} (X : K.In s.heap) (I : InstAt s.heap x ox C od) (J : InstAt s.heap y oy C od') (hn : findIn K (.ref C) "__ne__" = some (some (.builtin "object.__ne__"))) (hs : findIn K (.ref C) "__eq__" = some (some (.ref f))) (hf : isFn K (.ref f) = true)
    (hm : mroIn K C (.type "object") = some true) (hu : A.units + 1 < cLine) (hcall : wpAny (model prog w) A.in1 (call (.ref f) [.ref x, .ref y]) (fun v s' => ∃ b, v = .bool b ∧ Q (.bool (!b)) s') E s) :
    wpAny (model prog w) A (compareOp .NotEq (.ref x) (.ref y)) Q E s := by
  unfold compareOp richCompare
  simp only [oneThing_ref]
  refine wpAny_holding ?_
  refine wpAny_bind (wpAny_cRoomFor (Nat.lt_of_succ_lt hu) ?_)
  rw [cmpInfo_NotEq]
  dsimp only
  refine wpAny_bind (I.type.here (wpAny_bind (J.type.here ?_)))
  rw [show (Value.ref C != Value.ref C) = false from by simp]
  simp only [Bool.false_eq_true, if_false]
  refine wpAny_bind (wpAny_pure ?_)
  simp only [Bool.false_eq_true, if_false]
  have one : wpAny (model prog w) A (tryCompare (.ref x) "__ne__" (.ref y)) (fun r s' => ∃ b, r = some (.bool b) ∧ Q (.bool b) s') E s := by
    unfold tryCompare
    refine wpAny_bind (bound_ne X I hn (wpAny_call (codeAny_call_builtin PySem.F.cmp_object.ne.plain PySem.F.cmpEntry_ne
      (check_slot (i := "object.__ne__") (owner := "object") (n := "__ne__") (by decide +kernel) (by decide +kernel) (I.type.andThen (looks_mroIn X hm)) (PySem.F.cmpArgs_ne _ _)
        (objNe_K (A := A.in1) X I hs hf hu (wpAny_mono hcall (fun v s' hv => ?_) fun _ _ e => e))))))
    obtain ⟨b, rfl, hq⟩ := hv
    first | exact ⟨b, rfl, wpAny_pure ⟨_, rfl, hq⟩⟩ | exact ⟨b, rfl, wpAny_pure (wpAny_pure ⟨_, rfl, hq⟩)⟩ | exact ⟨b, rfl, ⟨_, rfl, hq⟩⟩
  refine wpAny_bind (wpAny_mono one (fun r s' hv => ?_) fun _ _ e => e)
  obtain ⟨b, rfl, hq⟩ := hv
  first | exact wpAny_pure hq | exact wpAny_pure (wpAny_pure hq)
end
def rNeI (C : Addr) (sp : Sp) : R2 := fun x y H Q => ∃ (a b dx dy : Addr) (fs gs : List (Str × V)), x = .ref a ∧ y = .ref b ∧ H a = some (.ins C dx fs) ∧ H b = some (.ins C dy gs) ∧ sp [.ref a, .ref b] H (fun v H' => ∃ k, v = .bl k ∧ Q (.bl (!k)) H') E0
theorem op_neI {X : Cx} {n : Nat} {C f : Addr} {fd : FuncData} {ps : List Str} {sp : Sp} (F : FnOk X.prog X.w X.K X.mg X.base CX0 n f fd ps sp) (hb : Binds X.K fd ps []) (hn : PySem.W.findIn X.K (.ref C) "__ne__" = some (some (.builtin "object.__ne__"))) (hs : PySem.W.findIn X.K (.ref C) "__eq__" = some (some (.ref f)))
    (hf : PySem.W.isFn X.K (.ref f) = true) (hm : PySem.W.mroIn X.K C (.type "object") = some true) (hr : Room (n + 1) X.A) (hu : X.A.units + 1 < cLine) : OpR X (compareOp .NotEq) (rNeI C sp) := by
  intro pins s σ H x y v u Q I rx ry h
  obtain ⟨a, b, dx, dy, fs, gs, rfl, rfl, ha, hb', hsp⟩ := h
  cases rx
  cases ry
  obtain ⟨mA, J, _⟩ := ins_get I.hok ha
  obtain ⟨mB, J', _⟩ := ins_get I.hok hb'
  obtain ⟨od, J, _⟩ := J.look
  obtain ⟨od', J', _⟩ := J'.look
  refine ne_K I.kIn J J' hn hs hf hm hu ?_
  have hl := F.len _ _ _ _ hsp
  have r2 : Vals [V.ref a, V.ref b] [Value.ref a, Value.ref b] := .cons rfl (.cons rfl .nil)
  refine wpAny_call (codeAny_mono (F.run X.A.in1 X.stack s H ⟨[.ref a, .ref b], []⟩ [.ref a, .ref b] [.ref a, .ref b] _ E0 hr.in1 I.env0.in1 (by
    have := hb s [.ref a, .ref b] I.kIn (by simpa using hl)
    simpa using this) r2 hsp) fun r s' hq => ?_)
  cases r with
  | error e => exact False.elim hq
  | ok fl =>
    cases fl with
    | ret w =>
      obtain ⟨z, H', I', rz, k, ez, q⟩ := I.after hq
      subst ez
      cases rz
      exact ⟨k, rfl, .bl (!k), H', I', rfl, q⟩
    | next => exact False.elim hq
    | brk => exact False.elim hq
    | cont => exact False.elim hq
end K5
namespace K5
open PySem PySem.Spec PyProof.Rows L2 RS RZ ZS
local macro_rules | `(tactic| walk_at "r1") => `(tactic| first | refine ⟨_, rfl, ?_⟩ | refine ⟨_, _, rfl, rfl, ?_⟩ | refine ⟨_, _, rfl, ?_⟩ | refine .inl ⟨_, rfl, ?_⟩ | refine .inr ⟨_, rfl, ?_⟩ | refine ⟨⟨_, rfl⟩, ?_⟩)
local macro_rules | `(tactic| walk_at "rr") => `(tactic| repeat walk_at "r1")
/-! ### heaps beside tables of code objects; lambdas handed to _law_is_made -/
open LamX (ExtN Tabs TabS TabB CodeO)
structure GoN (T : List (Addr × Str)) (d : Addr) (H H' : Hp) : Prop where
  keep : ∀ b o, b ≠ d → H b = some o → (∀ ps, o ≠ .tbl ps) → H' b = some o
  dice : Dice H' d
  tabs : Tabs T H'
theorem tabs_go {T : List (Addr × Str)} {d : Addr} {H H' : Hp} (t : Tabs T H) (hd : Dice H d) (g : Go d H H') : Tabs T H' := fun p hp => by
  obtain ⟨ps, h1, h2, h3⟩ := t p hp
  obtain ⟨a, b, c, e⟩ := hd
  refine ⟨ps, g.keep _ _ (fun z => by rw [z, e] at h1; cases h1) h1, h2, fun pos cv hc => ?_⟩
  obtain ⟨c', e1, e2⟩ := h3 pos cv hc
  refine ⟨c', e1, g.keep _ _ (fun z => ?_) e2⟩
  rw [z, e] at e2
  exact nomatch (Option.some.inj e2)
theorem GoN.go {T : List (Addr × Str)} {d : Addr} {H H1 H2 : Hp} (g : GoN T d H H1) (h : Go d H1 H2) : GoN T d H H2 := ⟨fun b o n e t => h.keep b o n (g.keep b o n e t), h.dice, tabs_go g.tabs g.dice h⟩
theorem GoN.same {T : List (Addr × Str)} {d : Addr} {H H1 H2 : Hp} (g : GoN T d H H1) (S : Same H1 H2) : GoN T d H H2 := g.go ((Go.refl g.dice).same S)
theorem GoN.lam {T : List (Addr × Str)} {d : Addr} {H H1 H2 : Hp} (g : GoN T d H H1) (e : ExtN H1 H2) (t : Tabs T H2) : GoN T d H H2 := ⟨fun b o n h h2 => e b o (g.keep b o n h h2) h2, by
  obtain ⟨x, y, z, h⟩ := g.dice
  exact ⟨x, y, z, e _ _ h (fun ps h => nomatch h)⟩, t⟩
theorem GoN.refl {T : List (Addr × Str)} {d : Addr} {H : Hp} (hd : Dice H d) (t : Tabs T H) : GoN T d H H := ⟨fun _ _ _ h _ => h, hd, t⟩
theorem GoN.trans {T : List (Addr × Str)} {d : Addr} {H H1 H2 : Hp} (a : GoN T d H H1) (b : GoN T d H1 H2) : GoN T d H H2 := ⟨fun c o n h t => b.keep c o n (a.keep c o n h t) t, b.dice, b.tabs⟩
/-- places and ties of a web stand at pa and ta -/
structure PT (H : Hp) (pa ta : Addr) (ss : List Str) (ks : RefK) : Prop where
  p : PlacesOk H pa ss
  t : H ta = some (.tup (rk ks))
  k : TK H ks
theorem PT.gon {T : List (Addr × Str)} {d : Addr} {H H' : Hp} {pa ta : Addr} {ss : List Str} {ks : RefK} (h : PT H pa ta ss ks) (hd : Dice H d) (g : GoN T d H H') : PT H' pa ta ss ks :=
  ⟨⟨g.keep _ _ (dice_ne_tup hd h.p.1) h.p.1 (fun _ h => nomatch h), h.p.2⟩, g.keep _ _ (dice_ne_tup hd h.t) h.t (fun _ h => nomatch h), fun q hq => g.keep _ _ (dice_ne_tup hd (h.k q hq)) (h.k q hq) (fun _ h => nomatch h)⟩
theorem PT.ext {H H' : Hp} {pa ta : Addr} {ss : List Str} {ks : RefK} (h : PT H pa ta ss ks) (e : ExtN H H') : PT H' pa ta ss ks :=
  ⟨⟨e _ _ h.p.1 (fun _ h => nomatch h), h.p.2⟩, e _ _ h.t (fun _ h => nomatch h), fun q hq => e _ _ (h.k q hq) (fun _ h => nomatch h)⟩
theorem PT.same {H H' : Hp} {pa ta : Addr} {ss : List Str} {ks : RefK} (h : PT H pa ta ss ks) (S : Same H H') : PT H' pa ta ss ks := h.ext (ExtN.of S)
theorem PT.ok {H : Hp} {pa ta : Addr} {ss : List Str} {ks : RefK} (h : PT H pa ta ss ks) (hw : Wb ss (ks.map (·.2))) (h60 : ks.length ≤ 60) : TiesOk H ss (.ref ta) := ⟨ta, ks, rfl, h.t, h.k, h60, hw.at_, fun q hq => hw.el q.2 (List.mem_map_of_mem hq)⟩
/-- values stay what they are where all but tables is kept -/
theorem kd_ext {H H' : Hp} {v : V} {t : String} (h : Kd H v t) (e : ExtN H H') : Kd H' v t := by
  cases h with
  | non => exact .non
  | bl b => exact .bl b
  | int i => exact .int i
  | str z hz => exact .str z hz
  | lst h => exact .lst (e _ _ h fun _ h => nomatch h)
  | tup h => exact .tup (e _ _ h fun _ h => nomatch h)
  | dK h => exact .dK (e _ _ h fun _ h => nomatch h)
theorem kd_backN {H H' : Hp} {a : Addr} {t : String} {o : HO} (h : Kd H (.ref a) t) (S : ExtN H H') (e : H' a = some o) : H a = some o := by
  cases h with
  | lst h => rw [S _ _ h fun _ h => nomatch h] at e; rw [h]; exact e
  | tup h => rw [S _ _ h fun _ h => nomatch h] at e; rw [h]; exact e
  | dK h => rw [S _ _ h fun _ h => nomatch h] at e; rw [h]; exact e
theorem vdT_ext {H H' : Hp} {v : V} (h : VdT H v) (e : ExtN H H') : VdT H' v := by
  obtain ⟨⟨t, hk⟩, hx⟩ := h
  refine ⟨⟨t, kd_ext hk e⟩, fun a xs ev ha => ?_⟩
  subst ev
  obtain ⟨h1, h2⟩ := hx a xs rfl (kd_backN hk e ha)
  refine ⟨h1, fun x hx => ?_⟩
  obtain ⟨t2, hk2⟩ := h2 x hx
  exact ⟨t2, kd_ext hk2 e⟩
theorem deepT_ext {H H' : Hp} {v : V} (h : DeepT H v) (e : ExtN H H') : DeepT H' v := by
  obtain ⟨⟨t, hk⟩, hx⟩ := h
  refine ⟨⟨t, kd_ext hk e⟩, fun a xs ev ha => ?_⟩
  subst ev
  obtain ⟨h1, h2⟩ := hx a xs rfl (kd_backN hk e ha)
  exact ⟨h1, fun x hx => vdT_ext (h2 x hx) e⟩
theorem webok_backN {H H' : Hp} {v1 v2 : V} (e : ExtN H H') (h1 : VdT H v1) (h2 : DeepT H v2) (h : WebOk H' v1 v2) : WebOk H v1 v2 := by
  obtain ⟨pa, ss, rfl, hpl, a, ks, rfl, t1, t2, t3⟩ := h
  obtain ⟨⟨t, hk⟩, _⟩ := h1
  obtain ⟨⟨t', hk'⟩, hx⟩ := h2
  have ha := kd_backN hk' e t1
  refine ⟨pa, ss, rfl, ⟨kd_backN hk e hpl.1, hpl.2⟩, a, ks, rfl, ha, fun k hkm => ?_, t3⟩
  have hm : V.ref k.1 ∈ rk ks := by
    unfold rk
    rw [List.map_map]
    exact List.mem_map.mpr ⟨k, hkm, rfl⟩
  obtain ⟨⟨t2', hk2⟩, _⟩ := (hx a _ rfl ha).2 _ hm
  exact kd_backN hk2 e (t2 k hkm)
/-! the lambda -/
structure LmT (K : PySem.W.Frag) (mg : Str → Option Value) (g CS : Addr) : Prop where
  ex : ∃ fd, Fun K "_law_is_made" "_law_is_made" s_law_is_made g fd ∧ L2.Binds K fd ["call"] []
  mg_ : mg "_law_is_made" = some (.ref g)
  cs : mg "InvalidWeb" = some (.ref CS)
theorem sc_is_made : FnScope ["call"] ["call"] (defScope s_law_is_made) := ⟨rfl, rfl, rfl, by decide +kernel, rfl, by decide +kernel, by decide +kernel⟩
theorem pe_made {X : Cx} {g CS c P : Addr} {k : Nat} {params : Arguments} {body : Expr} {scope : Scope} {t : XK → TE} {p lpos pos : Pos} (L : LmT X.K X.mg g CS) (TB : TabB X.base X.mg c P) (hcode : X.env.code = .ref c) (hr : Room (k + 2) X.A) (S : LamX.LamS X.env.scope scope)
    (hbody : ∀ (A : Around) (outer : List Env) (s : Shared) (H : Hp) (E : XK) (f c' : Addr), Room k (A.deeper (LamX.lamEnv X scope s.heap.objs.size f c')) → PE (LamX.lamCx X A outer s H E scope f c') body (t E))
    (hdef : defaultsOf params X.env = ([], []) := by rfl) (hbind : ∀ (q : Str) (cl : List (Str × Addr)) (pm cv ctv : Value), bindArgs (PySem.W.kla_fn "<lambda>" q params body scope cl pm cv ctv) ⟨[], []⟩ = pure [] := by exact fun _ _ _ _ _ => rfl) (hg : Gl X "_law_is_made" := by rfl) :
    PE X (.Call (.Name "_law_is_made" p) [.Lambda params body scope lpos] [] pos) (LamX.tLam [(P, X.env.qual ++ "<lambda>")] (TTm X.K CS) t) := by
  obtain ⟨fd, F, b⟩ := L.ex
  obtain ⟨oc, od, kV, doc, pm, an, cdv, ct, osl, rfl, lk, hcd⟩ := F.ex
  exact LamX.pe_lamcall hg L.mg_ F.kp lk hcd b sc_is_made rfl (Or.inl rfl) (made_gives (by rfl) L.cs (by decide) fun f => rfl) TB hcode List.mem_cons_self (fun p hp _ => by rw [List.mem_singleton.mp hp]) hr S hdef hbind hbody
theorem fun_okC {P : Program} {w : World} {K : PySem.W.Frag} {mg : Str → Option Value} {base : Heap} {x qual : Str} {st : Stmt} {f : Addr} {oc : Value} {od an : Option Addr} {osl : Array (Option Value)} {kV doc pm cdv ct : Value} {N ps : List Str} {k : Nat} {sp : Sp}
    (l : K.lookup f = some ⟨oc, od, .func (PySem.W.fnOf x qual (defArgs st) (defBody st) (defScope st) .none kV doc pm an cdv ct), osl⟩) (c : PySem.W.codeIn K cdv qual = true) (S : FnScope N ps (defScope st)) (len : ∀ vs H Q E, sp vs H Q E → vs.length = ps.length)
    (hbody : ∀ (A : Around) (outer : List Env) (s : Shared) (H : Hp) (vs : List V) (Q : VK) (E : XK), Room k (A.deeper (envOfC qual (defScope st) s.heap.objs.size f cdv)) → sp vs H Q E →
      ∃ t, PSs (cxOf CX0 P w K mg base N qual (defScope st) f cdv A outer s H E).nox (defBody st) t ∧ t { nx := fun _ H' => Q .non H', rt := Q } (L2.start N vs) H) : FnOk P w K mg base CX0 (k + 1) f (PySem.W.fnOf x qual (defArgs st) (defBody st) (defScope st) .none kV doc pm an cdv ct) ps sp :=
  fn_of l c S len fun A outer s H vs Q E hr hsp => by
    obtain ⟨t, h, q⟩ := hbody A outer s H vs Q E hr hsp
    exact ⟨t, h.nox, q⟩
end K5
namespace K5
open PySem PySem.Spec PyProof.Rows L2 RS RZ ZS
local macro_rules | `(tactic| walk_at "r1") => `(tactic| first | refine ⟨_, rfl, ?_⟩ | refine ⟨_, _, rfl, rfl, ?_⟩ | refine ⟨_, _, rfl, ?_⟩ | refine .inl ⟨_, rfl, ?_⟩ | refine .inr ⟨_, rfl, ?_⟩ | refine ⟨⟨_, rfl⟩, ?_⟩)
local macro_rules | `(tactic| walk_at "rr") => `(tactic| repeat walk_at "r1")
/-! ### ascending lists of the same things; what the law compares -/
open LamX (ExtN Tabs TabS TabB CodeO)
theorem asc_eq {α : Type} {lt : α → α → Bool} (irr : ∀ a, lt a a = false) (asym : ∀ a b, lt a b = true → lt b a = true → False) : ∀ {l1 l2 : List α}, l1.Pairwise (fun a b => lt a b = true) → l2.Pairwise (fun a b => lt a b = true) → (∀ x, x ∈ l1 ↔ x ∈ l2) → l1 = l2
  | [], [], _, _, _ => rfl
  | [], y :: l2, _, _, h => nomatch (h y).mpr List.mem_cons_self
  | x :: l1, [], _, _, h => nomatch (h x).mp List.mem_cons_self
  | x :: l1, y :: l2, h1, h2, h => by
    obtain ⟨a1, b1⟩ := List.pairwise_cons.mp h1
    obtain ⟨a2, b2⟩ := List.pairwise_cons.mp h2
    have e : x = y := by
      rcases List.mem_cons.mp ((h x).mp List.mem_cons_self) with e | m
      · exact e
      · rcases List.mem_cons.mp ((h y).mpr List.mem_cons_self) with e | m2
        · exact e.symm
        · exact (asym _ _ (a2 x m) (a1 y m2)).elim
    subst e
    have no : ∀ {z}, lt x z = true → z ≠ x := fun h e => by
      rw [e, irr] at h
      cases h
    rw [asc_eq irr asym b1 b2 fun z => ⟨fun hz => (List.mem_cons.mp ((h z).mp (List.mem_cons_of_mem _ hz))).resolve_left (no (a1 z hz)), fun hz => (List.mem_cons.mp ((h z).mpr (List.mem_cons_of_mem _ hz))).resolve_left (no (a2 z hz))⟩]
theorem ascS_eq {a b : List Str} (h1 : AscS a) (h2 : AscS b) (h : ∀ x, x ∈ a ↔ x ∈ b) : a = b := asc_eq ltS_irrefl (fun x y h h' => by have := ltS_trans h h'; rw [ltS_irrefl] at this; cases this) h1 h2 h
theorem ascT_eq {a b : List (List Str)} (h1 : Asc a) (h2 : Asc b) (h : ∀ x, x ∈ a ↔ x ∈ b) : a = b := asc_eq lexT_irrefl (fun x y h h' => by rw [lexT_asym h] at h'; cases h') h1 h2 h
theorem tieS_comm {a b : Str} (h : a ≠ b) : tieS a b = tieS b a := by
  rcases lt_or h with h | h
  · rw [tieS_lt h, tieS_gt h]
  · rw [tieS_gt h, tieS_lt h]
/-- the web of all pairs -/
theorem full_same {ss ss' : List Str} {tp ts' : List (List Str)} (h : AscS ss) (hp : tp.Perm (pairsS ss)) (hof : PlnOf ss tp ss' ts') : ss' = ss ∧ ts' = pairsP ss := by
  have hpp := pairsP_eq h
  obtain ⟨asc, el⟩ := pairsP_asc h
  have elp : ∀ t ∈ tp, ∃ a b, t = [a, b] ∧ ltS a b = true ∧ a ∈ ss ∧ b ∈ ss := fun t ht => el t (by rw [hpp]; exact hp.mem_iff.mp ht)
  refine ⟨ascS_eq hof.as h fun x => ?_, ascT_eq hof.at_ asc fun t => ?_⟩
  · rw [hof.ms]
    refine ⟨fun hx => ?_, .inl⟩
    rcases hx with hx | ⟨t, ht, hx⟩
    · exact hx
    · obtain ⟨a, b, rfl, _, h1, h2⟩ := elp t ht
      rcases List.mem_cons.mp hx with rfl | hx
      · exact h1
      · rw [List.mem_singleton.mp hx]
        exact h2
  · rw [hof.mt]
    constructor
    · rintro ⟨u, hu, rfl⟩
      obtain ⟨a, b, rfl, hl, _⟩ := elp u hu
      rw [show tieL [a, b] = tieS a b from rfl, tieS_lt hl, hpp]
      exact hp.mem_iff.mp hu
    · intro ht
      obtain ⟨a, b, rfl, hl, _⟩ := el t ht
      exact ⟨[a, b], hp.mem_iff.mpr (by rw [← hpp]; exact ht), by rw [show tieL [a, b] = tieS a b from rfl, tieS_lt hl]⟩
/-- the web of a ring -/
theorem ring_same {rs ss ss' : List Str} {ts ts' : List (List Str)} (nd : rs.Nodup) (h3 : 3 ≤ rs.length) (has : AscS ss) (hss : ss.Perm rs) (hts : Asc ts) (htt : ts.Perm (ringT rs)) (hof : PlnOf [] (cyc rs) ss' ts') : ss = ss' ∧ ts = ts' := by
  have hne := cyc_ne nd (by omega)
  refine ⟨ascS_eq has hof.as fun x => ?_, ascT_eq hts hof.at_ fun t => ?_⟩
  · rw [hof.ms, hss.mem_iff]
    constructor
    · intro hx
      obtain ⟨i, hi, e⟩ := List.getElem_of_mem hx
      refine .inr ⟨_, List.mem_of_getElem? (cyc_at hi), ?_⟩
      rw [List.getD_eq_getElem?_getD, List.getElem?_eq_getElem hi, e]
      exact List.mem_cons_self
    · rintro (hx | ⟨t, ht, hx⟩)
      · cases hx
      · obtain ⟨a, b, rfl, _, h1, h2⟩ := hne t ht
        rcases List.mem_cons.mp hx with rfl | hx
        · exact h1
        · rw [List.mem_singleton.mp hx]
          exact h2
  · rw [hof.mt, htt.mem_iff]
    constructor
    · intro ht
      unfold ringT at ht
      obtain ⟨i, hi, rfl⟩ := List.mem_map.mp ht
      have hi := List.mem_range.mp hi
      exact ⟨_, List.mem_of_getElem? (cyc_at hi), tieS_comm (bef_ne nd (by omega) hi)⟩
    · rintro ⟨u, hu, rfl⟩
      unfold cyc at hu
      obtain ⟨i, hi, rfl⟩ := List.mem_map.mp hu
      have hi := List.mem_range.mp hi
      show tieS _ _ ∈ _
      rw [← tieS_comm (bef_ne nd (by omega) hi)]
      exact List.mem_of_getElem? (ringT_at hi)
theorem PT.go {d : Addr} {H H' : Hp} {pa ta : Addr} {ss : List Str} {ks : RefK} (h : PT H pa ta ss ks) (hd : Dice H d) (g : Go d H H') : PT H' pa ta ss ks := by
  obtain ⟨a, b, c⟩ := bent_go hd h.p h.t h.k g
  exact ⟨a, b, c⟩
theorem two_ne {H : Hp} {d q : Addr} {a b : V} (hd : Dice H d) (hq : H q = some (.lst [a, b])) : q ≠ d := by
  rintro rfl
  obtain ⟨x, y, z, e⟩ := hd
  rw [hq] at e
  cases e
theorem webAt_same {C : Addr} {H H' : Hp} {q : Addr} {ss : List Str} {ts : List (List Str)} (h : WebAt C H q ss ts) (S : Same H H') : WebAt C H' q ss ts := by
  obtain ⟨dx, pa, ta, ks, a, b, c, d, e⟩ := h
  exact ⟨dx, pa, ta, ks, S _ _ a, b.same S, S _ _ c, d.same S, e⟩
theorem made_S {H H' : Hp} {x dx C : Addr} {fs : List (Str × V)} (hx : H x = none) (hdx : H dx = none) (ne : dx ≠ x) (S : Same (upd (upd H dx (.own x)) x (.ins C dx [])) H') : Same H (upd H' x (.ins C dx fs)) :=
  same_own (((same_new hdx).new (by rw [upd_ne ne.symm]; exact hx)).trans S) hx
theorem made_S0 {H : Hp} {x dx C : Addr} (hx : H x = none) (hdx : H dx = none) (ne : dx ≠ x) : Same H (upd (upd H dx (.own x)) x (.ins C dx [])) := (same_new hdx).new (by rw [upd_ne ne.symm]; exact hx)
theorem pairs_ok {ss : List Str} (h : AscS ss) (h7 : ss.length ≤ 7) : (pairsP ss).length ≤ 21 := by
  rw [pairsP_eq h]
  have h2 := pairs_len ss
  have h3 : ss.length * (ss.length - 1) ≤ 7 * 6 := Nat.mul_le_mul h7 (by omega)
  omega
end K5
namespace K5
open PySem PySem.Spec PyProof.Rows L2 RS RZ ZS
local macro_rules | `(tactic| walk_at "r1") => `(tactic| first | refine ⟨_, rfl, ?_⟩ | refine ⟨_, _, rfl, rfl, ?_⟩ | refine ⟨_, _, rfl, ?_⟩ | refine .inl ⟨_, rfl, ?_⟩ | refine .inr ⟨_, rfl, ?_⟩ | refine ⟨⟨_, rfl⟩, ?_⟩)
local macro_rules | `(tactic| walk_at "rr") => `(tactic| repeat walk_at "r1")
/-! ### law -/
open LamX (ExtN Tabs TabS TabB CodeO)
def rLi (K : PySem.W.Frag) : List V → Hp → VK → Prop := fun xs H Q => ∃ p ys, xs = [V.ref p] ∧ (SqL K H p ys ∨ SqT K H p ys) ∧ ∀ (l : Addr), H l = none → Q (V.ref l) (upd H l (HO.lst ys))
def lamT (Pt : Addr) : List (Addr × Str) := [(Pt, ("law.<locals>." : Str) ++ ("<lambda>" : Str))]
theorem sql_ext {K : PySem.W.Frag} {H H' : Hp} {a : Addr} {xs : List V} (h : SqL K H a xs) (e : ExtN H H') : SqL K H' a xs := by
  rcases h with (h | ⟨o, h⟩) | h
  · exact .inl (.inl (e _ _ h fun _ h => nomatch h))
  · exact .inl (.inr ⟨o, e _ _ h fun _ h => nomatch h⟩)
  · exact .inr h
structure spLaw (K : PySem.W.Frag) (P : Addr) (vs : List V) (H : Hp) (Q : VK) (E : XK) : Prop where
  h : ∃ (a : Addr) (ns : List Int), vs = [.ref a] ∧ SqL K H a (ns.map V.int) ∧ H P = some (.tbl #[]) ∧ ∀ H', Q (.bl true) H'
abbrev lawN : List Str := ["script", "spot", "dice", "turn", "plain", "places", "ties", "parts", "is_made", "ring", "due", "at", "many", "pairs", "told"]
theorem sc_law : FnScope lawN ["script"] (defScope s_law) := ⟨rfl, rfl, rfl, by decide +kernel, rfl, by decide +kernel, by decide +kernel⟩
def spWI (C : Addr) (mg : Str → Option Value) : Sp := fun vs H Q E => spWebInit C vs H Q E ∨ spWebInitX mg vs H Q E
def spFu (C : Addr) (mg : Str → Option Value) : Sp := fun vs H Q E => spFull C vs H Q E ∨ spFullX mg vs H Q E
def spRi (C : Addr) (mg : Str → Option Value) : Sp := fun vs H Q E => spRing C vs H Q E ∨ spRingX mg vs H Q E
/-- what the law needs of the text -/
structure LawT (P : Program) (w : World) (K : PySem.W.Frag) (mg : Str → Option Value) (base : Heap) (C fI fE g CS : Addr) (fdI fdE : FuncData) : Prop where
  T : Txt K mg
  W : WTxt K mg C
  M : Mk K C fI
  GI : FnOk P w K mg base CX0 6 fI fdI ["self", "places", "ties"] (spWebInit C)
  GX : FnOk P w K mg base (L2.CX P w) 6 fI fdI ["self", "places", "ties"] (spWebInitX mg)
  bI : Binds K fdI ["self", "places", "ties"] []
  GE : FnOk P w K mg base CX0 1 fE fdE ["self", "other"] (spWebEq C)
  bE : Binds K fdE ["self", "other"] []
  hn : PySem.W.findIn K (.ref C) "__ne__" = some (some (.builtin "object.__ne__"))
  he : PySem.W.findIn K (.ref C) "__eq__" = some (some (.ref fE))
  hf : PySem.W.isFn K (.ref fE) = true
  hm : PySem.W.mroIn K C (.type "object") = some true
  L : LmT K mg g CS
  px : PySem.W.exmOne K (.ref CS) (.ref CS) = some true
  DDice : Dfn P w K mg base "_law_dice" 1 ["script", "spot"] (spDice K)
  DAny : Dfn P w K mg base "_law_any" 5 ["dice", "most"] spAny
  DBent : Dfn P w K mg base "_law_bent" 3 ["dice", "places", "ties"] spBent
  DFull : Dfn P w K mg base "full_web" 8 ["places"] (spFull C)
  DRing : Dfn P w K mg base "ring_web" 8 ["ring"] (spRing C)
  DFullX : DfnX P w K mg base "full_web" 8 ["places"] (spFu C mg)
  DRingX : DfnX P w K mg base "ring_web" 8 ["ring"] (spRi C mg)
  DMade : Dfn P w K mg base "_law_made" 8 ["plain"] (spMade C)
  DPlain : Dfn P w K mg base "_law_plain" 2 ["places", "ties"] spPlain
  DPairs : Dfn P w K mg base "_law_pairs" 2 ["places"] spPairs
  DMixed : Dfn P w K mg base "_law_mixed" 2 ["dice", "items"] spMixedA
  DNames : Dfn P w K mg base "_law_names_of" 1 ["count"] spNamesOf
theorem LawT.GW {P : Program} {w : World} {K : PySem.W.Frag} {mg : Str → Option Value} {base : Heap} {C fI fE g CS : Addr} {fdI fdE : FuncData} (Z : LawT P w K mg base C fI fE g CS fdI fdE) : FnOk P w K mg base (L2.CX P w) 6 fI fdI ["self", "places", "ties"] (spWI C mg) := fnok_or (fnok_up Z.GI) Z.GX
end K5
namespace K5
open PySem PySem.Spec PyProof.Rows L2 RS RZ ZS
local macro_rules | `(tactic| walk_at "r1") => `(tactic| first | refine ⟨_, rfl, ?_⟩ | refine ⟨_, _, rfl, rfl, ?_⟩ | refine ⟨_, _, rfl, ?_⟩ | refine .inl ⟨_, rfl, ?_⟩ | refine .inr ⟨_, rfl, ?_⟩ | refine ⟨⟨_, rfl⟩, ?_⟩)
local macro_rules | `(tactic| walk_at "rr") => `(tactic| repeat walk_at "r1")
/-! ### the law's end: webs about the limits -/
open LamX (ExtN Tabs TabS TabB CodeO)
def names17 : List Str := namesP.take 17
theorem names17_asc : AscS names17 := by
  have : risesB ltS names17 = true := by decide +kernel
  exact (rises_pw (lt := ltS) (fun a b c => ltS_trans) names17).mp this
theorem names17_ok : ∀ s ∈ names17, isNameV (.str s) = true := by decide +kernel
theorem names17_len : names17.length = 17 := by decide +kernel
theorem AscS.take {l : List Str} (h : AscS l) (k : Nat) : AscS (l.take k) := List.Pairwise.sublist (List.take_sublist k l) h
theorem pl17 {H : Hp} {q : Addr} {k : Nat} (h : H q = some (.tup ((names17.take k).map V.str))) (h1 : 1 ≤ k) (h16 : k ≤ 16) : PlacesOk H q (names17.take k) :=
  ⟨h, names17_asc.take k, fun s hs => names17_ok s (List.mem_of_mem_take hs), by rw [List.length_take, names17_len]; omega, by rw [List.length_take]; omega⟩
theorem vd17 {H : Hp} {q : Addr} {k : Nat} (h : H q = some (.tup ((names17.take k).map V.str))) : VdT H (.ref q) := by
  refine ⟨⟨_, .tup h⟩, fun a xs e ha => ?_⟩
  cases e
  rw [h] at ha
  have e := HO.tup.inj (Option.some.inj ha)
  subst e
  refine ⟨by rw [List.length_map, List.length_take, names17_len]; omega, fun x hx => ?_⟩
  obtain ⟨s, hs, rfl⟩ := List.mem_map.mp hx
  exact ⟨_, .str s (name_len (names17_ok s (List.mem_of_mem_take hs)))⟩
theorem sl_m {H : Hp} {mn : Addr} {Q : VK} (h : H mn = some (.tup (names17.map V.str))) (k : Nat) (kk : Int) (e : kk = k) (q : ∀ q H', Same H H' → H' q = some (.tup ((names17.take k).map V.str)) → Q (.ref q) H') : rSlS (.ref mn) none (some kk) H Q := by
  subst e
  refine ⟨mn, _, rfl, h, fun p H' S h' => q p H' S ?_⟩
  rw [h', cut_to, List.map_take]
theorem sl_p {H : Hp} {pr : Addr} {ks : RefK} {Q : VK} (h : H pr = some (.tup (rk ks))) (k : Nat) (kk : Int) (e : kk = k) (q : ∀ q H', Same H H' → H' q = some (.tup (rk (ks.take k))) → Q (.ref q) H') : rSlS (.ref pr) none (some kk) H Q := by
  subst e
  refine ⟨pr, _, rfl, h, fun p H' S h' => q p H' S ?_⟩
  rw [h', cut_to]
  unfold rk
  rw [List.map_take, List.map_take]
structure Tl (Pt mn pr : Addr) (ks : RefK) (H : Hp) : Prop where
  tabs : Tabs (lamT Pt) H
  m : H mn = some (.tup (names17.map V.str))
  p : H pr = some (.tup (rk ks))
  k : TK H ks
theorem Tl.lam {Pt mn pr : Addr} {ks : RefK} {H H' : Hp} (h : Tl Pt mn pr ks H) (e : ExtN H H') (t : Tabs (lamT Pt) H') : Tl Pt mn pr ks H' :=
  ⟨t, e _ _ h.m (fun _ h => nomatch h), e _ _ h.p (fun _ h => nomatch h), fun q hq => e _ _ (h.k q hq) (fun _ h => nomatch h)⟩
theorem Tl.same {Pt mn pr : Addr} {ks : RefK} {H H' : Hp} (h : Tl Pt mn pr ks H) (S : Same H H') : Tl Pt mn pr ks H' := h.lam (ExtN.of S) (h.tabs.ext S)
theorem Tl.put {Pt mn pr tl : Addr} {ks : RefK} {H : Hp} {xs ys : List V} (h : Tl Pt mn pr ks H) (ht : H tl = some (.lst xs)) : Tl Pt mn pr ks (upd H tl (.lst ys)) := by
  have ne : ∀ {q : Addr} {o : HO}, H q = some o → (∀ xs, o ≠ .lst xs) → upd H tl (.lst ys) q = some o := fun {q o} hq n => by
    rw [upd_ne]
    · exact hq
    · rintro rfl
      rw [ht] at hq
      exact n _ (Option.some.inj hq).symm
  refine ⟨fun p hp => ?_, ne h.m (fun _ h => nomatch h), ne h.p (fun _ h => nomatch h), fun q hq => ne (h.k q hq) (fun _ h => nomatch h)⟩
  obtain ⟨ps, h1, h2, h3⟩ := h.tabs p hp
  refine ⟨ps, ne h1 (fun _ h => nomatch h), h2, fun pos cv hc => ?_⟩
  obtain ⟨c', e1, e2⟩ := h3 pos cv hc
  exact ⟨c', e1, ne e2 (fun _ h => nomatch h)⟩
theorem lamW_ok {C : Addr} {mg : Str → Option Value} {H : Hp} {pa ta : Addr} {ss : List Str} {R : Addr → Hp → Prop} {E : XK} (hp : PlacesOk H pa ss) (ht : TiesOk H ss (.ref ta)) (k : ∀ v H', Same H H' → R v H') :
    ∀ x dx : Addr, H x = none → H dx = none → dx ≠ x → spWI C mg (.ref x :: ([.ref pa, .ref ta] ++ [])) (upd (upd H dx (.own x)) x (.ins C dx [])) (fun v H2 => v = .non ∧ R x H2) E := fun x dx hx hdx ne =>
  have S := made_S0 (C := C) hx hdx ne
  .inl ⟨x, dx, pa, ta, ss, rfl, upd_same, hp.same S, ht.same S, fun H9 S9 => ⟨rfl, k _ _ (made_S hx hdx ne S9)⟩⟩
theorem lamW_no {C : Addr} {mg : Str → Option Value} {H : Hp} {v1 v2 : V} {R : Addr → Hp → Prop} {E : XK} (h1 : VdT H v1) (h2 : DeepT H v2) (no : ¬ WebOk H v1 v2) (k : ∀ CI H', mg "InvalidWeb" = some (.ref CI) → Same H H' → E (.ref CI) none H') :
    ∀ x dx : Addr, H x = none → H dx = none → dx ≠ x → spWI C mg (.ref x :: ([v1, v2] ++ [])) (upd (upd H dx (.own x)) x (.ins C dx [])) (fun v H2 => v = .non ∧ R x H2) E := fun x dx hx hdx ne =>
  have S := made_S0 (C := C) hx hdx ne
  .inr ⟨x, v1, v2, rfl, h1.same S, h2.same S, fun h => no (webok_back S h1 h2 h), fun CI H9 m S9 => k CI H9 m (S.trans S9)⟩
theorem exm_of {P : Program} {w : World} {K : PySem.W.Frag} {mg : Str → Option Value} {base : Heap} {C fI fE g CS : Addr} {fdI fdE : FuncData} (Z : LawT P w K mg base C fI fE g CS fdI fdE) {CI : Addr} (h : mg "InvalidWeb" = some (.ref CI)) : PySem.W.exmOne K (.ref CI) (.ref CS) = some true := by
  have e := h.symm.trans Z.L.cs
  cases e
  exact Z.px
theorem pairs12 : (pairsS (namesP.take 12)).length = 66 := by decide +kernel
theorem names12_in : ∀ s ∈ namesP.take 12, s ∈ names17.take 16 := by decide +kernel
theorem names12_nd : (namesP.take 12).Nodup := by decide +kernel
theorem full11 : (pairsP (names17.take 11)).length ≤ 60 := by decide +kernel
theorem full12 : ¬ (pairsP (names17.take 12)).length ≤ 60 := by decide +kernel
theorem full1 : (pairsP (names17.take 1)).length ≤ 60 := by decide +kernel
theorem pairs_nodup : ∀ {ss : List Str}, ss.Nodup → (pairsS ss).Nodup
  | [], _ => .nil
  | a :: r, h => by
    obtain ⟨h1, h2⟩ := List.nodup_cons.mp h
    have hne : ∀ b ∈ r, a ≠ b := fun b hb e => h1 (e ▸ hb)
    refine List.nodup_append.mpr ⟨?_, pairs_nodup h2, fun t ht u hu e => ?_⟩
    · unfold List.Nodup
      rw [List.pairwise_map]
      refine List.Pairwise.imp_of_mem (fun {x y} hx hy hxy e => ?_) h2
      rcases tieS_inj (hne x hx) (hne y hy) e with ⟨_, e2⟩ | ⟨e1, _⟩
      · exact hxy e2
      · exact hne y hy e1
    · obtain ⟨b, hb, rfl⟩ := List.mem_map.mp ht
      obtain ⟨x, y, e2, hx, hy, hxy⟩ := pairs_el u hu
      rw [e2] at e
      rcases tieS_inj (hne b hb) (hxy h2) e with ⟨e1, _⟩ | ⟨e1, _⟩
      · exact hne x hx e1
      · exact hne y hy e1
end K5
namespace K5
open PySem PySem.Spec PyProof.Rows L2 RS RZ ZS
local macro_rules | `(tactic| walk_at "r1") => `(tactic| first | refine ⟨_, rfl, ?_⟩ | refine ⟨_, _, rfl, rfl, ?_⟩ | refine ⟨_, _, rfl, ?_⟩ | refine .inl ⟨_, rfl, ?_⟩ | refine .inr ⟨_, rfl, ?_⟩ | refine ⟨⟨_, rfl⟩, ?_⟩)
local macro_rules | `(tactic| walk_at "rr") => `(tactic| repeat walk_at "r1")
/-! ### law -/
open LamX (ExtN Tabs TabS TabB CodeO)
section
variable {P : Program} {w : World} {K : PySem.W.Frag} {mg : Str → Option Value} {base : Heap}
theorem ok_law {f C fI fE g CS c Pt : Addr} {fdI fdE : FuncData} {oc : Value} {od an : Option Addr} {osl : Array (Option Value)} {kV doc pm ct : Value}
    (l : K.lookup f = some ⟨oc, od, .func (PySem.W.fnOf "law" "law" (defArgs s_law) (defBody s_law) (defScope s_law) .none kV doc pm an (.ref c) ct), osl⟩) (cd : PySem.W.codeIn K (.ref c) "law" = true) (TB : TabB base mg c Pt)
    (Z : LawT P w K mg base C fI fE g CS fdI fdE) : FnOk P w K mg base CX0 11 f (PySem.W.fnOf "law" "law" (defArgs s_law) (defBody s_law) (defScope s_law) .none kV doc pm an (.ref c) ct) ["script"] (spLaw K Pt) := by
  refine fun_okC l cd sc_law (fun vs H Q E h => ?_) (fun A outer s H vs Q E hr h => ?_)
  · obtain ⟨a, ns, rfl, _⟩ := h
    rfl
  · obtain ⟨a, ns, rfl, ha, hP, k⟩ := h
    have hu := hr.units
    have T := Z.T
    have hr1 := hr.mono (by decide : 1 ≤ 10)
    have hr2 := hr.mono (by decide : 2 ≤ 10)
    have hr3 := hr.mono (by decide : 3 ≤ 10)
    have hr5 := hr.mono (by decide : 5 ≤ 10)
    have hr8 := hr.mono (by decide : 8 ≤ 10)
    have huC := hu_of hr
    refine ⟨_, (pss_cons (ps_for PassesOwn.never rfl (pi_range1 (by rfl) T.n_range (pa_cons (pe_callB (call_max2 rfl) (by rfl) T.n_max (by decide +kernel) (pa_cons pe_int (pa_cons (pe_callB (call_min2 rfl) (by rfl) T.n_min (by decide +kernel) (pa_cons pe_int (pa_cons (pe_callB call_len (by rfl) T.n_len (by decide +kernel) (pa_cons (pv 0) pa_nil)) pa_nil))) pa_nil))) pa_nil)) (pg_name (i := 1) sc_law.nd rfl (Or.inl rfl))
        (pss_cons (ps_set (i := 2) sc_law.nd rfl (Or.inl rfl) (pe_d Z.DDice hr1 (pa_cons (pv 0) (pa_cons (pv 1) pa_nil))))
          (pss_one (ps_for PassesOwn.never rfl (pi_range1 (by rfl) T.n_range (pa_cons pe_int pa_nil)) (pg_name (i := 3) sc_law.nd rfl (Or.inl rfl))
          (pss_cons (ps_set (i := 4) sc_law.nd rfl (Or.inl rfl) (pe_d Z.DAny hr5 (pa_cons (pv 2) (pa_cons pe_int pa_nil))))
          (pss_cons (ps_asg (pe_tup (pa_cons (pe_callTy call_tuple_of (by rfl) T.n_tuple (by decide +kernel) (pa_cons (pe_dget huC (pv 4) pe_str (fun _ _ => rfl)) pa_nil)) (pa_cons (pe_callTy call_tuple_of (by rfl) T.n_tuple (by decide +kernel) (pa_cons (pe_dget huC (pv 4) pe_str (fun _ _ => rfl)) pa_nil)) pa_nil))) (pg_tup (n := 2) rfl (pgs_cons (pg_name (i := 5) sc_law.nd rfl (Or.inr rfl)) (pgs_cons (pg_name (i := 6) sc_law.nd rfl (Or.inr rfl)) pgs_nil))))
          (pss_cons (ps_set (i := 7) sc_law.nd rfl (Or.inr rfl) (pe_d Z.DBent hr3 (pa_cons (pv 2) (pa_cons (pv 5) (pa_cons (pv 6) pa_nil)))))
          (pss_cons (ps_set (i := 8) sc_law.nd rfl (Or.inl rfl) (pe_made (k := 8) Z.L TB rfl hr (LamX.lamS_by (by show LamX.lamSB (defScope s_law) _ = true; decide +kernel)) (fun A outer s H E f c' hr2 => pe_make Z.M Z.GW (hr2.mono (by decide)) (by rfl) Z.W.mgC Z.bI .nil (passes_call (W := fun cls d _ H => E cls d H) (takes_of rfl rfl rfl rfl) (fun _ _ _ _ h => h)) (pa_cons (pv 5) (pa_cons (pv 6) pa_nil)))))
          (pss_cons (ps_if (PW.pt (pw_or (pt_not (pt_val (pv 8))) (pw_or1 (pt_val (pe_made (k := 8) Z.L TB rfl hr (LamX.lamS_by (by show LamX.lamSB (defScope s_law) _ = true; decide +kernel)) (fun A outer s H E f c' hr2 => pe_make Z.M Z.GW (hr2.mono (by decide)) (by rfl) Z.W.mgC Z.bI .nil (passes_call (W := fun cls d _ H => E cls d H) (takes_of rfl rfl rfl rfl) (fun _ _ _ _ h => h)) (pa_cons (pe_ix (show IxR _ (rIxL K) from ix_list) (pv 7) pe_int (fun _ _ => rfl)) (pa_cons (pe_ix (show IxR _ (rIxL K) from ix_list) (pv 7) pe_int (fun _ _ => rfl)) pa_nil)))))))) (pss_one (ps_ret pe_bl)) pss_nil)
          (pss_cons (ps_if (pt_cmpR (show OpR _ _ (rNeI C (spWebEq C)) from op_neI Z.GE Z.bE Z.hn Z.he Z.hf Z.hm hr2 huC) (pe_d Z.DFull hr8 (pa_cons (pv 5) pa_nil)) (pe_d Z.DMade hr8 (pa_cons (pe_d Z.DPlain hr2 (pa_cons (pv 5) (pa_cons (pe_d Z.DPairs hr2 (pa_cons (pv 5) pa_nil)) pa_nil))) pa_nil)) (nomark _)) (pss_one (ps_ret pe_bl)) pss_nil)
          (pss_one (ps_if (pt_cmpR op_gt (pe_callB call_len (by rfl) T.n_len (by decide +kernel) (pa_cons (pv 5) pa_nil)) pe_int (nomark _)) (pss_cons (ps_set (i := 9) sc_law.nd rfl (Or.inr rfl) (pe_callTy call_tuple_of (by rfl) T.n_tuple (by decide +kernel) (pa_cons (pe_d Z.DMixed hr2 (pa_cons (pv 2) (pa_cons (pv 5) pa_nil))) pa_nil)))
          (pss_cons (ps_set (i := 10) sc_law.nd rfl (Or.inl rfl) (pe_d Z.DPlain hr2 (pa_cons (pe_lst pa_nil) (pa_cons (pe_lc (own := [("at", 11)]) (g := gName 11) (tt := tYes) rfl sc_law.nd (pi_range1 (by rfl) T.n_range (pa_cons (pe_callB call_len (by rfl) T.n_len (by decide +kernel) (pa_cons (pv 9) pa_nil)) pa_nil)) (blkOk_by (own := [("at", 11)]) (N := lawN) (sc := defScope s_law) (by decide +kernel)) (fun _ _ _ _ _ => pg_name (i := 11) sc_law.nd rfl (Or.inl rfl)) (fun _ _ _ _ _ => pts_nil) (fun _ _ _ _ _ => pe_tup (pa_cons (pe_ix (show IxR _ (rIxT K) from ix_tup) (pv 9) (pv 11) (fun _ _ => rfl)) (pa_cons (pe_ix (show IxR _ (rIxT K) from ix_tup) (pv 9) (pe_op op_sub (pv 11) pe_int) (fun _ _ => rfl)) pa_nil)))) pa_nil))))
          (pss_one (ps_if (pt_cmpR (show OpR _ _ (rNeI C (spWebEq C)) from op_neI Z.GE Z.bE Z.hn Z.he Z.hf Z.hm hr2 huC) (pe_d Z.DRing hr8 (pa_cons (pv 9) pa_nil)) (pe_d Z.DMade hr8 (pa_cons (pv 10) pa_nil)) (nomark _)) (pss_one (ps_ret pe_bl)) pss_nil)))) pss_nil))))))))))))
          (pss_cons (ps_asg (pe_tup (pa_cons (pe_d Z.DNames hr1 (pa_cons pe_int pa_nil)) (pa_cons (pe_callTy call_tuple_of (by rfl) T.n_tuple (by decide +kernel) (pa_cons (pe_d Z.DPairs hr2 (pa_cons (pe_callTy call_list_of (by rfl) T.n_list (by decide +kernel) (pa_cons (pe_d Z.DNames hr1 (pa_cons pe_int pa_nil)) pa_nil)) pa_nil)) pa_nil)) pa_nil))) (pg_tup (n := 2) rfl (pgs_cons (pg_name (i := 12) sc_law.nd rfl (Or.inr rfl)) (pgs_cons (pg_name (i := 13) sc_law.nd rfl (Or.inr rfl)) pgs_nil))))
          (pss_cons (ps_set (i := 14) sc_law.nd rfl (Or.inl rfl) (pe_lst (pa_cons (pe_made (k := 8) Z.L TB rfl hr (LamX.lamS_by (by show LamX.lamSB (defScope s_law) _ = true; decide +kernel)) (fun A outer s H E f c' hr2 => pe_make Z.M Z.GW (hr2.mono (by decide)) (by rfl) Z.W.mgC Z.bI .nil (passes_call (W := fun cls d _ H => E cls d H) (takes_of rfl rfl rfl rfl) (fun _ _ _ _ h => h)) (pa_cons (pe_slice (show SlR _ rSlS from sl_tupS) (pv 12) po_none (po_some pe_int)) (pa_cons (pe_tup pa_nil) pa_nil)))) pa_nil)))
          (pss_cons (ps_expr (pe_bm PySem.F.plainAttrs_list PySem.F.slot_list_append PySem.F.type_list_append mt_append (pv 14) (pa_cons (pe_made (k := 8) Z.L TB rfl hr (LamX.lamS_by (by show LamX.lamSB (defScope s_law) _ = true; decide +kernel)) (fun A outer s H E f c' hr2 => pe_make Z.M Z.GW (hr2.mono (by decide)) (by rfl) Z.W.mgC Z.bI .nil (passes_call (W := fun cls d _ H => E cls d H) (takes_of rfl rfl rfl rfl) (fun _ _ _ _ h => h)) (pa_cons (pv 12) (pa_cons (pe_tup pa_nil) pa_nil)))) pa_nil)))
          (pss_cons (ps_expr (pe_bm PySem.F.plainAttrs_list PySem.F.slot_list_append PySem.F.type_list_append mt_append (pv 14) (pa_cons (pe_made (k := 8) Z.L TB rfl hr (LamX.lamS_by (by show LamX.lamSB (defScope s_law) _ = true; decide +kernel)) (fun A outer s H E f c' hr2 => pe_make Z.M Z.GW (hr2.mono (by decide)) (by rfl) Z.W.mgC Z.bI .nil (passes_call (W := fun cls d _ H => E cls d H) (takes_of rfl rfl rfl rfl) (fun _ _ _ _ h => h)) (pa_cons (pe_slice (show SlR _ rSlS from sl_tupS) (pv 12) po_none (po_some pe_int)) (pa_cons (pe_slice (show SlR _ rSlS from sl_tupS) (pv 13) po_none (po_some pe_int)) pa_nil)))) pa_nil)))
          (pss_cons (ps_expr (pe_bm PySem.F.plainAttrs_list PySem.F.slot_list_append PySem.F.type_list_append mt_append (pv 14) (pa_cons (pe_made (k := 8) Z.L TB rfl hr (LamX.lamS_by (by show LamX.lamSB (defScope s_law) _ = true; decide +kernel)) (fun A outer s H E f c' hr2 => pe_make Z.M Z.GW (hr2.mono (by decide)) (by rfl) Z.W.mgC Z.bI .nil (passes_call (W := fun cls d _ H => E cls d H) (takes_of rfl rfl rfl rfl) (fun _ _ _ _ h => h)) (pa_cons (pe_slice (show SlR _ rSlS from sl_tupS) (pv 12) po_none (po_some pe_int)) (pa_cons (pe_slice (show SlR _ rSlS from sl_tupS) (pv 13) po_none (po_some pe_int)) pa_nil)))) pa_nil)))
          (pss_cons (ps_expr (pe_bm PySem.F.plainAttrs_list PySem.F.slot_list_append PySem.F.type_list_append mt_append (pv 14) (pa_cons (pe_made (k := 8) Z.L TB rfl hr (LamX.lamS_by (by show LamX.lamSB (defScope s_law) _ = true; decide +kernel)) (fun A outer s H E f c' hr2 => pe_dx (X := LamX.lamCx _ A outer s H E _ f c') Z.DFullX hr2 (passes_call (W := fun cls d _ H => E cls d H) (takes_of rfl rfl rfl rfl) (fun _ _ _ _ h => h)) (pa_cons (pe_slice (show SlR _ rSlS from sl_tupS) (pv 12) po_none (po_some pe_int)) pa_nil))) pa_nil)))
          (pss_cons (ps_expr (pe_bm PySem.F.plainAttrs_list PySem.F.slot_list_append PySem.F.type_list_append mt_append (pv 14) (pa_cons (pe_made (k := 8) Z.L TB rfl hr (LamX.lamS_by (by show LamX.lamSB (defScope s_law) _ = true; decide +kernel)) (fun A outer s H E f c' hr2 => pe_dx (X := LamX.lamCx _ A outer s H E _ f c') Z.DFullX hr2 (passes_call (W := fun cls d _ H => E cls d H) (takes_of rfl rfl rfl rfl) (fun _ _ _ _ h => h)) (pa_cons (pe_slice (show SlR _ rSlS from sl_tupS) (pv 12) po_none (po_some pe_int)) pa_nil))) pa_nil)))
          (pss_cons (ps_expr (pe_bm PySem.F.plainAttrs_list PySem.F.slot_list_append PySem.F.type_list_append mt_append (pv 14) (pa_cons (pe_made (k := 8) Z.L TB rfl hr (LamX.lamS_by (by show LamX.lamSB (defScope s_law) _ = true; decide +kernel)) (fun A outer s H E f c' hr2 => pe_dx (X := LamX.lamCx _ A outer s H E _ f c') Z.DFullX hr2 (passes_call (W := fun cls d _ H => E cls d H) (takes_of rfl rfl rfl rfl) (fun _ _ _ _ h => h)) (pa_cons (show PE (LamX.lamCx _ A outer s H E _ f c') _ (tRevT K (tSl rSlS (tVar 12) tNoPart (tPart (tC (.int 2))))) from pe_revT (pe_slice (show SlR _ rSlS from sl_tupS) (pv 12) po_none (po_some pe_int))) pa_nil))) pa_nil)))
          (pss_cons (ps_expr (pe_bm PySem.F.plainAttrs_list PySem.F.slot_list_append PySem.F.type_list_append mt_append (pv 14) (pa_cons (pe_made (k := 8) Z.L TB rfl hr (LamX.lamS_by (by show LamX.lamSB (defScope s_law) _ = true; decide +kernel)) (fun A outer s H E f c' hr2 => pe_dx (X := LamX.lamCx _ A outer s H E _ f c') Z.DFullX hr2 (passes_call (W := fun cls d _ H => E cls d H) (takes_of rfl rfl rfl rfl) (fun _ _ _ _ h => h)) (pa_cons (pe_slice (show SlR _ rSlS from sl_tupS) (pv 12) po_none (po_some pe_int)) pa_nil))) pa_nil)))
          (pss_cons (ps_expr (pe_bm PySem.F.plainAttrs_list PySem.F.slot_list_append PySem.F.type_list_append mt_append (pv 14) (pa_cons (pe_made (k := 8) Z.L TB rfl hr (LamX.lamS_by (by show LamX.lamSB (defScope s_law) _ = true; decide +kernel)) (fun A outer s H E f c' hr2 => pe_dx (X := LamX.lamCx _ A outer s H E _ f c') Z.DRingX hr2 (passes_call (W := fun cls d _ H => E cls d H) (takes_of rfl rfl rfl rfl) (fun _ _ _ _ h => h)) (pa_cons (pe_slice (show SlR _ rSlS from sl_tupS) (pv 12) po_none (po_some pe_int)) pa_nil))) pa_nil)))
          (pss_cons (ps_expr (pe_bm PySem.F.plainAttrs_list PySem.F.slot_list_append PySem.F.type_list_append mt_append (pv 14) (pa_cons (pe_made (k := 8) Z.L TB rfl hr (LamX.lamS_by (by show LamX.lamSB (defScope s_law) _ = true; decide +kernel)) (fun A outer s H E f c' hr2 => pe_dx (X := LamX.lamCx _ A outer s H E _ f c') Z.DRingX hr2 (passes_call (W := fun cls d _ H => E cls d H) (takes_of rfl rfl rfl rfl) (fun _ _ _ _ h => h)) (pa_cons (pv 12) pa_nil))) pa_nil)))
          (pss_cons (ps_expr (pe_bm PySem.F.plainAttrs_list PySem.F.slot_list_append PySem.F.type_list_append mt_append (pv 14) (pa_cons (pe_made (k := 8) Z.L TB rfl hr (LamX.lamS_by (by show LamX.lamSB (defScope s_law) _ = true; decide +kernel)) (fun A outer s H E f c' hr2 => pe_dx (X := LamX.lamCx _ A outer s H E _ f c') Z.DRingX hr2 (passes_call (W := fun cls d _ H => E cls d H) (takes_of rfl rfl rfl rfl) (fun _ _ _ _ h => h)) (pa_cons (pe_slice (show SlR _ rSlS from sl_tupS) (pv 12) po_none (po_some pe_int)) pa_nil))) pa_nil)))
          (pss_cons (ps_expr (pe_bm PySem.F.plainAttrs_list PySem.F.slot_list_append PySem.F.type_list_append mt_append (pv 14) (pa_cons (pe_made (k := 8) Z.L TB rfl hr (LamX.lamS_by (by show LamX.lamSB (defScope s_law) _ = true; decide +kernel)) (fun A outer s H E f c' hr2 => pe_dx (X := LamX.lamCx _ A outer s H E _ f c') Z.DRingX hr2 (passes_call (W := fun cls d _ H => E cls d H) (takes_of rfl rfl rfl rfl) (fun _ _ _ _ h => h)) (pa_cons (pe_op (show OpR _ _ rCatS from op_catS) (pe_slice (show SlR _ rSlS from sl_tupS) (pv 12) po_none (po_some pe_int)) (pe_slice (show SlR _ rSlS from sl_tupS) (pv 12) po_none (po_some pe_int))) pa_nil))) pa_nil)))
          (pss_cons (ps_expr (pe_bm PySem.F.plainAttrs_list PySem.F.slot_list_append PySem.F.type_list_append mt_append (pv 14) (pa_cons (pe_made (k := 8) Z.L TB rfl hr (LamX.lamS_by (by show LamX.lamSB (defScope s_law) _ = true; decide +kernel)) (fun A outer s H E f c' hr2 => pe_dx (X := LamX.lamCx _ A outer s H E _ f c') Z.DRingX hr2 (passes_call (W := fun cls d _ H => E cls d H) (takes_of rfl rfl rfl rfl) (fun _ _ _ _ h => h)) (pa_cons (pe_callTy (show CallR _ _ (rLi K) from call_list_of) (by rfl) T.n_list (by decide +kernel) (pa_cons (pe_slice (show SlR _ rSlS from sl_tupS) (pv 12) po_none (po_some pe_int)) pa_nil)) pa_nil))) pa_nil)))
          (pss_one (ps_ret (pe_cmpR (op_eqD hu) (pv 14) (pe_lst (pa_cons pe_bl (pa_cons pe_bl (pa_cons pe_bl (pa_cons pe_bl (pa_cons pe_bl (pa_cons pe_bl (pa_cons pe_bl (pa_cons pe_bl (pa_cons pe_bl (pa_cons pe_bl (pa_cons pe_bl (pa_cons pe_bl (pa_cons pe_bl pa_nil)))))))))))))) (nomark _))))))))))))))))))), ?_⟩
    walk_at "rr"
    refine ⟨_, ns.length, rfl, .inl ⟨_, ha, by rw [List.length_map]⟩, ?_⟩
    walk_at "rr"
    refine ⟨by split <;> (try split) <;> omega, by split <;> (try split) <;> omega, ?_⟩
    generalize (if (if (ns.length : Int) < 4 then (ns.length : Int) else 4) > 1 then (if (ns.length : Int) < 4 then (ns.length : Int) else 4) else 1).toNat = m
    have tb0 : Tabs (lamT Pt) H := fun p hp => by rw [List.mem_singleton.mp hp]; exact TabS.nil hP
    refine for_range (lo := 0) (n := m) (fun i σ H' => ∃ v1 v2 v3 v4 v5 v6 v7 v8 v9 v10 : Option V, σ = [some (.ref a), v1, v2, v3, v4, v5, v6, v7, v8, v9, v10, none, none, none, none] ∧ ExtN H H' ∧ Tabs (lamT Pt) H') ⟨_, _, _, _, _, _, _, _, _, _, rfl, ExtN.refl _, tb0⟩ ?_ ?_
    · rintro i σ H1 hi ⟨v1, v2, v3, v4, v5, v6, v7, v8, v9, v10, rfl, e1, t1⟩
      walk_at "rr"
      refine ⟨a, ns, i, sql_ext ha e1, by show [V.ref a, V.int (0 + (i : Int))] = _; rw [Int.zero_add], fun d x y z hd0 => ?_⟩
      have gd : Dice (upd H1 d (.lst [.int x, .int y, .int z])) d := ⟨x, y, z, upd_same⟩
      obtain ⟨HD, eD, SD, hD⟩ := mk_new (.lst [.int x, .int y, .int z]) hd0
      rw [eD] at gd ⊢
      have tD : Tabs (lamT Pt) HD := t1.ext SD
      walk_at "rr"
      refine ⟨by decide, by decide, ?_⟩
      refine for_range (lo := 0) (n := 10) (fun j σ H' => ∃ v3 v4 v5 v6 v7 v8 v9 v10 : Option V, σ = [some (.ref a), some (.int (0 + (i : Int))), some (.ref d), v3, v4, v5, v6, v7, v8, v9, v10, none, none, none, none] ∧ GoN (lamT Pt) d HD H') ⟨_, _, _, _, _, _, _, _, rfl, GoN.refl gd tD⟩ ?_ ?_
      · rintro j σ H2 hj ⟨v3, v4, v5, v6, v7, v8, v9, v10, rfl, g2⟩
        walk_at "rr"
        refine ⟨g2.dice, by decide, by decide, fun p H3 ss ks g3 hpl hw h16 h7 hne => ?_⟩
        have h7 : ss.length ≤ 7 := h7
        have g03 := g2.go g3
        obtain ⟨⟨l1, l2, hpd, hl1, hl2⟩, hk⟩ := hpl
        walk_at "rr"
        refine ⟨_, _, rfl, dget_places hpd, ?_⟩
        walk_at "rr"
        refine ⟨l1, _, rfl, .inl ⟨SqL.of hl1, fun pa hpa => ?_⟩⟩
        obtain ⟨H4, e4, S4, h4⟩ := mk_new (.tup (ss.map V.str)) hpa
        rw [e4]
        walk_at "rr"
        refine ⟨_, _, rfl, dget_ties (S4 _ _ hpd), ?_⟩
        walk_at "rr"
        refine ⟨l2, _, rfl, .inl ⟨SqL.of (S4 _ _ hl2), fun ta hta => ?_⟩⟩
        obtain ⟨H5, e5, S5, h5⟩ := mk_new (.tup (rk ks)) hta
        rw [e5]
        walk_at "rr"
        refine ⟨show (2 : Nat) ≤ sizeLine by decide, fun pr hpr => ?_⟩
        obtain ⟨H6, e6, S6, h6⟩ := mk_new (.tup [.ref pa, .ref ta]) hpr
        rw [e6]
        refine ⟨pr, [.ref pa, .ref ta], rfl, SqT.of h6, rfl, ?_⟩
        walk_at "rr"
        have g06 := ((g03.same S4).same S5).same S6
        have hnm : ∀ x ∈ ss, isNameV (.str x) = true := fun x hx => names_word x (h16 x hx)
        have hl1' : 1 ≤ ss.length := List.length_pos_iff.mpr hne
        have hks21 : ks.length ≤ 21 := by have := hw.few7 h7; rwa [List.length_map] at this
        have P6 : PT H6 pa ta ss ks := ⟨⟨S6 _ _ (S5 _ _ h4), hw.as, hnm, hl1', by omega⟩, S6 _ _ h5, fun q hq => S6 _ _ (S5 _ _ (S4 _ _ (hk q hq)))⟩
        refine ⟨d, pa, ta, ss, ks, rfl, g06.dice, P6.p, P6.t, P6.k, hw, h16, by omega, fun q H7 w1 w2 g7 hq hv1 hv2 hno => ?_⟩
        have g07 := g06.go g7
        have P7 := P6.go g06.dice g7
        walk_at "rr"
        refine ⟨g07.tabs, fun H8 e8 t8 => ?_⟩
        walk_at "rr"
        intro x1 dx1 hx1 hdx1 ne1
        have P8 := P7.ext e8
        have S8 := made_S0 (C := C) hx1 hdx1 ne1
        have P8' := P8.same S8
        refine .inl ⟨x1, dx1, pa, ta, ss, rfl, upd_same, P8'.p, P8'.ok hw (by omega), fun H9 S9 => ⟨rfl, ?_⟩⟩
        have S89 := made_S (fs := wflds pa ta) hx1 hdx1 ne1 S9
        obtain ⟨H10, e10⟩ : ∃ X, upd H9 x1 (.ins C dx1 (wflds pa ta)) = X := ⟨_, rfl⟩
        rw [e10] at S89 ⊢
        have g10 := (g07.lam e8 t8).same S89
        have E10 := e8.trans (ExtN.of S89)
        walk_at "rr"
        refine ⟨g10.tabs, fun H11 e11 t11 => ?_⟩
        have E11 := E10.trans e11
        have g11 := g10.lam e11 t11
        have hq11 := E11 _ _ hq (fun _ h => nomatch h)
        walk_at "rr"
        refine ⟨q, _, _, _, rfl, rfl, SqL.of hq11, rfl, ?_⟩
        walk_at "rr"
        refine ⟨q, _, _, _, rfl, rfl, SqL.of hq11, rfl, ?_⟩
        walk_at "rr"
        intro x2 dx2 hx2 hdx2 ne2
        have S12 := made_S0 (C := C) hx2 hdx2 ne2
        have E12 := E11.trans (ExtN.of S12)
        refine .inr ⟨x2, w1, w2, rfl, vdT_ext hv1 E12, deepT_ext hv2 E12, fun h => hno (webok_backN E12 hv1 hv2 h), fun CI H13 hCI S13 => ⟨true, ?_, fun _ => ?_, fun h => nomatch h⟩⟩
        · have e := hCI.symm.trans Z.L.cs
          cases e
          exact Z.px
        have S113 := S12.trans S13
        have g13 := g11.same S113
        have P13 := P8.ext (((ExtN.of S89).trans e11).trans (ExtN.of S113))
        walk_at "rr"
        have h60 := pairs_ok hw.as h7
        refine ⟨pa, ss, rfl, P13.p, by omega, fun q1 H14 hq1 S14 hw1 => ?_⟩
        walk_at "rr"
        refine ⟨pa, ss, rfl, .inr (S14 _ _ P13.p.1), by omega, fun p1 H15 kp hp1 S15 hp15 hkp hperm hsrt => ?_⟩
        have nd := hw.as.nodup
        have hkpn := pairs_ks nd hperm
        have hkpl := pairs_few h7 hperm
        walk_at "rr"
        refine ⟨pa, p1, ss, kp, rfl, .inr (S15 _ _ (S14 _ _ P13.p.1)), hp15, hkp, fun z hz => ?_, by omega, by omega, fun p2 H16 ss2 ks2 hp2 S16 hpl2 hof2 => ?_⟩
        · obtain ⟨a, b, e, _⟩ := hkpn z hz
          exact ⟨a, b, e⟩
        obtain ⟨e2, et2⟩ := full_same hw.as hperm hof2
        subst e2
        have hw2 : Wb ss2 (ks2.map (·.2)) := ⟨hof2.as, hof2.at_, fun t ht => by
          rw [et2] at ht
          exact (pairsP_asc hw.as).2 t ht⟩
        have hks2 : ks2.length ≤ 21 := by have := congrArg List.length et2; rw [List.length_map] at this; omega
        walk_at "rr"
        refine ⟨p2, ss2, ks2, rfl, hpl2, hw2, hnm, hl1', by omega, by omega, fun q2 H17 hq2 S17 hw17 => ?_⟩
        have S1417 := (S15.trans S16).trans S17
        have hw1' := webAt_same hw1 S1417
        have okS : ∀ x ∈ ss2, PyData.strOk x = true := fun x hx => names_ok x (h16 x hx)
        have okP : ∀ t ∈ pairsP ss2, okT t := fun t ht => by
          obtain ⟨a, b, rfl, _, h1, h2⟩ := (pairsP_asc hw.as).2 t ht
          intro x hx
          rcases List.mem_cons.mp hx with rfl | hx
          · exact okS _ h1
          · rw [List.mem_singleton.mp hx]
            exact okS _ h2
        obtain ⟨⟨dxa, paa, taa, kaa, ha1, _⟩⟩ := id hw1'
        obtain ⟨⟨dxb, pab, tab, kab, hb1, _⟩⟩ := id hw17
        walk_at "rr"
        refine ⟨q1, q2, _, _, _, _, rfl, rfl, ha1, hb1, q1, q2, ss2, ss2, _, _, rfl, hw1', hw17, fun x hx => ?_, fun t ht => ?_, fun H18 S18 => ⟨_, rfl, ?_⟩⟩
        · rcases List.mem_append.mp hx with hx | hx <;> exact okS x hx
        · rcases List.mem_append.mp ht with ht | ht
          · exact okP t ht
          · rw [et2] at ht
            exact okP t ht
        rw [et2, decide_eq_true rfl, decide_eq_true rfl]
        walk_at "rr"
        have S1318 := (S14.trans S1417).trans S18
        have g18 := g13.same S1318
        have P18 := P13.same S1318
        refine ⟨_, ss2.length, rfl, .inr ⟨_, SqT.of P18.p.1, by rw [List.length_map]⟩, ?_⟩
        walk_at "rr"
        refine ite2 (fun c3 => ?_) (fun c3 => ?_)
        · have c3 : 3 ≤ ss2.length := by
            have : (2 : Int) < ss2.length := of_decide_eq_true c3
            omega
          walk_at "rr"
          refine ⟨d, pa, _, g18.dice, rfl, P18.p.1, by rw [List.length_map]; omega, fun q3 ys H19 g19 hq3 hq3d hq19 hperm3 => ?_⟩
          obtain ⟨rs, rfl, hrs⟩ := perm_strs hperm3
          have ndr := hrs.nodup_iff.mpr nd
          have hrl := hrs.length_eq
          have g19' := g18.go g19
          walk_at "rr"
          refine ⟨q3, _, rfl, .inl ⟨SqL.of hq19, fun rg hrg => ?_⟩⟩
          obtain ⟨H20, e20, S20, h20⟩ := mk_new (.tup (rs.map V.str)) hrg
          rw [e20]
          have g20 := g19'.same S20
          walk_at "rr"
          refine ⟨Nat.zero_le _, fun el hel => ?_⟩
          obtain ⟨H21, e21, S21, h21⟩ := mk_new (.lst []) hel
          rw [e21]
          have g21 := g20.same S21
          have hrg21 := S21 _ _ h20
          walk_at "rr"
          refine ⟨_, rs.length, rfl, .inr ⟨_, SqT.of hrg21, by rw [List.length_map]⟩, ?_⟩
          refine ⟨_, rfl, by omega, by omega, fun D hD => ?_⟩
          rw [Int.toNat_natCast]
          have hz := line1000
          refine lc_range (lo := 0) (n := rs.length) (PvT H21 D (cyc rs)) (PvT.start hD) ?_ ?_
          · rintro i2 H22 hi2 hP
            have hr22 := hP.s _ _ hrg21
            walk_at "rr"
            refine ⟨rfl, ?_⟩
            walk_at "rr"
            refine ⟨rg, _, _, _, rfl, rfl, SqT.of hr22, by rw [Int.zero_add]; exact atI_nat (at_str hi2), ?_⟩
            walk_at "rr"
            refine ⟨rg, _, _, _, rfl, rfl, SqT.of hr22, by rw [Int.zero_add]; exact atI_bef hi2, ?_⟩
            walk_at "rr"
            refine ⟨show (2 : Nat) ≤ sizeLine by decide, fun t ht => ?_⟩
            exact hP.put (t := [rs.getD i2 "", befS rs i2]) hD (by rw [cyc_len]; omega) (cyc_at hi2) ht
          · rintro H22 hP
            have S22 := hP.s
            rw [← cyc_len rs] at hP
            obtain ⟨kc, hkD, hkt, hkm⟩ := hP.fin
            have hkl : kc.length = rs.length := by have := congrArg List.length hkm; rwa [List.length_map, cyc_len] at this
            have g22 := g21.same S22
            have hcn := cyc_ne ndr (by omega)
            walk_at "rr"
            refine ⟨el, D, [], kc, rfl, .inl (S22 _ _ h21), hkD, hkt, fun z hz => ?_, Nat.zero_le _, by omega, fun p3 H23 ss3 ks3 hp3 S23 hpl3 hof3 => ?_⟩
            · obtain ⟨a, b, e, _⟩ := hcn z.2 (by rw [← hkm]; exact List.mem_map_of_mem hz)
              exact ⟨a, b, e⟩
            rw [hkm] at hof3
            have hrg23 := S23 _ _ (S22 _ _ hrg21)
            have hnr : ∀ s ∈ rs, isNameV (.str s) = true := fun s hs => hnm s (hrs.mem_iff.mp hs)
            walk_at "rr"
            refine ⟨rg, rs, rfl, hrg23, ndr, hnr, by omega, by omega, fun q4 H24 ssr tsr hq4 S24 hwr hasr hpr2 hatr hpt => ?_⟩
            obtain ⟨es, et⟩ := ring_same ndr (by omega) hasr hpr2 hatr hpt hof3
            subst es
            have hw3 : Wb ssr (ks3.map (·.2)) := ⟨hof3.as, hof3.at_, fun t ht => by
              rw [← et] at ht
              obtain ⟨x, y, e, hl, h1, h2⟩ := ringT_el ndr (by omega) t (hpt.mem_iff.mp ht)
              exact ⟨x, y, e, hl, hpr2.mem_iff.mpr h1, hpr2.mem_iff.mpr h2⟩⟩
            have hss3 : ∀ x ∈ ssr, x ∈ names16 := fun x hx => h16 x (hrs.mem_iff.mp (hpr2.mem_iff.mp hx))
            have hl3 := hpr2.length_eq
            have hk3 : ks3.length = rs.length := by
              have h1 := congrArg List.length et
              have h2 := hpt.length_eq
              rw [ringT_len] at h2
              rw [List.length_map] at h1
              omega
            walk_at "rr"
            refine ⟨p3, ssr, ks3, rfl, hpl3.same S24, hw3, fun x hx => names_word x (hss3 x hx), by omega, by omega, by omega, fun q5 H25 hq5 S25 hw25 => ?_⟩
            have hwr' := webAt_same hwr S25
            obtain ⟨⟨dxa, paa, taa, kaa, ha1, _⟩⟩ := id hwr'
            obtain ⟨⟨dxb, pab, tab, kab, hb1, _⟩⟩ := id hw25
            have okS3 : ∀ x ∈ ssr, PyData.strOk x = true := fun x hx => names_ok x (hss3 x hx)
            have okP3 : ∀ t ∈ tsr, okT t := fun t ht => by
              obtain ⟨x, y, rfl, _, h1, h2⟩ := ringT_el ndr (by omega) t (hpt.mem_iff.mp ht)
              intro z hz
              rcases List.mem_cons.mp hz with rfl | hz
              · exact okS3 _ (hpr2.mem_iff.mpr h1)
              · rw [List.mem_singleton.mp hz]
                exact okS3 _ (hpr2.mem_iff.mpr h2)
            walk_at "rr"
            refine ⟨q4, q5, _, _, _, _, rfl, rfl, ha1, hb1, q4, q5, ssr, ssr, _, _, rfl, hwr', hw25, fun x hx => ?_, fun t ht => ?_, fun H26 S26 => ⟨_, rfl, ?_⟩⟩
            · rcases List.mem_append.mp hx with hx | hx <;> exact okS3 x hx
            · rcases List.mem_append.mp ht with ht | ht
              · exact okP3 t ht
              · rw [← et] at ht
                exact okP3 t ht
            rw [et, decide_eq_true rfl, decide_eq_true rfl]
            walk_at "rr"
            exact ⟨_, _, _, _, _, _, _, _, rfl, ((((g22.same S23).same S24).same S25).same S26)⟩
        · exact ⟨_, _, _, _, _, _, _, _, rfl, g18⟩
      · rintro σ H2 ⟨v3, v4, v5, v6, v7, v8, v9, v10, rfl, g2⟩
        refine ⟨_, _, _, _, _, _, _, _, _, _, rfl, fun b o hb hn => ?_, g2.tabs⟩
        have h1 := SD _ _ (e1 b o hb hn)
        exact g2.keep b o (ne_of_none (e1 b o hb hn) hd0) h1 hn
    · rintro σ H1 ⟨v1, v2, v3, v4, v5, v6, v7, v8, v9, v10, rfl, e1, t1⟩
      walk_at "rr"
      refine fun pm H2 hpm S2 hm2 => ?_
      walk_at "rr"
      refine fun pn H3 hpn S3 hn3 => ?_
      walk_at "rr"
      refine ⟨pn, _, rfl, .inr (SqT.of hn3), fun ln hln => ?_⟩
      obtain ⟨H4, e4, S4, h4⟩ := mk_new (.lst ((namesP.take 12).map V.str)) hln
      rw [e4]
      walk_at "rr"
      refine ⟨ln, namesP.take 12, rfl, .inl h4, by decide +kernel, fun pq H5 ks hpq S5 h5 hk5 hperm hsrt => ?_⟩
      walk_at "rr"
      refine ⟨pq, _, rfl, .inl ⟨SqL.of h5, fun pr hpr => ?_⟩⟩
      obtain ⟨H6, e6, S6, h6⟩ := mk_new (.tup (rk ks)) hpr
      rw [e6]
      walk_at "rr"
      refine ⟨show (2 : Nat) ≤ sizeLine by decide, fun pt hpt => ?_⟩
      obtain ⟨H7, e7, S7, h7⟩ := mk_new (.tup [.ref pm, .ref pr]) hpt
      rw [e7]
      have hkl : ks.length = 66 := by
        have := hperm.length_eq
        rwa [List.length_map, pairs12] at this
      have hel : ∀ q ∈ ks, ∃ x y, q.2 = [x, y] ∧ ltS x y = true ∧ x ∈ names17.take 16 ∧ y ∈ names17.take 16 := fun q hq => by
        obtain ⟨a, b, e, h1, h2, h3⟩ := pairs_el q.2 (hperm.mem_iff.mp (List.mem_map_of_mem hq))
        obtain ⟨x, y, e2, hl, h⟩ := tieS_ne (h3 names12_nd)
        refine ⟨x, y, by rw [e, e2], hl, ?_, ?_⟩
        · rcases h with ⟨rfl, _⟩ | ⟨rfl, _⟩
          · exact names12_in _ h1
          · exact names12_in _ h2
        · rcases h with ⟨_, rfl⟩ | ⟨_, rfl⟩
          · exact names12_in _ h2
          · exact names12_in _ h1
      have hasc : Asc (ks.map (·.2)) := asc_of_srt hsrt (hperm.nodup_iff.mpr (pairs_nodup names12_nd))
      have hdl : ∀ q ∈ ks, q.2.length ≤ 1000 ∧ ∀ s ∈ q.2, s.length ≤ 1000 := fun q hq => by
        obtain ⟨x, y, e, _, h1, h2⟩ := hel q hq
        rw [e]
        refine ⟨(by decide : 2 ≤ 1000), fun s hs => ?_⟩
        rcases List.mem_cons.mp hs with rfl | hs
        · exact name_len (names17_ok _ (List.mem_of_mem_take h1))
        · rw [List.mem_singleton.mp hs]
          exact name_len (names17_ok _ (List.mem_of_mem_take h2))
      have S27 := (((S3.trans S4).trans S5).trans S6).trans S7
      have hs : Tl Pt pm pr ks H7 := ⟨t1.ext (S2.trans S27), S27 _ _ hm2, S7 _ _ h6, fun q hq => S7 _ _ (S6 _ _ (hk5 q hq))⟩
      refine ⟨pt, [.ref pm, .ref pr], rfl, SqT.of h7, rfl, ?_⟩
      walk_at "rr"
      refine ⟨hs.tabs, fun Ha1 ea1 ta1 => ?_⟩
      have hs := hs.lam ea1 ta1
      walk_at "rr"
      refine sl_m hs.m 16 16 rfl fun q2 Hs2 Ss2 hq2 => ?_
      have hs := hs.same Ss2
      walk_at "rr"
      refine ⟨Nat.zero_le _, fun tz1 htz1 => ?_⟩
      obtain ⟨Hz1, ez1, Sz1, hz1⟩ := mk_new (.tup []) htz1
      rw [ez1]
      have hs := hs.same Sz1
      walk_at "rr"
      refine lamW_ok (pl17 (Sz1 _ _ hq2) (by decide) (by decide)) ⟨tz1, [], rfl, hz1, (fun _ h => nomatch h), Nat.zero_le _, .nil, (fun _ h => nomatch h)⟩ fun v Hd1 Sd1 => ?_
      have hs := hs.same Sd1
      walk_at "rr"
      refine ⟨show (1 : Nat) ≤ sizeLine by decide, fun tl htl => ?_⟩
      obtain ⟨HL1, eL1, SL1, ht⟩ := mk_new (.lst [.bl true]) htl
      rw [eL1]
      have hs := hs.same SL1
      walk_at "rr"
      refine ⟨.inl ⟨rfl, _, SqL.of ht⟩, ?_⟩
      walk_at "rr"
      refine ⟨hs.tabs, fun Ha3 ea3 ta3 => ?_⟩
      have hs := hs.lam ea3 ta3
      have ht := ea3 _ _ ht (fun _ h => nomatch h)
      walk_at "rr"
      refine ⟨Nat.zero_le _, fun tz3 htz3 => ?_⟩
      obtain ⟨Hz3, ez3, Sz3, hz3⟩ := mk_new (.tup []) htz3
      rw [ez3]
      have hs := hs.same Sz3
      have ht := Sz3 _ _ ht
      walk_at "rr"
      refine lamW_no (vd17 (k := 17) hs.m) (deep_ties (ks := []) hz3 (fun _ h => nomatch h) (Nat.zero_le _) (fun _ h => nomatch h)) (fun ⟨pa2, ss2, ea2, hp2, _⟩ => ?_) fun CI3 Hd3 hCI3 Sd3 => ⟨true, exm_of Z hCI3, fun _ => ?_, fun h => nomatch h⟩
      · cases ea2
        have e9 := hp2.at_eq hs.m
        have h9 := hp2.2.2.2.2
        rw [e9, names17_len] at h9
        omega
      have hs := hs.same Sd3
      have ht := Sd3 _ _ ht
      walk_at "rr"
      refine ⟨tl, _, _, rfl, rfl, ht, show (1 : Nat) < sizeLine by decide, ?_⟩
      have hs := hs.put (ys := ([V.bl true] ++ [.bl false] : List V)) ht
      obtain ⟨HL2, eL2⟩ : ∃ X, upd Hd3 tl (.lst ([V.bl true] ++ [.bl false] : List V)) = X := ⟨_, rfl⟩
      rw [eL2] at hs ⊢
      have ht : HL2 tl = some (.lst [.bl true, .bl false]) := by rw [← eL2]; exact upd_same
      walk_at "rr"
      refine ⟨.inl ⟨rfl, _, SqL.of ht⟩, ?_⟩
      walk_at "rr"
      refine ⟨hs.tabs, fun Ha4 ea4 ta4 => ?_⟩
      have hs := hs.lam ea4 ta4
      have ht := ea4 _ _ ht (fun _ h => nomatch h)
      walk_at "rr"
      refine sl_m hs.m 16 16 rfl fun q5 Hs5 Ss5 hq5 => ?_
      have hs := hs.same Ss5
      have ht := Ss5 _ _ ht
      walk_at "rr"
      refine sl_p hs.p 60 60 rfl fun q6 Hs6 Ss6 hq6 => ?_
      have hs := hs.same Ss6
      have ht := Ss6 _ _ ht
      have hk6 : TK Hs6 (ks.take 60) := fun z hz => hs.k z (List.mem_of_mem_take hz)
      walk_at "rr"
      refine lamW_ok (pl17 (Ss6 _ _ hq5) (by decide) (by decide)) ⟨q6, ks.take 60, rfl, hq6, hk6, by rw [List.length_take]; omega, by rw [List.map_take]; exact List.Pairwise.sublist (List.take_sublist 60 _) hasc, fun z hz => hel z (List.mem_of_mem_take hz)⟩ fun v Hd4 Sd4 => ?_
      have hs := hs.same Sd4
      have ht := Sd4 _ _ ht
      walk_at "rr"
      refine ⟨tl, _, _, rfl, rfl, ht, show (2 : Nat) < sizeLine by decide, ?_⟩
      have hs := hs.put (ys := ([V.bl true, .bl false] ++ [.bl true] : List V)) ht
      obtain ⟨HL3, eL3⟩ : ∃ X, upd Hd4 tl (.lst ([V.bl true, .bl false] ++ [.bl true] : List V)) = X := ⟨_, rfl⟩
      rw [eL3] at hs ⊢
      have ht : HL3 tl = some (.lst [.bl true, .bl false, .bl true]) := by rw [← eL3]; exact upd_same
      walk_at "rr"
      refine ⟨.inl ⟨rfl, _, SqL.of ht⟩, ?_⟩
      walk_at "rr"
      refine ⟨hs.tabs, fun Ha7 ea7 ta7 => ?_⟩
      have hs := hs.lam ea7 ta7
      have ht := ea7 _ _ ht (fun _ h => nomatch h)
      walk_at "rr"
      refine sl_m hs.m 16 16 rfl fun q8 Hs8 Ss8 hq8 => ?_
      have hs := hs.same Ss8
      have ht := Ss8 _ _ ht
      walk_at "rr"
      refine sl_p hs.p 61 61 rfl fun q9 Hs9 Ss9 hq9 => ?_
      have hs := hs.same Ss9
      have ht := Ss9 _ _ ht
      have hk9 : TK Hs9 (ks.take 61) := fun z hz => hs.k z (List.mem_of_mem_take hz)
      walk_at "rr"
      refine lamW_no (pl17 (Ss9 _ _ hq8) (by decide) (by decide)).vd (deep_ties hq9 hk9 (by rw [List.length_take]; omega) fun z hz => hdl z (List.mem_of_mem_take hz)) (nw_t (pl17 (Ss9 _ _ hq8) (by decide) (by decide)) fun ⟨a2, ks2, ea2, ha2, _, hl2, _⟩ => ?_) fun CI7 Hd7 hCI7 Sd7 => ⟨true, exm_of Z hCI7, fun _ => ?_, fun h => nomatch h⟩
      · cases ea2
        have e9 := congrArg List.length (HO.tup.inj (Option.some.inj (hq9.symm.trans ha2)))
        rw [rk_len, rk_len, List.length_take, hkl] at e9
        have : ks2.length = 61 := by rw [← e9]; rfl
        omega
      have hs := hs.same Sd7
      have ht := Sd7 _ _ ht
      walk_at "rr"
      refine ⟨tl, _, _, rfl, rfl, ht, show (3 : Nat) < sizeLine by decide, ?_⟩
      have hs := hs.put (ys := ([V.bl true, .bl false, .bl true] ++ [.bl false] : List V)) ht
      obtain ⟨HL4, eL4⟩ : ∃ X, upd Hd7 tl (.lst ([V.bl true, .bl false, .bl true] ++ [.bl false] : List V)) = X := ⟨_, rfl⟩
      rw [eL4] at hs ⊢
      have ht : HL4 tl = some (.lst [.bl true, .bl false, .bl true, .bl false]) := by rw [← eL4]; exact upd_same
      walk_at "rr"
      refine ⟨.inl ⟨rfl, _, SqL.of ht⟩, ?_⟩
      walk_at "rr"
      refine ⟨hs.tabs, fun Ha10 ea10 ta10 => ?_⟩
      have hs := hs.lam ea10 ta10
      have ht := ea10 _ _ ht (fun _ h => nomatch h)
      walk_at "rr"
      refine sl_m hs.m 11 11 rfl fun q11 Hs11 Ss11 hq11 => ?_
      have hs := hs.same Ss11
      have ht := Ss11 _ _ ht
      refine Or.inl ⟨q11, names17.take 11, rfl, pl17 hq11 (by decide) (by decide), full11, fun qq10 Hd10 _ Sd10 _ => ?_⟩
      have hs := hs.same Sd10
      have ht := Sd10 _ _ ht
      walk_at "rr"
      refine ⟨tl, _, _, rfl, rfl, ht, show (4 : Nat) < sizeLine by decide, ?_⟩
      have hs := hs.put (ys := ([V.bl true, .bl false, .bl true, .bl false] ++ [.bl true] : List V)) ht
      obtain ⟨HL5, eL5⟩ : ∃ X, upd Hd10 tl (.lst ([V.bl true, .bl false, .bl true, .bl false] ++ [.bl true] : List V)) = X := ⟨_, rfl⟩
      rw [eL5] at hs ⊢
      have ht : HL5 tl = some (.lst [.bl true, .bl false, .bl true, .bl false, .bl true]) := by rw [← eL5]; exact upd_same
      walk_at "rr"
      refine ⟨.inl ⟨rfl, _, SqL.of ht⟩, ?_⟩
      walk_at "rr"
      refine ⟨hs.tabs, fun Ha12 ea12 ta12 => ?_⟩
      have hs := hs.lam ea12 ta12
      have ht := ea12 _ _ ht (fun _ h => nomatch h)
      walk_at "rr"
      refine sl_m hs.m 12 12 rfl fun q13 Hs13 Ss13 hq13 => ?_
      have hs := hs.same Ss13
      have ht := Ss13 _ _ ht
      refine Or.inr ⟨.ref q13, rfl, vd17 hq13, fun ⟨pa2, ss2, ea2, hp2, h60⟩ => ?_, fun CI12 Hd12 hCI12 Sd12 => ⟨true, exm_of Z hCI12, fun _ => ?_, fun h => nomatch h⟩⟩
      · cases ea2
        have e9 := hp2.at_eq hq13
        rw [e9] at h60
        exact full12 h60
      have hs := hs.same Sd12
      have ht := Sd12 _ _ ht
      walk_at "rr"
      refine ⟨tl, _, _, rfl, rfl, ht, show (5 : Nat) < sizeLine by decide, ?_⟩
      have hs := hs.put (ys := ([V.bl true, .bl false, .bl true, .bl false, .bl true] ++ [.bl false] : List V)) ht
      obtain ⟨HL6, eL6⟩ : ∃ X, upd Hd12 tl (.lst ([V.bl true, .bl false, .bl true, .bl false, .bl true] ++ [.bl false] : List V)) = X := ⟨_, rfl⟩
      rw [eL6] at hs ⊢
      have ht : HL6 tl = some (.lst [.bl true, .bl false, .bl true, .bl false, .bl true, .bl false]) := by rw [← eL6]; exact upd_same
      walk_at "rr"
      refine ⟨.inl ⟨rfl, _, SqL.of ht⟩, ?_⟩
      walk_at "rr"
      refine ⟨hs.tabs, fun Ha14 ea14 ta14 => ?_⟩
      have hs := hs.lam ea14 ta14
      have ht := ea14 _ _ ht (fun _ h => nomatch h)
      walk_at "rr"
      refine sl_m hs.m 2 2 rfl fun q15 Hs15 Ss15 hq15 => ?_
      have hs := hs.same Ss15
      have ht := Ss15 _ _ ht
      walk_at "rr"
      refine ⟨q15, _, rfl, SqT.of hq15, fun p16 hp16 => ?_⟩
      rw [← List.map_reverse]
      obtain ⟨Hz16, ez16, Sz16, hz16⟩ := mk_new (.tup ((names17.take 2).reverse.map V.str)) hp16
      rw [ez16]
      have hs := hs.same Sz16
      have ht := Sz16 _ _ ht
      refine Or.inr ⟨.ref p16, rfl, vd_strs hz16 (by decide +kernel) (by decide +kernel), fun ⟨pa2, ss2, ea2, hp2, _⟩ => ?_, fun CI14 Hd14 hCI14 Sd14 => ⟨true, exm_of Z hCI14, fun _ => ?_, fun h => nomatch h⟩⟩
      · cases ea2
        have e9 := hp2.at_eq hz16
        have h9 := hp2.2.1
        rw [e9] at h9
        exact absurd (asc_rev (names17_asc.take 2) h9) (by decide +kernel)
      have hs := hs.same Sd14
      have ht := Sd14 _ _ ht
      walk_at "rr"
      refine ⟨tl, _, _, rfl, rfl, ht, show (6 : Nat) < sizeLine by decide, ?_⟩
      have hs := hs.put (ys := ([V.bl true, .bl false, .bl true, .bl false, .bl true, .bl false] ++ [.bl false] : List V)) ht
      obtain ⟨HL7, eL7⟩ : ∃ X, upd Hd14 tl (.lst ([V.bl true, .bl false, .bl true, .bl false, .bl true, .bl false] ++ [.bl false] : List V)) = X := ⟨_, rfl⟩
      rw [eL7] at hs ⊢
      have ht : HL7 tl = some (.lst [.bl true, .bl false, .bl true, .bl false, .bl true, .bl false, .bl false]) := by rw [← eL7]; exact upd_same
      walk_at "rr"
      refine ⟨.inl ⟨rfl, _, SqL.of ht⟩, ?_⟩
      walk_at "rr"
      refine ⟨hs.tabs, fun Ha17 ea17 ta17 => ?_⟩
      have hs := hs.lam ea17 ta17
      have ht := ea17 _ _ ht (fun _ h => nomatch h)
      walk_at "rr"
      refine sl_m hs.m 1 1 rfl fun q18 Hs18 Ss18 hq18 => ?_
      have hs := hs.same Ss18
      have ht := Ss18 _ _ ht
      refine Or.inl ⟨q18, names17.take 1, rfl, pl17 hq18 (by decide) (by decide), full1, fun qq17 Hd17 _ Sd17 _ => ?_⟩
      have hs := hs.same Sd17
      have ht := Sd17 _ _ ht
      walk_at "rr"
      refine ⟨tl, _, _, rfl, rfl, ht, show (7 : Nat) < sizeLine by decide, ?_⟩
      have hs := hs.put (ys := ([V.bl true, .bl false, .bl true, .bl false, .bl true, .bl false, .bl false] ++ [.bl true] : List V)) ht
      obtain ⟨HL8, eL8⟩ : ∃ X, upd Hd17 tl (.lst ([V.bl true, .bl false, .bl true, .bl false, .bl true, .bl false, .bl false] ++ [.bl true] : List V)) = X := ⟨_, rfl⟩
      rw [eL8] at hs ⊢
      have ht : HL8 tl = some (.lst [.bl true, .bl false, .bl true, .bl false, .bl true, .bl false, .bl false, .bl true]) := by rw [← eL8]; exact upd_same
      walk_at "rr"
      refine ⟨.inl ⟨rfl, _, SqL.of ht⟩, ?_⟩
      walk_at "rr"
      refine ⟨hs.tabs, fun Ha19 ea19 ta19 => ?_⟩
      have hs := hs.lam ea19 ta19
      have ht := ea19 _ _ ht (fun _ h => nomatch h)
      walk_at "rr"
      refine sl_m hs.m 16 16 rfl fun q20 Hs20 Ss20 hq20 => ?_
      have hs := hs.same Ss20
      have ht := Ss20 _ _ ht
      refine Or.inl ⟨q20, names17.take 16, rfl, hq20, (names17_asc.take 16).nodup, fun s hs => names17_ok s (List.mem_of_mem_take hs), by decide +kernel, by decide +kernel, fun qq19 Hd19 _ _ _ Sd19 _ _ _ _ _ => ?_⟩
      have hs := hs.same Sd19
      have ht := Sd19 _ _ ht
      walk_at "rr"
      refine ⟨tl, _, _, rfl, rfl, ht, show (8 : Nat) < sizeLine by decide, ?_⟩
      have hs := hs.put (ys := ([V.bl true, .bl false, .bl true, .bl false, .bl true, .bl false, .bl false, .bl true] ++ [.bl true] : List V)) ht
      obtain ⟨HL9, eL9⟩ : ∃ X, upd Hd19 tl (.lst ([V.bl true, .bl false, .bl true, .bl false, .bl true, .bl false, .bl false, .bl true] ++ [.bl true] : List V)) = X := ⟨_, rfl⟩
      rw [eL9] at hs ⊢
      have ht : HL9 tl = some (.lst [.bl true, .bl false, .bl true, .bl false, .bl true, .bl false, .bl false, .bl true, .bl true]) := by rw [← eL9]; exact upd_same
      walk_at "rr"
      refine ⟨.inl ⟨rfl, _, SqL.of ht⟩, ?_⟩
      walk_at "rr"
      refine ⟨hs.tabs, fun Ha21 ea21 ta21 => ?_⟩
      have hs := hs.lam ea21 ta21
      have ht := ea21 _ _ ht (fun _ h => nomatch h)
      walk_at "rr"
      refine ⟨vd17 (k := 17) hs.m, fun ⟨a2, rs2, ea2, ha2, nd2, l3, l16⟩ => ?_, fun CI21 Hd21 hCI21 Sd21 => ⟨true, exm_of Z hCI21, fun _ => ?_, fun h => nomatch h⟩⟩
      · cases ea2
        have e9 : rs2 = names17 := strs_inj (HO.tup.inj (Option.some.inj (ha2.symm.trans hs.m)))
        rw [e9] at l3 l16
        revert l3 l16
        decide +kernel
      have hs := hs.same Sd21
      have ht := Sd21 _ _ ht
      walk_at "rr"
      refine ⟨tl, _, _, rfl, rfl, ht, show (9 : Nat) < sizeLine by decide, ?_⟩
      have hs := hs.put (ys := ([V.bl true, .bl false, .bl true, .bl false, .bl true, .bl false, .bl false, .bl true, .bl true] ++ [.bl false] : List V)) ht
      obtain ⟨HL10, eL10⟩ : ∃ X, upd Hd21 tl (.lst ([V.bl true, .bl false, .bl true, .bl false, .bl true, .bl false, .bl false, .bl true, .bl true] ++ [.bl false] : List V)) = X := ⟨_, rfl⟩
      rw [eL10] at hs ⊢
      have ht : HL10 tl = some (.lst [.bl true, .bl false, .bl true, .bl false, .bl true, .bl false, .bl false, .bl true, .bl true, .bl false]) := by rw [← eL10]; exact upd_same
      walk_at "rr"
      refine ⟨.inl ⟨rfl, _, SqL.of ht⟩, ?_⟩
      walk_at "rr"
      refine ⟨hs.tabs, fun Ha22 ea22 ta22 => ?_⟩
      have hs := hs.lam ea22 ta22
      have ht := ea22 _ _ ht (fun _ h => nomatch h)
      walk_at "rr"
      refine sl_m hs.m 2 2 rfl fun q23 Hs23 Ss23 hq23 => ?_
      have hs := hs.same Ss23
      have ht := Ss23 _ _ ht
      refine Or.inr ⟨.ref q23, rfl, vd17 hq23, fun ⟨a2, rs2, ea2, ha2, nd2, l3, l16⟩ => ?_, fun CI22 Hd22 hCI22 Sd22 => ⟨true, exm_of Z hCI22, fun _ => ?_, fun h => nomatch h⟩⟩
      · cases ea2
        have e9 : rs2 = names17.take 2 := strs_inj (HO.tup.inj (Option.some.inj (ha2.symm.trans hq23)))
        rw [e9] at l3 l16
        revert l3 l16
        decide +kernel
      have hs := hs.same Sd22
      have ht := Sd22 _ _ ht
      walk_at "rr"
      refine ⟨tl, _, _, rfl, rfl, ht, show (10 : Nat) < sizeLine by decide, ?_⟩
      have hs := hs.put (ys := ([V.bl true, .bl false, .bl true, .bl false, .bl true, .bl false, .bl false, .bl true, .bl true, .bl false] ++ [.bl false] : List V)) ht
      obtain ⟨HL11, eL11⟩ : ∃ X, upd Hd22 tl (.lst ([V.bl true, .bl false, .bl true, .bl false, .bl true, .bl false, .bl false, .bl true, .bl true, .bl false] ++ [.bl false] : List V)) = X := ⟨_, rfl⟩
      rw [eL11] at hs ⊢
      have ht : HL11 tl = some (.lst [.bl true, .bl false, .bl true, .bl false, .bl true, .bl false, .bl false, .bl true, .bl true, .bl false, .bl false]) := by rw [← eL11]; exact upd_same
      walk_at "rr"
      refine ⟨.inl ⟨rfl, _, SqL.of ht⟩, ?_⟩
      walk_at "rr"
      refine ⟨hs.tabs, fun Ha24 ea24 ta24 => ?_⟩
      have hs := hs.lam ea24 ta24
      have ht := ea24 _ _ ht (fun _ h => nomatch h)
      walk_at "rr"
      refine sl_m hs.m 3 3 rfl fun q25 Hs25 Ss25 hq25 => ?_
      have hs := hs.same Ss25
      have ht := Ss25 _ _ ht
      walk_at "rr"
      refine sl_m hs.m 1 1 rfl fun q26 Hs26 Ss26 hq26 => ?_
      have hs := hs.same Ss26
      have ht := Ss26 _ _ ht
      walk_at "rr"
      refine ⟨q25, q26, _, _, rfl, rfl, Ss26 _ _ hq25, hq26, by decide +kernel, fun p27 Hz27 Sz27 hz27 => ?_⟩
      rw [← List.map_append] at hz27
      have hs := hs.same Sz27
      have ht := Sz27 _ _ ht
      refine Or.inr ⟨.ref p27, rfl, vd_strs hz27 (by decide +kernel) (by decide +kernel), fun ⟨a2, rs2, ea2, ha2, nd2, l3, l16⟩ => ?_, fun CI24 Hd24 hCI24 Sd24 => ⟨true, exm_of Z hCI24, fun _ => ?_, fun h => nomatch h⟩⟩
      · cases ea2
        have e9 : rs2 = names17.take 3 ++ names17.take 1 := strs_inj (HO.tup.inj (Option.some.inj (ha2.symm.trans hz27)))
        rw [e9] at nd2
        revert nd2
        decide +kernel
      have hs := hs.same Sd24
      have ht := Sd24 _ _ ht
      walk_at "rr"
      refine ⟨tl, _, _, rfl, rfl, ht, show (11 : Nat) < sizeLine by decide, ?_⟩
      have hs := hs.put (ys := ([V.bl true, .bl false, .bl true, .bl false, .bl true, .bl false, .bl false, .bl true, .bl true, .bl false, .bl false] ++ [.bl false] : List V)) ht
      obtain ⟨HL12, eL12⟩ : ∃ X, upd Hd24 tl (.lst ([V.bl true, .bl false, .bl true, .bl false, .bl true, .bl false, .bl false, .bl true, .bl true, .bl false, .bl false] ++ [.bl false] : List V)) = X := ⟨_, rfl⟩
      rw [eL12] at hs ⊢
      have ht : HL12 tl = some (.lst [.bl true, .bl false, .bl true, .bl false, .bl true, .bl false, .bl false, .bl true, .bl true, .bl false, .bl false, .bl false]) := by rw [← eL12]; exact upd_same
      walk_at "rr"
      refine ⟨.inl ⟨rfl, _, SqL.of ht⟩, ?_⟩
      walk_at "rr"
      refine ⟨hs.tabs, fun Ha28 ea28 ta28 => ?_⟩
      have hs := hs.lam ea28 ta28
      have ht := ea28 _ _ ht (fun _ h => nomatch h)
      walk_at "rr"
      refine sl_m hs.m 4 4 rfl fun q29 Hs29 Ss29 hq29 => ?_
      have hs := hs.same Ss29
      have ht := Ss29 _ _ ht
      walk_at "rr"
      refine ⟨q29, _, rfl, .inr (SqT.of hq29), fun p30 hp30 => ?_⟩
      obtain ⟨Hz30, ez30, Sz30, hz30⟩ := mk_new (.lst ((names17.take 4).map V.str)) hp30
      rw [ez30]
      have hs := hs.same Sz30
      have ht := Sz30 _ _ ht
      refine Or.inr ⟨.ref p30, rfl, vd_lst hz30, fun ⟨a2, rs2, ea2, ha2, nd2, l3, l16⟩ => ?_, fun CI28 Hd28 hCI28 Sd28 => ⟨true, exm_of Z hCI28, fun _ => ?_, fun h => nomatch h⟩⟩
      · cases ea2
        rw [hz30] at ha2
        cases ha2
      have hs := hs.same Sd28
      have ht := Sd28 _ _ ht
      walk_at "rr"
      refine ⟨tl, _, _, rfl, rfl, ht, show (12 : Nat) < sizeLine by decide, ?_⟩
      have hs := hs.put (ys := ([V.bl true, .bl false, .bl true, .bl false, .bl true, .bl false, .bl false, .bl true, .bl true, .bl false, .bl false, .bl false] ++ [.bl false] : List V)) ht
      obtain ⟨HL13, eL13⟩ : ∃ X, upd Hd28 tl (.lst ([V.bl true, .bl false, .bl true, .bl false, .bl true, .bl false, .bl false, .bl true, .bl true, .bl false, .bl false, .bl false] ++ [.bl false] : List V)) = X := ⟨_, rfl⟩
      rw [eL13] at hs ⊢
      have ht : HL13 tl = some (.lst [.bl true, .bl false, .bl true, .bl false, .bl true, .bl false, .bl false, .bl true, .bl true, .bl false, .bl false, .bl false, .bl false]) := by rw [← eL13]; exact upd_same
      walk_at "rr"
      refine ⟨show (13 : Nat) ≤ sizeLine by decide, fun q hq => ?_⟩
      have hf := (same_new (o := .lst [V.bl true, .bl false, .bl true, .bl false, .bl true, .bl false, .bl false, .bl true, .bl true, .bl false, .bl false, .bl false, .bl false]) hq) tl _ ht
      walk_at "rr"
      have cons13 : ∀ {H' : Hp} (bs : List Bool), DpAll K H' (bs.map V.bl) (bs.map PyData.bool) := fun bs => by
        induction bs with
        | nil => exact .nil
        | cons b bs ih => exact .cons (.bl b) ih
      refine ⟨_, _, .lst (SqL.of hf) (cons13 [true, false, true, false, true, false, false, true, true, false, false, false, false]), .lst (SqL.of upd_same) (cons13 [true, false, true, false, true, false, false, true, true, false, false, false, false]), by decide +kernel, by decide +kernel, ?_⟩
      exact q_bl (Q := Q) (by decide +kernel) (k _)
end
end K5
namespace K5
open PySem PySem.Spec PyProof.Rows L2 RS RZ ZS
/-! ### the end -/
theorem all_mk {l : PySem.W.OpenLaw} {w : World} {K : PySem.W.Frag} {h : Heap} {mg : Str → Option Value} {fa C cIW cL PL f0 f1 f2 f3 f4 f5 f6 f7 f8 f9 f10 f11 f12 f13 f14 f15 f16 f17 f18 f19 f20 f21 f22 f23 f24 f25 f26 f27 f28 f29 f30 f31 f32 fI fE : Addr} (X : K.In h) (G : h.Ns mainGlobals mg) (hfa : mg "law" = some (.ref fa)) (own : LamX.OwnTab K fa h)
    {dcL od0 an0 od1 an1 od2 an2 od3 an3 od4 an4 od5 an5 od6 an6 od7 an7 od8 an8 od9 an9 od10 an10 od11 an11 od12 an12 od13 an13 od14 an14 od15 an15 od16 an16 od17 an17 od18 an18 od19 an19 od20 an20 od21 an21 od22 an22 od23 an23 od24 an24 od25 an25 od26 an26 od27 an27 od28 an28 od29 an29 od30 an30 od31 an31 od32 an32 odI anI odE anE : Option Addr} {slL sl0 sl1 sl2 sl3 sl4 sl5 sl6 sl7 sl8 sl9 sl10 sl11 sl12 sl13 sl14 sl15 sl16 sl17 sl18 sl19 sl20 sl21 sl22 sl23 sl24 sl25 sl26 sl27 sl28 sl29 sl30 sl31 sl32 slI slE : Array (Option Value)} {vsL : Array Value} {oc0 kV0 dc0 pm0 ct0 oc1 kV1 dc1 pm1 ct1 oc2 kV2 dc2 pm2 ct2 oc3 kV3 dc3 pm3 ct3 oc4 kV4 dc4 pm4 ct4 oc5 kV5 dc5 pm5 ct5 oc6 kV6 dc6 pm6 ct6 oc7 kV7 dc7 pm7 ct7 oc8 kV8 dc8 pm8 ct8 oc9 kV9 dc9 pm9 ct9 oc10 kV10 dc10 pm10 ct10 oc11 kV11 dc11 pm11 ct11 oc12 kV12 dc12 pm12 ct12 oc13 kV13 dc13 pm13 ct13 oc14 kV14 dc14 pm14 ct14 oc15 kV15 dc15 pm15 ct15 oc16 kV16 dc16 pm16 ct16 oc17 kV17 dc17 pm17 ct17 oc18 kV18 dc18 pm18 ct18 oc19 kV19 dc19 pm19 ct19 oc20 kV20 dc20 pm20 ct20 oc21 kV21 dc21 pm21 ct21 oc22 kV22 dc22 pm22 ct22 oc23 kV23 dc23 pm23 ct23 oc24 kV24 dc24 pm24 ct24 oc25 kV25 dc25 pm25 ct25 oc26 kV26 dc26 pm26 ct26 oc27 kV27 dc27 pm27 ct27 oc28 kV28 dc28 pm28 ct28 oc29 kV29 dc29 pm29 ct29 oc30 kV30 dc30 pm30 ct30 oc31 kV31 dc31 pm31 ct31 oc32 kV32 dc32 pm32 ct32 ocI kVI dcI pmI ctI ocE kVE dcE pmE ctE cd0 cd1 cd2 cd3 cd4 cd5 cd6 cd7 cd8 cd9 cd10 cd11 cd12 cd13 cd14 cd15 cd16 cd17 cd18 cd19 cd20 cd21 cd22 cd23 cd24 cd25 cd26 cd27 cd28 cd29 cd30 cd31 cdI cdE : Value} {fiL : Str} {flL txL : Int} {inL : Bool} {tfL tgL ttL t_ML t_MP t_MT : Tok}
    (g_IW : PySem.W.nsIn K mainGlobals "InvalidWeb" = some (some (.ref cIW)))
    (pk_IW : PySem.W.keepIn K (.ref cIW) = true)
    (pq_IW : PySem.W.excIn K cIW [.type "ValueError", .type "Exception", .type "BaseException", .type "object"] "ValueError.__new__" = true)
    (ps_IW : PySem.W.subIn K (.ref cIW) (.type "BaseException") = some true)
    (pt_IW : PySem.W.typeIn K (.ref cIW) = some (.type "type"))
    (px_IW : PySem.W.exmOne K (.ref cIW) (.ref cIW) = some true)
    (aC : PySem.W.nsIn K mainGlobals "Web" = some (some (.ref C)))
    (a0 : PySem.W.nsIn K mainGlobals "is_name" = some (some (.ref f0)))
    (l0 : K.lookup f0 = some ⟨oc0, od0, .func (PySem.W.fnOf "is_name" "is_name" (defArgs s_is_name) (defBody s_is_name) (defScope s_is_name) .none kV0 dc0 pm0 an0 cd0 ct0), sl0⟩)
    (c0 : PySem.W.codeIn K cd0 "is_name" = true)
    (k0 : PySem.W.keepIn K (.ref f0) = true)
    (a1 : PySem.W.nsIn K mainGlobals "are_names" = some (some (.ref f1)))
    (l1 : K.lookup f1 = some ⟨oc1, od1, .func (PySem.W.fnOf "are_names" "are_names" (defArgs s_are_names) (defBody s_are_names) (defScope s_are_names) .none kV1 dc1 pm1 an1 cd1 ct1), sl1⟩)
    (c1 : PySem.W.codeIn K cd1 "are_names" = true)
    (k1 : PySem.W.keepIn K (.ref f1) = true)
    (a2 : PySem.W.nsIn K mainGlobals "are_different_names" = some (some (.ref f2)))
    (l2 : K.lookup f2 = some ⟨oc2, od2, .func (PySem.W.fnOf "are_different_names" "are_different_names" (defArgs s_are_different_names) (defBody s_are_different_names) (defScope s_are_different_names) .none kV2 dc2 pm2 an2 cd2 ct2), sl2⟩)
    (c2 : PySem.W.codeIn K cd2 "are_different_names" = true)
    (k2 : PySem.W.keepIn K (.ref f2) = true)
    (a3 : PySem.W.nsIn K mainGlobals "is_ascending" = some (some (.ref f3)))
    (l3 : K.lookup f3 = some ⟨oc3, od3, .func (PySem.W.fnOf "is_ascending" "is_ascending" (defArgs s_is_ascending) (defBody s_is_ascending) (defScope s_is_ascending) .none kV3 dc3 pm3 an3 cd3 ct3), sl3⟩)
    (c3 : PySem.W.codeIn K cd3 "is_ascending" = true)
    (k3 : PySem.W.keepIn K (.ref f3) = true)
    (a4 : PySem.W.nsIn K mainGlobals "are_ascending_names" = some (some (.ref f4)))
    (l4 : K.lookup f4 = some ⟨oc4, od4, .func (PySem.W.fnOf "are_ascending_names" "are_ascending_names" (defArgs s_are_ascending_names) (defBody s_are_ascending_names) (defScope s_are_ascending_names) .none kV4 dc4 pm4 an4 cd4 ct4), sl4⟩)
    (c4 : PySem.W.codeIn K cd4 "are_ascending_names" = true)
    (k4 : PySem.W.keepIn K (.ref f4) = true)
    (a5 : PySem.W.nsIn K mainGlobals "is_tie" = some (some (.ref f5)))
    (l5 : K.lookup f5 = some ⟨oc5, od5, .func (PySem.W.fnOf "is_tie" "is_tie" (defArgs s_is_tie) (defBody s_is_tie) (defScope s_is_tie) .none kV5 dc5 pm5 an5 cd5 ct5), sl5⟩)
    (c5 : PySem.W.codeIn K cd5 "is_tie" = true)
    (k5 : PySem.W.keepIn K (.ref f5) = true)
    (a6 : PySem.W.nsIn K mainGlobals "tie_of" = some (some (.ref f6)))
    (l6 : K.lookup f6 = some ⟨oc6, od6, .func (PySem.W.fnOf "tie_of" "tie_of" (defArgs s_tie_of) (defBody s_tie_of) (defScope s_tie_of) .none kV6 dc6 pm6 an6 cd6 ct6), sl6⟩)
    (c6 : PySem.W.codeIn K cd6 "tie_of" = true)
    (k6 : PySem.W.keepIn K (.ref f6) = true)
    (a7 : PySem.W.nsIn K mainGlobals "pairs_of" = some (some (.ref f7)))
    (l7 : K.lookup f7 = some ⟨oc7, od7, .func (PySem.W.fnOf "pairs_of" "pairs_of" (defArgs s_pairs_of) (defBody s_pairs_of) (defScope s_pairs_of) .none kV7 dc7 pm7 an7 cd7 ct7), sl7⟩)
    (c7 : PySem.W.codeIn K cd7 "pairs_of" = true)
    (k7 : PySem.W.keepIn K (.ref f7) = true)
    (a8 : PySem.W.nsIn K mainGlobals "_are_places" = some (some (.ref f8)))
    (l8 : K.lookup f8 = some ⟨oc8, od8, .func (PySem.W.fnOf "_are_places" "_are_places" (defArgs s_are_places) (defBody s_are_places) (defScope s_are_places) .none kV8 dc8 pm8 an8 cd8 ct8), sl8⟩)
    (c8 : PySem.W.codeIn K cd8 "_are_places" = true)
    (k8 : PySem.W.keepIn K (.ref f8) = true)
    (a9 : PySem.W.nsIn K mainGlobals "are_ties" = some (some (.ref f9)))
    (l9 : K.lookup f9 = some ⟨oc9, od9, .func (PySem.W.fnOf "are_ties" "are_ties" (defArgs s_are_ties) (defBody s_are_ties) (defScope s_are_ties) .none kV9 dc9 pm9 an9 cd9 ct9), sl9⟩)
    (c9 : PySem.W.codeIn K cd9 "are_ties" = true)
    (k9 : PySem.W.keepIn K (.ref f9) = true)
    (a10 : PySem.W.nsIn K mainGlobals "full_web" = some (some (.ref f10)))
    (l10 : K.lookup f10 = some ⟨oc10, od10, .func (PySem.W.fnOf "full_web" "full_web" (defArgs s_full_web) (defBody s_full_web) (defScope s_full_web) .none kV10 dc10 pm10 an10 cd10 ct10), sl10⟩)
    (c10 : PySem.W.codeIn K cd10 "full_web" = true)
    (k10 : PySem.W.keepIn K (.ref f10) = true)
    (a11 : PySem.W.nsIn K mainGlobals "ring_web" = some (some (.ref f11)))
    (l11 : K.lookup f11 = some ⟨oc11, od11, .func (PySem.W.fnOf "ring_web" "ring_web" (defArgs s_ring_web) (defBody s_ring_web) (defScope s_ring_web) .none kV11 dc11 pm11 an11 cd11 ct11), sl11⟩)
    (c11 : PySem.W.codeIn K cd11 "ring_web" = true)
    (k11 : PySem.W.keepIn K (.ref f11) = true)
    (a12 : PySem.W.nsIn K mainGlobals "_law_dice" = some (some (.ref f12)))
    (l12 : K.lookup f12 = some ⟨oc12, od12, .func (PySem.W.fnOf "_law_dice" "_law_dice" (defArgs s_law_dice) (defBody s_law_dice) (defScope s_law_dice) .none kV12 dc12 pm12 an12 cd12 ct12), sl12⟩)
    (c12 : PySem.W.codeIn K cd12 "_law_dice" = true)
    (k12 : PySem.W.keepIn K (.ref f12) = true)
    (a13 : PySem.W.nsIn K mainGlobals "_law_roll" = some (some (.ref f13)))
    (l13 : K.lookup f13 = some ⟨oc13, od13, .func (PySem.W.fnOf "_law_roll" "_law_roll" (defArgs s_law_roll) (defBody s_law_roll) (defScope s_law_roll) .none kV13 dc13 pm13 an13 cd13 ct13), sl13⟩)
    (c13 : PySem.W.codeIn K cd13 "_law_roll" = true)
    (k13 : PySem.W.keepIn K (.ref f13) = true)
    (a14 : PySem.W.nsIn K mainGlobals "_law_pick" = some (some (.ref f14)))
    (l14 : K.lookup f14 = some ⟨oc14, od14, .func (PySem.W.fnOf "_law_pick" "_law_pick" (defArgs s_law_pick) (defBody s_law_pick) (defScope s_law_pick) .none kV14 dc14 pm14 an14 cd14 ct14), sl14⟩)
    (c14 : PySem.W.codeIn K cd14 "_law_pick" = true)
    (k14 : PySem.W.keepIn K (.ref f14) = true)
    (a15 : PySem.W.nsIn K mainGlobals "_law_mixed" = some (some (.ref f15)))
    (l15 : K.lookup f15 = some ⟨oc15, od15, .func (PySem.W.fnOf "_law_mixed" "_law_mixed" (defArgs s_law_mixed) (defBody s_law_mixed) (defScope s_law_mixed) .none kV15 dc15 pm15 an15 cd15 ct15), sl15⟩)
    (c15 : PySem.W.codeIn K cd15 "_law_mixed" = true)
    (k15 : PySem.W.keepIn K (.ref f15) = true)
    (a16 : PySem.W.nsIn K mainGlobals "_law_tie" = some (some (.ref f16)))
    (l16 : K.lookup f16 = some ⟨oc16, od16, .func (PySem.W.fnOf "_law_tie" "_law_tie" (defArgs s_law_tie) (defBody s_law_tie) (defScope s_law_tie) .none kV16 dc16 pm16 an16 cd16 ct16), sl16⟩)
    (c16 : PySem.W.codeIn K cd16 "_law_tie" = true)
    (k16 : PySem.W.keepIn K (.ref f16) = true)
    (a17 : PySem.W.nsIn K mainGlobals "_law_plain" = some (some (.ref f17)))
    (l17 : K.lookup f17 = some ⟨oc17, od17, .func (PySem.W.fnOf "_law_plain" "_law_plain" (defArgs s_law_plain) (defBody s_law_plain) (defScope s_law_plain) .none kV17 dc17 pm17 an17 cd17 ct17), sl17⟩)
    (c17 : PySem.W.codeIn K cd17 "_law_plain" = true)
    (k17 : PySem.W.keepIn K (.ref f17) = true)
    (a18 : PySem.W.nsIn K mainGlobals "_law_made" = some (some (.ref f18)))
    (l18 : K.lookup f18 = some ⟨oc18, od18, .func (PySem.W.fnOf "_law_made" "_law_made" (defArgs s_law_made) (defBody s_law_made) (defScope s_law_made) .none kV18 dc18 pm18 an18 cd18 ct18), sl18⟩)
    (c18 : PySem.W.codeIn K cd18 "_law_made" = true)
    (k18 : PySem.W.keepIn K (.ref f18) = true)
    (a19 : PySem.W.nsIn K mainGlobals "_law_pairs" = some (some (.ref f19)))
    (l19 : K.lookup f19 = some ⟨oc19, od19, .func (PySem.W.fnOf "_law_pairs" "_law_pairs" (defArgs s_law_pairs) (defBody s_law_pairs) (defScope s_law_pairs) .none kV19 dc19 pm19 an19 cd19 ct19), sl19⟩)
    (c19 : PySem.W.codeIn K cd19 "_law_pairs" = true)
    (k19 : PySem.W.keepIn K (.ref f19) = true)
    (a20 : PySem.W.nsIn K mainGlobals "_law_beside" = some (some (.ref f20)))
    (l20 : K.lookup f20 = some ⟨oc20, od20, .func (PySem.W.fnOf "_law_beside" "_law_beside" (defArgs s_law_beside) (defBody s_law_beside) (defScope s_law_beside) .none kV20 dc20 pm20 an20 cd20 ct20), sl20⟩)
    (c20 : PySem.W.codeIn K cd20 "_law_beside" = true)
    (k20 : PySem.W.keepIn K (.ref f20) = true)
    (a21 : PySem.W.nsIn K mainGlobals "_law_wheel" = some (some (.ref f21)))
    (l21 : K.lookup f21 = some ⟨oc21, od21, .func (PySem.W.fnOf "_law_wheel" "_law_wheel" (defArgs s_law_wheel) (defBody s_law_wheel) (defScope s_law_wheel) .none kV21 dc21 pm21 an21 cd21 ct21), sl21⟩)
    (c21 : PySem.W.codeIn K cd21 "_law_wheel" = true)
    (k21 : PySem.W.keepIn K (.ref f21) = true)
    (a22 : PySem.W.nsIn K mainGlobals "_law_plain_ring" = some (some (.ref f22)))
    (l22 : K.lookup f22 = some ⟨oc22, od22, .func (PySem.W.fnOf "_law_plain_ring" "_law_plain_ring" (defArgs s_law_plain_ring) (defBody s_law_plain_ring) (defScope s_law_plain_ring) .none kV22 dc22 pm22 an22 cd22 ct22), sl22⟩)
    (c22 : PySem.W.codeIn K cd22 "_law_plain_ring" = true)
    (k22 : PySem.W.keepIn K (.ref f22) = true)
    (a23 : PySem.W.nsIn K mainGlobals "_law_behind" = some (some (.ref f23)))
    (l23 : K.lookup f23 = some ⟨oc23, od23, .func (PySem.W.fnOf "_law_behind" "_law_behind" (defArgs s_law_behind) (defBody s_law_behind) (defScope s_law_behind) .none kV23 dc23 pm23 an23 cd23 ct23), sl23⟩)
    (c23 : PySem.W.codeIn K cd23 "_law_behind" = true)
    (k23 : PySem.W.keepIn K (.ref f23) = true)
    (a24 : PySem.W.nsIn K mainGlobals "_law_names" = some (some (.ref f24)))
    (l24 : K.lookup f24 = some ⟨oc24, od24, .func (PySem.W.fnOf "_law_names" "_law_names" (defArgs s_law_names) (defBody s_law_names) (defScope s_law_names) .none kV24 dc24 pm24 an24 cd24 ct24), sl24⟩)
    (c24 : PySem.W.codeIn K cd24 "_law_names" = true)
    (k24 : PySem.W.keepIn K (.ref f24) = true)
    (a25 : PySem.W.nsIn K mainGlobals "_law_drawn_step" = some (some (.ref f25)))
    (l25 : K.lookup f25 = some ⟨oc25, od25, .func (PySem.W.fnOf "_law_drawn_step" "_law_drawn_step" (defArgs s_law_drawn_step) (defBody s_law_drawn_step) (defScope s_law_drawn_step) .none kV25 dc25 pm25 an25 cd25 ct25), sl25⟩)
    (c25 : PySem.W.codeIn K cd25 "_law_drawn_step" = true)
    (k25 : PySem.W.keepIn K (.ref f25) = true)
    (a26 : PySem.W.nsIn K mainGlobals "_law_grown" = some (some (.ref f26)))
    (l26 : K.lookup f26 = some ⟨oc26, od26, .func (PySem.W.fnOf "_law_grown" "_law_grown" (defArgs s_law_grown) (defBody s_law_grown) (defScope s_law_grown) .none kV26 dc26 pm26 an26 cd26 ct26), sl26⟩)
    (c26 : PySem.W.codeIn K cd26 "_law_grown" = true)
    (k26 : PySem.W.keepIn K (.ref f26) = true)
    (a27 : PySem.W.nsIn K mainGlobals "_law_random" = some (some (.ref f27)))
    (l27 : K.lookup f27 = some ⟨oc27, od27, .func (PySem.W.fnOf "_law_random" "_law_random" (defArgs s_law_random) (defBody s_law_random) (defScope s_law_random) .none kV27 dc27 pm27 an27 cd27 ct27), sl27⟩)
    (c27 : PySem.W.codeIn K cd27 "_law_random" = true)
    (k27 : PySem.W.keepIn K (.ref f27) = true)
    (a28 : PySem.W.nsIn K mainGlobals "_law_any" = some (some (.ref f28)))
    (l28 : K.lookup f28 = some ⟨oc28, od28, .func (PySem.W.fnOf "_law_any" "_law_any" (defArgs s_law_any) (defBody s_law_any) (defScope s_law_any) .none kV28 dc28 pm28 an28 cd28 ct28), sl28⟩)
    (c28 : PySem.W.codeIn K cd28 "_law_any" = true)
    (k28 : PySem.W.keepIn K (.ref f28) = true)
    (a29 : PySem.W.nsIn K mainGlobals "_law_is_made" = some (some (.ref f29)))
    (l29 : K.lookup f29 = some ⟨oc29, od29, .func (PySem.W.fnOf "_law_is_made" "_law_is_made" (defArgs s_law_is_made) (defBody s_law_is_made) (defScope s_law_is_made) .none kV29 dc29 pm29 an29 cd29 ct29), sl29⟩)
    (c29 : PySem.W.codeIn K cd29 "_law_is_made" = true)
    (k29 : PySem.W.keepIn K (.ref f29) = true)
    (a30 : PySem.W.nsIn K mainGlobals "_law_names_of" = some (some (.ref f30)))
    (l30 : K.lookup f30 = some ⟨oc30, od30, .func (PySem.W.fnOf "_law_names_of" "_law_names_of" (defArgs s_law_names_of) (defBody s_law_names_of) (defScope s_law_names_of) .none kV30 dc30 pm30 an30 cd30 ct30), sl30⟩)
    (c30 : PySem.W.codeIn K cd30 "_law_names_of" = true)
    (k30 : PySem.W.keepIn K (.ref f30) = true)
    (a31 : PySem.W.nsIn K mainGlobals "_law_bent" = some (some (.ref f31)))
    (l31 : K.lookup f31 = some ⟨oc31, od31, .func (PySem.W.fnOf "_law_bent" "_law_bent" (defArgs s_law_bent) (defBody s_law_bent) (defScope s_law_bent) .none kV31 dc31 pm31 an31 cd31 ct31), sl31⟩)
    (c31 : PySem.W.codeIn K cd31 "_law_bent" = true)
    (k31 : PySem.W.keepIn K (.ref f31) = true)
    (a32 : PySem.W.nsIn K mainGlobals "law" = some (some (.ref f32)))
    (l32 : K.lookup f32 = some ⟨oc32, od32, .func (PySem.W.fnOf "law" "law" (defArgs s_law) (defBody s_law) (defScope s_law) .none kV32 dc32 pm32 an32 (.ref cL) ct32), sl32⟩)
    (c32 : PySem.W.codeIn K (.ref cL) "law" = true)
    (k32 : PySem.W.keepIn K (.ref f32) = true)
    (aI : PySem.W.findIn K (.ref C) "__init__" = some (some (.ref fI)))
    (iI : PySem.W.isFn K (.ref fI) = true)
    (lI : K.lookup fI = some ⟨ocI, odI, .func (PySem.W.fnOf "__init__" "Web.__init__" (defArgs s_web_init) (defBody s_web_init) (defScope s_web_init) .none kVI dcI pmI anI cdI ctI), slI⟩)
    (cI : PySem.W.codeIn K cdI "Web.__init__" = true)
    (kI : PySem.W.keepIn K (.ref fI) = true)
    (aE : PySem.W.findIn K (.ref C) "__eq__" = some (some (.ref fE)))
    (iE : PySem.W.isFn K (.ref fE) = true)
    (lE : K.lookup fE = some ⟨ocE, odE, .func (PySem.W.fnOf "__eq__" "Web.__eq__" (defArgs s_web_eq) (defBody s_web_eq) (defScope s_web_eq) .none kVE dcE pmE anE cdE ctE), slE⟩)
    (cE : PySem.W.codeIn K cdE "Web.__eq__" = true)
    (kE : PySem.W.keepIn K (.ref fE) = true)
    (pg : PySem.W.plainGet K C Str.empty = true)
    (hd : PySem.W.hasDictIn K C = true)
    (po : PySem.W.plainOver K C = true)
    (sa : PySem.W.findIn K (.ref C) "__setattr__" = some (some (.builtin "object.__setattr__")))
    (mk : PySem.W.makesIn K C = true)
    (kc : PySem.W.keepIn K (.ref C) = true)
    (nP : PySem.W.findIn K (.ref C) "_places" = some none)
    (nT : PySem.W.findIn K (.ref C) "_ties" = some none)
    (kt : PySem.W.kitOne K (.ref C) (.ref C) = some true)
    (t1 : PySem.W.findIn K (.ref C) "__class__" = some (some (.builtin "object.__class__")))
    (t2 : PySem.W.specialIn K (.builtin "object.__class__") "__get__" = some (some (.builtin "getset_descriptor.__get__")))
    (t3 : PySem.W.takesIn K (.builtin "object.__class__") = some true)
    (t4 : PySem.W.mroIn K C (.type "object") = some true)
    (ne : PySem.W.findIn K (.ref C) "__ne__" = some (some (.builtin "object.__ne__")))
    (lc : K.lookup cL = some ⟨.type "code", dcL, .fields vsL, slL⟩)
    (v11 : vsL[11]? = some (.ref PL))
    (d11 : vsL.getD 11 .none = .ref PL)
    (d18 : vsL.getD 18 .none = .str fiL tfL)
    (d7 : vsL.getD 7 .none = .int flL tgL)
    (d9 : vsL.getD 9 .none = .bool inL)
    (d10 : vsL.getD 10 .none = .int txL ttL)
    (ncp : cL ≠ PL)
    (lp : K.lookup PL = none)
    (z_isinstance : PySem.W.nsIn K mainGlobals "isinstance" = some none)
    (z_str : PySem.W.nsIn K mainGlobals "str" = some none)
    (z_len : PySem.W.nsIn K mainGlobals "len" = some none)
    (z_all : PySem.W.nsIn K mainGlobals "all" = some none)
    (z_tuple : PySem.W.nsIn K mainGlobals "tuple" = some none)
    (z_set : PySem.W.nsIn K mainGlobals "set" = some none)
    (z_dict : PySem.W.nsIn K mainGlobals "dict" = some none)
    (z_int : PySem.W.nsIn K mainGlobals "int" = some none)
    (z_abs : PySem.W.nsIn K mainGlobals "abs" = some none)
    (z_max : PySem.W.nsIn K mainGlobals "max" = some none)
    (z_min : PySem.W.nsIn K mainGlobals "min" = some none)
    (z_range : PySem.W.nsIn K mainGlobals "range" = some none)
    (z_list : PySem.W.nsIn K mainGlobals "list" = some none)
    (z_sorted : PySem.W.nsIn K mainGlobals "sorted" = some none)
    (z_zip : PySem.W.nsIn K mainGlobals "zip" = some none)
    (z_enumerate : PySem.W.nsIn K mainGlobals "enumerate" = some none)
    (y_ML : PySem.W.nsIn K mainGlobals "MAX_LETTERS" = some (some (.int 8 t_ML)))
    (y_MP : PySem.W.nsIn K mainGlobals "MAX_PLACES" = some (some (.int 16 t_MP)))
    (y_MT : PySem.W.nsIn K mainGlobals "MAX_TIES" = some (some (.int 60 t_MT)))
    : LamX.LawAtS l w K CX0 11 63 "script" mg fa h := by
  have e := hfa.symm.trans (PySem.W.mg_of X G a32)
  cases e
  have T : Txt K mg := { n_isinstance := PySem.W.mg_none_of X G z_isinstance, n_str := PySem.W.mg_none_of X G z_str, n_len := PySem.W.mg_none_of X G z_len, n_all := PySem.W.mg_none_of X G z_all, n_tuple := PySem.W.mg_none_of X G z_tuple, n_set := PySem.W.mg_none_of X G z_set, n_dict := PySem.W.mg_none_of X G z_dict, n_int := PySem.W.mg_none_of X G z_int, n_abs := PySem.W.mg_none_of X G z_abs, n_max := PySem.W.mg_none_of X G z_max, n_min := PySem.W.mg_none_of X G z_min, n_range := PySem.W.mg_none_of X G z_range, n_list := PySem.W.mg_none_of X G z_list, n_sorted := PySem.W.mg_none_of X G z_sorted, n_zip := PySem.W.mg_none_of X G z_zip, n_enumerate := PySem.W.mg_none_of X G z_enumerate, c_MAX_LETTERS := ⟨_, PySem.W.mg_of X G y_ML⟩, c_MAX_PLACES := ⟨_, PySem.W.mg_of X G y_MP⟩, c_MAX_TIES := ⟨_, PySem.W.mg_of X G y_MT⟩ }
  have I : ITxt K mg := ⟨cIW, PySem.W.mg_of X G g_IW, pk_IW, pq_IW, ps_IW, pt_IW, px_IW⟩
  have W : WTxt K mg C := ⟨⟨pg, hd, po, sa⟩, nP, nT, PySem.W.mg_of X G aC⟩
  have KT : KTxt K C := ⟨kt, t1, t2, t3, t4⟩
  have M : Mk K C fI := ⟨mk, aI, iI, kc⟩
  have F0 := fun_mk (st := s_is_name) l0 c0 k0
  have b0 := F0.binds (ps := ["value"]) fun _ _ _ _ _ _ us hl => match us, hl with | [_], _ => rfl
  have F1 := fun_mk (st := s_are_names) l1 c1 k1
  have b1 := F1.binds (ps := ["value"]) fun _ _ _ _ _ _ us hl => match us, hl with | [_], _ => rfl
  have F2 := fun_mk (st := s_are_different_names) l2 c2 k2
  have b2 := F2.binds (ps := ["value"]) fun _ _ _ _ _ _ us hl => match us, hl with | [_], _ => rfl
  have F3 := fun_mk (st := s_is_ascending) l3 c3 k3
  have b3 := F3.binds (ps := ["row"]) fun _ _ _ _ _ _ us hl => match us, hl with | [_], _ => rfl
  have F4 := fun_mk (st := s_are_ascending_names) l4 c4 k4
  have b4 := F4.binds (ps := ["value"]) fun _ _ _ _ _ _ us hl => match us, hl with | [_], _ => rfl
  have F5 := fun_mk (st := s_is_tie) l5 c5 k5
  have b5 := F5.binds (ps := ["value"]) fun _ _ _ _ _ _ us hl => match us, hl with | [_], _ => rfl
  have F6 := fun_mk (st := s_tie_of) l6 c6 k6
  have b6 := F6.binds (ps := ["a", "b"]) fun _ _ _ _ _ _ us hl => match us, hl with | [_, _], _ => rfl
  have F7 := fun_mk (st := s_pairs_of) l7 c7 k7
  have b7 := F7.binds (ps := ["places"]) fun _ _ _ _ _ _ us hl => match us, hl with | [_], _ => rfl
  have F8 := fun_mk (st := s_are_places) l8 c8 k8
  have b8 := F8.binds (ps := ["value"]) fun _ _ _ _ _ _ us hl => match us, hl with | [_], _ => rfl
  have F9 := fun_mk (st := s_are_ties) l9 c9 k9
  have b9 := F9.binds (ps := ["places", "value"]) fun _ _ _ _ _ _ us hl => match us, hl with | [_, _], _ => rfl
  have F10 := fun_mk (st := s_full_web) l10 c10 k10
  have b10 := F10.binds (ps := ["places"]) fun _ _ _ _ _ _ us hl => match us, hl with | [_], _ => rfl
  have F11 := fun_mk (st := s_ring_web) l11 c11 k11
  have b11 := F11.binds (ps := ["ring"]) fun _ _ _ _ _ _ us hl => match us, hl with | [_], _ => rfl
  have F12 := fun_mk (st := s_law_dice) l12 c12 k12
  have b12 := F12.binds (ps := ["script", "spot"]) fun _ _ _ _ _ _ us hl => match us, hl with | [_, _], _ => rfl
  have F13 := fun_mk (st := s_law_roll) l13 c13 k13
  have b13 := F13.binds (ps := ["dice", "total"]) fun _ _ _ _ _ _ us hl => match us, hl with | [_, _], _ => rfl
  have F14 := fun_mk (st := s_law_pick) l14 c14 k14
  have b14 := F14.binds (ps := ["dice", "items"]) fun _ _ _ _ _ _ us hl => match us, hl with | [_, _], _ => rfl
  have F15 := fun_mk (st := s_law_mixed) l15 c15 k15
  have b15 := F15.binds (ps := ["dice", "items"]) fun _ _ _ _ _ _ us hl => match us, hl with | [_, _], _ => rfl
  have F16 := fun_mk (st := s_law_tie) l16 c16 k16
  have b16 := F16.binds (ps := ["a", "b"]) fun _ _ _ _ _ _ us hl => match us, hl with | [_, _], _ => rfl
  have F17 := fun_mk (st := s_law_plain) l17 c17 k17
  have b17 := F17.binds (ps := ["places", "ties"]) fun _ _ _ _ _ _ us hl => match us, hl with | [_, _], _ => rfl
  have F18 := fun_mk (st := s_law_made) l18 c18 k18
  have b18 := F18.binds (ps := ["plain"]) fun _ _ _ _ _ _ us hl => match us, hl with | [_], _ => rfl
  have F19 := fun_mk (st := s_law_pairs) l19 c19 k19
  have b19 := F19.binds (ps := ["places"]) fun _ _ _ _ _ _ us hl => match us, hl with | [_], _ => rfl
  have F20 := fun_mk (st := s_law_beside) l20 c20 k20
  have b20 := F20.binds (ps := ["plain", "place"]) fun _ _ _ _ _ _ us hl => match us, hl with | [_, _], _ => rfl
  have F21 := fun_mk (st := s_law_wheel) l21 c21 k21
  have b21 := F21.binds (ps := ["hub", "ring"]) fun _ _ _ _ _ _ us hl => match us, hl with | [_, _], _ => rfl
  have F22 := fun_mk (st := s_law_plain_ring) l22 c22 k22
  have b22 := F22.binds (ps := ["ring"]) fun _ _ _ _ _ _ us hl => match us, hl with | [_], _ => rfl
  have F23 := fun_mk (st := s_law_behind) l23 c23 k23
  have b23 := F23.binds (ps := ["plain", "step"]) fun _ _ _ _ _ _ us hl => match us, hl with | [_, _], _ => rfl
  have F24 := fun_mk (st := s_law_names) l24 c24 k24
  have b24 := F24.binds (ps := []) fun _ _ _ _ _ _ us hl => match us, hl with | [], _ => rfl
  have F25 := fun_mk (st := s_law_drawn_step) l25 c25 k25
  have b25 := F25.binds (ps := ["dice", "plain", "new"]) fun _ _ _ _ _ _ us hl => match us, hl with | [_, _, _], _ => rfl
  have F26 := fun_mk (st := s_law_grown) l26 c26 k26
  have b26 := F26.binds (ps := ["dice", "places", "count"]) fun _ _ _ _ _ _ us hl => match us, hl with | [_, _, _], _ => rfl
  have F27 := fun_mk (st := s_law_random) l27 c27 k27
  have b27 := F27.binds (ps := ["dice", "most"]) fun _ _ _ _ _ _ us hl => match us, hl with | [_, _], _ => rfl
  have F28 := fun_mk (st := s_law_any) l28 c28 k28
  have b28 := F28.binds (ps := ["dice", "most"]) fun _ _ _ _ _ _ us hl => match us, hl with | [_, _], _ => rfl
  have F29 := fun_mk (st := s_law_is_made) l29 c29 k29
  have b29 := F29.binds (ps := ["call"]) fun _ _ _ _ _ _ us hl => match us, hl with | [_], _ => rfl
  have F30 := fun_mk (st := s_law_names_of) l30 c30 k30
  have b30 := F30.binds (ps := ["count"]) fun _ _ _ _ _ _ us hl => match us, hl with | [_], _ => rfl
  have F31 := fun_mk (st := s_law_bent) l31 c31 k31
  have b31 := F31.binds (ps := ["dice", "places", "ties"]) fun _ _ _ _ _ _ us hl => match us, hl with | [_, _, _], _ => rfl
  have F32 := fun_mk (st := s_law) l32 c32 k32
  have FI := fun_mk (st := s_web_init) lI cI kI
  have bI := FI.binds (ps := ["self", "places", "ties"]) fun _ _ _ _ _ _ us hl => match us, hl with | [_, _, _], _ => rfl
  have FE := fun_mk (st := s_web_eq) lE cE kE
  have bE := FE.binds (ps := ["self", "other"]) fun _ _ _ _ _ _ us hl => match us, hl with | [_, _], _ => rfl
  have CH : PySem.W.CodeHd h cL PL := ⟨_, _, _, _, _, _, _, _, _, X _ _ lc, rfl, rfl, v11, d11, d18, d7, d9, d10, ncp⟩
  have hPt := own cL PL _ _ _ _ _ _ l32 rfl rfl lc v11
  refine ⟨PySem.W.fnOf "law" "law" (defArgs s_law) (defBody s_law) (defScope s_law) .none kV32 dc32 pm32 an32 (.ref cL) ct32, [(cL, PL)], spLaw K PL, fun p hp => by rw [List.mem_singleton.mp hp]; exact hPt, fun p hp => by rw [List.mem_singleton.mp hp]; exact lp, fun p hp => by rw [List.mem_singleton.mp hp]; exact CH, fun s v => .of_eq rfl, fun H a ns hl hb hT hS => ⟨a, ns, rfl, hS, hT (cL, PL) List.mem_cons_self, fun _ => rfl⟩, fun base _ _ hTB => ?_⟩
  have D0a := Dfn.mk (PySem.W.mg_of X G a0) k0 b0 (ok_is_name (P := l.prog) (w := w) (base := base) F0 T)
  have D1a := Dfn.mk (PySem.W.mg_of X G a1) k1 b1 (ok_are_names (P := l.prog) (w := w) (base := base) F1 T D0a)
  have D2a := Dfn.mk (PySem.W.mg_of X G a2) k2 b2 (ok_are_different_names (P := l.prog) (w := w) (base := base) F2 T D1a)
  have D2b := Dfn.mk (PySem.W.mg_of X G a2) k2 b2 (ok_diff2 (P := l.prog) (w := w) (base := base) F2 T D1a)
  have D3a := Dfn.mk (PySem.W.mg_of X G a3) k3 b3 (ok_is_ascending (P := l.prog) (w := w) (base := base) F3 T)
  have D4a := Dfn.mk (PySem.W.mg_of X G a4) k4 b4 (ok_are_ascending_names (P := l.prog) (w := w) (base := base) F4 T D1a D3a)
  have D5a := Dfn.mk (PySem.W.mg_of X G a5) k5 b5 (ok_is_tie (P := l.prog) (w := w) (base := base) F5 T D4a)
  have D6a := Dfn.mk (PySem.W.mg_of X G a6) k6 b6 (ok_tie_of (P := l.prog) (w := w) (base := base) F6 T)
  have D7a := Dfn.mk (PySem.W.mg_of X G a7) k7 b7 (ok_pairs_of (P := l.prog) (w := w) (base := base) F7 T)
  have D8a := Dfn.mk (PySem.W.mg_of X G a8) k8 b8 (ok_are_places (P := l.prog) (w := w) (base := base) F8 T D4a)
  have D9a := Dfn.mk (PySem.W.mg_of X G a9) k9 b9 (ok_are_ties (P := l.prog) (w := w) (base := base) F9 T D5a D3a)
  have GI := ok_web_init (P := l.prog) (w := w) (base := base) FI T W D8a D9a
  have GX := okx_web_init (P := l.prog) (w := w) (base := base) FI T I D8a D9a
  have GE := ok_web_eq (P := l.prog) (w := w) (base := base) FE T W KT
  have D10a := Dfn.mk (PySem.W.mg_of X G a10) k10 b10 (ok_full_web (P := l.prog) (w := w) (base := base) F10 T W M GI bI D8a D7a)
  have D11a := Dfn.mk (PySem.W.mg_of X G a11) k11 b11 (ok_ring_web (P := l.prog) (w := w) (base := base) F11 T W M GI bI D2a D6a)
  have D12a := Dfn.mk (PySem.W.mg_of X G a12) k12 b12 (ok_law_dice (P := l.prog) (w := w) (base := base) F12 T)
  have D13a := Dfn.mk (PySem.W.mg_of X G a13) k13 b13 (ok_law_roll (P := l.prog) (w := w) (base := base) F13 T)
  have D14a := Dfn.mk (PySem.W.mg_of X G a14) k14 b14 (ok_law_pick (P := l.prog) (w := w) (base := base) F14 T D13a)
  have D15a := Dfn.mk (PySem.W.mg_of X G a15) k15 b15 (ok_law_mixed (P := l.prog) (w := w) (base := base) F15 T D13a)
  have D15b := Dfn.mk (PySem.W.mg_of X G a15) k15 b15 (ok_law_mixedA (P := l.prog) (w := w) (base := base) F15 T D13a)
  have D16a := Dfn.mk (PySem.W.mg_of X G a16) k16 b16 (ok_law_tie (P := l.prog) (w := w) (base := base) F16 T)
  have D17a := Dfn.mk (PySem.W.mg_of X G a17) k17 b17 (ok_law_plain (P := l.prog) (w := w) (base := base) F17 T D16a)
  have D18a := Dfn.mk (PySem.W.mg_of X G a18) k18 b18 (ok_law_made (P := l.prog) (w := w) (base := base) F18 T W M GI bI)
  have D19a := Dfn.mk (PySem.W.mg_of X G a19) k19 b19 (ok_law_pairs (P := l.prog) (w := w) (base := base) F19 T D16a)
  have D20a := Dfn.mk (PySem.W.mg_of X G a20) k20 b20 (ok_law_beside (P := l.prog) (w := w) (base := base) F20 T)
  have D21a := Dfn.mk (PySem.W.mg_of X G a21) k21 b21 (ok_law_wheel (P := l.prog) (w := w) (base := base) F21 T D17a)
  have D22a := Dfn.mk (PySem.W.mg_of X G a22) k22 b22 (ok_law_plain_ring (P := l.prog) (w := w) (base := base) F22 T)
  have D23a := Dfn.mk (PySem.W.mg_of X G a23) k23 b23 (ok_law_behind (P := l.prog) (w := w) (base := base) F23 T D17a)
  have D24a := Dfn.mk (PySem.W.mg_of X G a24) k24 b24 (ok_law_names (P := l.prog) (w := w) (base := base) F24 T)
  have D25a := Dfn.mk (PySem.W.mg_of X G a25) k25 b25 (ok_law_drawn_step (P := l.prog) (w := w) (base := base) F25 T D13a D14a D15a D19a D20a)
  have D26a := Dfn.mk (PySem.W.mg_of X G a26) k26 b26 (ok_law_grown (P := l.prog) (w := w) (base := base) F26 T D13a D15a D24a D22a D21a D25a D23a)
  have D27a := Dfn.mk (PySem.W.mg_of X G a27) k27 b27 (ok_law_random (P := l.prog) (w := w) (base := base) F27 T D13a D14a D15a D24a D19a D17a)
  have D28a := Dfn.mk (PySem.W.mg_of X G a28) k28 b28 (ok_law_any (P := l.prog) (w := w) (base := base) F28 T D13a D14a D15a D24a D19a D17a D26a D27a)
  have D30a := Dfn.mk (PySem.W.mg_of X G a30) k30 b30 (ok_law_names_of (P := l.prog) (w := w) (base := base) F30 T)
  have D31a := Dfn.mk (PySem.W.mg_of X G a31) k31 b31 (ok_law_bent (P := l.prog) (w := w) (base := base) F31 T D13a D14a)
  have DX10 : DfnX l.prog w K mg base "full_web" 8 ["places"] (spFu C mg) := ⟨_, _, PySem.W.mg_of X G a10, k10, b10, fnok_or (fnok_up (ok_full_web (P := l.prog) (w := w) (base := base) F10 T W M GI bI D8a D7a)) (okx_full_web (P := l.prog) (w := w) (base := base) F10 T I W M GX bI D8a D7a)⟩
  have DX11 : DfnX l.prog w K mg base "ring_web" 8 ["ring"] (spRi C mg) := ⟨_, _, PySem.W.mg_of X G a11, k11, b11, fnok_or (fnok_up (ok_ring_web (P := l.prog) (w := w) (base := base) F11 T W M GI bI D2a D6a)) (okx_ring_web (P := l.prog) (w := w) (base := base) F11 T I D2b)⟩
  have Z : LawT l.prog w K mg base C fI fE f29 cIW _ _ := { T := T, W := W, M := M, GI := GI, GX := GX, bI := bI, GE := GE, bE := bE, hn := ne, he := aE, hf := iE, hm := t4, L := ⟨⟨_, F29, b29⟩, PySem.W.mg_of X G a29, PySem.W.mg_of X G g_IW⟩, px := px_IW, DDice := D12a, DAny := D28a, DBent := D31a, DFull := D10a, DRing := D11a, DFullX := DX10, DRingX := DX11, DMade := D18a, DPlain := D17a, DPairs := D19a, DMixed := D15b, DNames := D30a }
  exact ok_law l32 c32 (hTB (cL, PL) List.mem_cons_self) Z
end K5
open PySem PySem.W PyProof.Rows
set_option maxRecDepth 100000 in
set_option maxHeartbeats 0 in
theorem PySem.Challenge.cw_wheelgrown_k05_which_webs_there_are_holds : PySem.Challenge.rw_wheelgrown_k05_which_webs_there_are.Holds := by
  w_on; o_law; k_head; (case hw => w_witness2)
  k_fill
  refine LamX.walk_ofOwn (l := PySem.Challenge.rw_wheelgrown_k05_which_webs_there_are) (n := 63) (k := 11) (x := "script") (CX := fun _ => L2.CX0) rfl (by decide) rfl ⟨rfl, by decide, by decide⟩ (by rfl) (fun w h Y => PySem.W.km_in_of Y) ?F fun _ _ _ _ _ z => z
  case F =>
    intro w mg fa h Y KX G hmg own
    refine' K5.all_mk KX G hmg own ?h_g_IW ?h_pk_IW ?h_pq_IW ?h_ps_IW ?h_pt_IW ?h_px_IW ?h_aC ?h_a0 ?h_l0 ?h_c0 ?h_k0 ?h_a1 ?h_l1 ?h_c1 ?h_k1 ?h_a2 ?h_l2 ?h_c2 ?h_k2 ?h_a3 ?h_l3 ?h_c3 ?h_k3 ?h_a4 ?h_l4 ?h_c4 ?h_k4 ?h_a5 ?h_l5 ?h_c5 ?h_k5 ?h_a6 ?h_l6 ?h_c6 ?h_k6 ?h_a7 ?h_l7 ?h_c7 ?h_k7 ?h_a8 ?h_l8 ?h_c8 ?h_k8 ?h_a9 ?h_l9 ?h_c9 ?h_k9 ?h_a10 ?h_l10 ?h_c10 ?h_k10 ?h_a11 ?h_l11 ?h_c11 ?h_k11 ?h_a12 ?h_l12 ?h_c12 ?h_k12 ?h_a13 ?h_l13 ?h_c13 ?h_k13 ?h_a14 ?h_l14 ?h_c14 ?h_k14 ?h_a15 ?h_l15 ?h_c15 ?h_k15 ?h_a16 ?h_l16 ?h_c16 ?h_k16 ?h_a17 ?h_l17 ?h_c17 ?h_k17 ?h_a18 ?h_l18 ?h_c18 ?h_k18 ?h_a19 ?h_l19 ?h_c19 ?h_k19 ?h_a20 ?h_l20 ?h_c20 ?h_k20 ?h_a21 ?h_l21 ?h_c21 ?h_k21 ?h_a22 ?h_l22 ?h_c22 ?h_k22 ?h_a23 ?h_l23 ?h_c23 ?h_k23 ?h_a24 ?h_l24 ?h_c24 ?h_k24 ?h_a25 ?h_l25 ?h_c25 ?h_k25 ?h_a26 ?h_l26 ?h_c26 ?h_k26 ?h_a27 ?h_l27 ?h_c27 ?h_k27 ?h_a28 ?h_l28 ?h_c28 ?h_k28 ?h_a29 ?h_l29 ?h_c29 ?h_k29 ?h_a30 ?h_l30 ?h_c30 ?h_k30 ?h_a31 ?h_l31 ?h_c31 ?h_k31 ?h_a32 ?h_l32 ?h_c32 ?h_k32 ?h_aI ?h_iI ?h_lI ?h_cI ?h_kI ?h_aE ?h_iE ?h_lE ?h_cE ?h_kE ?h_pg ?h_hd ?h_po ?h_sa ?h_mk ?h_kc ?h_nP ?h_nT ?h_kt ?h_t1 ?h_t2 ?h_t3 ?h_t4 ?h_ne ?h_lc ?h_v11 ?h_d11 ?h_d18 ?h_d7 ?h_d9 ?h_d10 ?h_ncp ?h_lp ?h_z_isinstance ?h_z_str ?h_z_len ?h_z_all ?h_z_tuple ?h_z_set ?h_z_dict ?h_z_int ?h_z_abs ?h_z_max ?h_z_min ?h_z_range ?h_z_list ?h_z_sorted ?h_z_zip ?h_z_enumerate ?h_y_ML ?h_y_MP ?h_y_MT
    (case h_g_IW => k_is)
    (case h_pk_IW => k_is)
    (case h_pq_IW => k_exc)
    (case h_ps_IW => k_is)
    (case h_pt_IW => k_is)
    (case h_px_IW => (first | rfl | decide +kernel | k_is))
    (case h_aC => k_is)
    (case h_a0 => k_is)
    (case h_l0 => k_is)
    (case h_c0 => k_is)
    (case h_k0 => k_is)
    (case h_a1 => k_is)
    (case h_l1 => k_is)
    (case h_c1 => k_is)
    (case h_k1 => k_is)
    (case h_a2 => k_is)
    (case h_l2 => k_is)
    (case h_c2 => k_is)
    (case h_k2 => k_is)
    (case h_a3 => k_is)
    (case h_l3 => k_is)
    (case h_c3 => k_is)
    (case h_k3 => k_is)
    (case h_a4 => k_is)
    (case h_l4 => k_is)
    (case h_c4 => k_is)
    (case h_k4 => k_is)
    (case h_a5 => k_is)
    (case h_l5 => k_is)
    (case h_c5 => k_is)
    (case h_k5 => k_is)
    (case h_a6 => k_is)
    (case h_l6 => k_is)
    (case h_c6 => k_is)
    (case h_k6 => k_is)
    (case h_a7 => k_is)
    (case h_l7 => k_is)
    (case h_c7 => k_is)
    (case h_k7 => k_is)
    (case h_a8 => k_is)
    (case h_l8 => k_is)
    (case h_c8 => k_is)
    (case h_k8 => k_is)
    (case h_a9 => k_is)
    (case h_l9 => k_is)
    (case h_c9 => k_is)
    (case h_k9 => k_is)
    (case h_a10 => k_is)
    (case h_l10 => k_is)
    (case h_c10 => k_is)
    (case h_k10 => k_is)
    (case h_a11 => k_is)
    (case h_l11 => k_is)
    (case h_c11 => k_is)
    (case h_k11 => k_is)
    (case h_a12 => k_is)
    (case h_l12 => k_is)
    (case h_c12 => k_is)
    (case h_k12 => k_is)
    (case h_a13 => k_is)
    (case h_l13 => k_is)
    (case h_c13 => k_is)
    (case h_k13 => k_is)
    (case h_a14 => k_is)
    (case h_l14 => k_is)
    (case h_c14 => k_is)
    (case h_k14 => k_is)
    (case h_a15 => k_is)
    (case h_l15 => k_is)
    (case h_c15 => k_is)
    (case h_k15 => k_is)
    (case h_a16 => k_is)
    (case h_l16 => k_is)
    (case h_c16 => k_is)
    (case h_k16 => k_is)
    (case h_a17 => k_is)
    (case h_l17 => k_is)
    (case h_c17 => k_is)
    (case h_k17 => k_is)
    (case h_a18 => k_is)
    (case h_l18 => k_is)
    (case h_c18 => k_is)
    (case h_k18 => k_is)
    (case h_a19 => k_is)
    (case h_l19 => k_is)
    (case h_c19 => k_is)
    (case h_k19 => k_is)
    (case h_a20 => k_is)
    (case h_l20 => k_is)
    (case h_c20 => k_is)
    (case h_k20 => k_is)
    (case h_a21 => k_is)
    (case h_l21 => k_is)
    (case h_c21 => k_is)
    (case h_k21 => k_is)
    (case h_a22 => k_is)
    (case h_l22 => k_is)
    (case h_c22 => k_is)
    (case h_k22 => k_is)
    (case h_a23 => k_is)
    (case h_l23 => k_is)
    (case h_c23 => k_is)
    (case h_k23 => k_is)
    (case h_a24 => k_is)
    (case h_l24 => k_is)
    (case h_c24 => k_is)
    (case h_k24 => k_is)
    (case h_a25 => k_is)
    (case h_l25 => k_is)
    (case h_c25 => k_is)
    (case h_k25 => k_is)
    (case h_a26 => k_is)
    (case h_l26 => k_is)
    (case h_c26 => k_is)
    (case h_k26 => k_is)
    (case h_a27 => k_is)
    (case h_l27 => k_is)
    (case h_c27 => k_is)
    (case h_k27 => k_is)
    (case h_a28 => k_is)
    (case h_l28 => k_is)
    (case h_c28 => k_is)
    (case h_k28 => k_is)
    (case h_a29 => k_is)
    (case h_l29 => k_is)
    (case h_c29 => k_is)
    (case h_k29 => k_is)
    (case h_a30 => k_is)
    (case h_l30 => k_is)
    (case h_c30 => k_is)
    (case h_k30 => k_is)
    (case h_a31 => k_is)
    (case h_l31 => k_is)
    (case h_c31 => k_is)
    (case h_k31 => k_is)
    (case h_a32 => k_is)
    (case h_l32 => k_is)
    (case h_c32 => k_is)
    (case h_k32 => k_is)
    (case h_aI => k_is)
    (case h_iI => k_is)
    (case h_lI => k_is)
    (case h_cI => k_is)
    (case h_kI => k_is)
    (case h_aE => k_is)
    (case h_iE => k_is)
    (case h_lE => k_is)
    (case h_cE => k_is)
    (case h_kE => k_is)
    (case h_pg => k_is)
    (case h_hd => k_is)
    (case h_po => k_is)
    (case h_sa => k_is)
    (case h_mk => k_is)
    (case h_kc => k_is)
    (case h_nP => k_is)
    (case h_nT => k_is)
    (case h_kt => (first | rfl | decide +kernel | k_is))
    (case h_t1 => k_is)
    (case h_t2 => k_is)
    (case h_t3 => k_is)
    (case h_t4 => k_is)
    (case h_ne => k_is)
    (case h_lc => k_is)
    (case h_v11 => rfl)
    (case h_d11 => rfl)
    (case h_d18 => rfl)
    (case h_d7 => rfl)
    (case h_d9 => rfl)
    (case h_d10 => rfl)
    (case h_ncp => decide)
    (case h_lp => (first | rfl | decide +kernel))
    (case h_z_isinstance => k_is)
    (case h_z_str => k_is)
    (case h_z_len => k_is)
    (case h_z_all => k_is)
    (case h_z_tuple => k_is)
    (case h_z_set => k_is)
    (case h_z_dict => k_is)
    (case h_z_int => k_is)
    (case h_z_abs => k_is)
    (case h_z_max => k_is)
    (case h_z_min => k_is)
    (case h_z_range => k_is)
    (case h_z_list => k_is)
    (case h_z_sorted => k_is)
    (case h_z_zip => k_is)
    (case h_z_enumerate => k_is)
    (case h_y_ML => k_is)
    (case h_y_MP => k_is)
    (case h_y_MT => k_is)
#print axioms PySem.Challenge.cw_wheelgrown_k05_which_webs_there_are_holds
