import PyProof.Rows.All
import Wide.All
import OpenK.AllK
import Wide.FinOn
import HandS.ForMost
import HandS.IsInst
import HandS.Wide
import PyProof.Rows.StrIntSpec
import PyProof.EqKinds
import PySem.Challenge.RW_wheelgrown_k01_whole_integers_and_names
set_option Elab.async false
set_option linter.all false
set_option maxRecDepth 100000
set_option maxHeartbeats 2000000
/-! The law k01, by hand: a contract for each def; what the law draws is any number, any text. -/
namespace K1
open PySem PySem.Spec PyProof.Rows L2
def top (i : Nat) : Stmt := PySem.Challenge.pw_wheelgrown_k01_whole_integers_and_names.main.body.getD i (.Pass ⟨0, 0, 0, 0⟩)
abbrev s_is_integer : Stmt := top 3
abbrev s_is_count : Stmt := top 4
abbrev s_is_name : Stmt := top 5
abbrev s_are_names : Stmt := top 6
abbrev s_law_dice : Stmt := top 8
abbrev s_law_roll : Stmt := top 9
abbrev s_law_pick : Stmt := top 10
abbrev s_law_drawn_integer : Stmt := top 11
abbrev s_law_drawn_string : Stmt := top 12
abbrev s_law_is_word : Stmt := top 13
abbrev s_law_right : Stmt := top 14
abbrev s_law : Stmt := top 15
/-- what the top leaves beside the defs -/
structure Txt (K : PySem.W.Frag) (mg : Str → Option Value) : Prop where
  n_isinstance : mg "isinstance" = none
  n_int : mg "int" = none
  n_bool : mg "bool" = none
  n_str : mg "str" = none
  n_abs : mg "abs" = none
  n_all : mg "all" = none
  n_len : mg "len" = none
  n_tuple : mg "tuple" = none
  n_max : mg "max" = none
  n_min : mg "min" = none
  n_range : mg "range" = none
  c_MAX_LETTERS : ∃ t, mg "MAX_LETTERS" = some (.int 8 t)
  c_MAX_FIGURES : ∃ t, mg "MAX_FIGURES" = some (.int 60 t)

local macro_rules | `(tactic| walk_at "r1") => `(tactic| first | refine ⟨_, rfl, ?_⟩ | refine ⟨_, _, rfl, rfl, ?_⟩ | refine ⟨_, _, rfl, ?_⟩ | refine .inl ⟨_, rfl, ?_⟩ | refine .inr ⟨_, rfl, ?_⟩ | refine ⟨⟨_, rfl⟩, ?_⟩)
local macro_rules | `(tactic| walk_at "rr") => `(tactic| repeat walk_at "r1")
/-! ## Rules and contracts that serve every law with drawn numbers -/
theorem ifT {c : Bool} {A B : Prop} (hc : c = true) (h : A) : if c = true then A else B := by
  rw [if_pos hc]
  exact h
theorem ifF {c : Bool} {A B : Prop} (hc : c = false) (h : B) : if c = true then A else B := by
  rw [hc, if_neg Bool.false_ne_true]
  exact h
/-- a def of the top, as its callers see it -/
def Dfn (P : Program) (w : World) (K : PySem.W.Frag) (mg : Str → Option Value) (base : Heap) (x : Str) (k : Nat) (ps : List Str) (sp : Sp) : Prop :=
  ∃ (f : Addr) (fd : FuncData), mg x = some (.ref f) ∧ PySem.W.keepIn K (.ref f) = true ∧ Binds K fd ps [] ∧ FnOk P w K mg base CX0 k f fd ps sp
theorem Dfn.mk {P : Program} {w : World} {K : PySem.W.Frag} {mg : Str → Option Value} {base : Heap} {x : Str} {k : Nat} {ps : List Str} {sp : Sp} {f : Addr} {fd : FuncData} (m : mg x = some (.ref f)) (kp : PySem.W.keepIn K (.ref f) = true) (b : Binds K fd ps [])
    (h : FnOk P w K mg base CX0 k f fd ps sp) : Dfn P w K mg base x k ps sp := ⟨f, fd, m, kp, b, h⟩
/-- a call of a def of the top -/
theorem pe_d {X : Cx} {x : Str} {k : Nat} {ps : List Str} {sp : Sp} {e : Expr} {es : List Expr} {t : TA} {p pos : Pos} (D : Dfn X.prog X.w X.K X.mg X.base x k ps sp) (hr : Room k X.A) (ha : PA X (e :: es) t) (hg : Gl X x := by rfl)
    (hdb : (x == ("__debug__" : Str)) = false := by decide) (he : starEach (e :: es) X.env = (false, eval e X.env) :: starEach es X.env := by rfl) (hpl : (backTo pos (starEach es X.env)).any (·.1) = false := by rfl) :
    PE X (.Call (.Name x p) (e :: es) [] pos) (tCall sp [] E0 t) := by
  obtain ⟨f, fd, m, kp, b, h⟩ := D
  exact pe_call h hr hg m kp b .nil pass0 ha hdb he hpl
/-- a text times a written number -/
def repS (z : Str) (n : Nat) : Str := ⟨(List.replicate n z.cps).foldl (· ++ ·) #[]⟩
theorem repS_fold (z : Array Nat) : ∀ (n : Nat) (acc : Array Nat), ((List.replicate n z).foldl (· ++ ·) acc).toList = acc.toList ++ (List.replicate n z.toList).flatten
  | 0, acc => by simp
  | n + 1, acc => by
    rw [List.replicate_succ, List.foldl_cons, repS_fold z n, List.replicate_succ, List.flatten_cons, Array.toList_append, List.append_assoc]
theorem repS_list (z : Str) (n : Nat) : (repS z n).cps.toList = (List.replicate n z.cps.toList).flatten := by
  have := repS_fold z.cps n #[]
  show ((List.replicate n z.cps).foldl (· ++ ·) #[]).toList = _
  simpa using this
theorem repS_len (z : Str) (n : Nat) : (repS z n).length = n * z.length := by
  show (repS z n).cps.size = n * z.cps.size
  rw [← Array.length_toList, repS_list]
  simp
theorem op_mulS {X : Cx} : OpR X (binaryOp .Mult) (fun x y H Q => ∃ (z : Str) (n : Nat), x = .str z ∧ y = .int (n : Int) ∧ 2 ≤ n ∧ n < 1000 ∧ 0 < z.length ∧ z.length ≤ 1000 ∧ Q (.str (repS z n)) H) := by
  intro pins s σ H x y v u Q I rx ry h
  obtain ⟨z, n, rfl, rfl, h1, h2, h3, h4, q⟩ := h
  obtain ⟨t, rfl⟩ := rx
  obtain ⟨t', rfl⟩ := ry
  have hn : ¬ (n : Int) < 1 := by omega
  have h5 : ((n : Int) == 1 || z.length == 0) = false := by
    rw [Bool.or_eq_false_iff]
    exact ⟨beq_eq_false_iff_ne.mpr (by omega), beq_eq_false_iff_ne.mpr (by omega)⟩
  refine PySem.P.mul_str ?_ (fun _ _ => ?_) (fun _ _ => ?_) ?_
  · rw [decide_eq_false (show ¬ (n : Int) < -(2 ^ 63 : Int) by omega), decide_eq_false (show ¬ (n : Int) ≥ 2 ^ 63 by omega)]
    rfl
  · have : (1000 : Int) ≤ (2 ^ 63 - 1) / (n : Int) := by
      rw [Int.le_ediv_iff_mul_le (by omega)]
      omega
    omega
  · have h6 : z.length * n ≤ 1000 * 1000 := Nat.mul_le_mul h4 (by omega)
    show PySem.Builtin.Str.tooLong (z.length * (n : Int).toNat) = false
    rw [Int.toNat_natCast]
    unfold PySem.Builtin.Str.tooLong
    refine decide_eq_false ?_
    have : (1000 * 1000 : Nat) ≤ sizeLine := by decide
    omega
  · rw [if_neg hn, if_neg (by rw [h5]; exact Bool.false_ne_true), Int.toNat_natCast]
    refine ⟨?_, ⟨.str _, H, I.tok _, ⟨_, rfl⟩, q⟩⟩
    have h6 : z.length * n ≤ 1000 * 1000 := Nat.mul_le_mul h4 (by omega)
    have h7 : (repS z n).length = n * z.length := repS_len z n
    have : (1000 * 1000 : Nat) ≤ sizeLine := by decide
    show (repS z n).length ≤ sizeLine
    rw [h7, Nat.mul_comm]
    omega

theorem same_new' {H : Hp} {p : Addr} {o : HO} (h : H p = none) : Same H (upd H p o) := fun b u e => by
  rw [upd_ne (ne_of_none e h)]
  exact e
/-- t + u, t empty: u itself -/
theorem op_catT0 {X : Cx} : OpR X (binaryOp .Add) (fun x y H Q => ∃ a b ys, x = .ref a ∧ y = .ref b ∧ SqT X.K H a [] ∧ SqT X.K H b ys ∧ Q (.ref b) H) := by
  intro pins s σ H x y v u Q I rx ry h
  obtain ⟨a, b, ys, rfl, rfl, ha, hb, q⟩ := h
  cases rx
  cases ry
  obtain ⟨its, r1, p1, _⟩ := I.tuple ha
  obtain ⟨its2, r2, p2, _⟩ := I.tuple hb
  cases r1
  obtain ⟨⟨cls, dd, data, sl⟩, ho, hc, n, hd⟩ := id p1
  obtain ⟨⟨cls2, dd2, data2, sl2⟩, ho2, hc2, n2, hd2⟩ := id p2
  simp only at hc hd hc2 hd2
  subst hc hd hc2 hd2
  exact concat_meets ⟨_, ho, rfl⟩ ⟨_, ho2, rfl⟩ noFill_tuple_add seq_tuple_add PySem.F.slot_tuple_add PySem.F.entry_tuple_add (PySem.F.args_tuple_add_2 _ _)
      (tuple_addW0 a b _ its2.toArray n n2 dd dd2 sl sl2 (by simp)) ⟨ho, ho2, ⟨.ref b, H, I, rfl, q⟩⟩
/-- t + u of tuples, u not empty: a tuple of both -/
theorem op_catTT {X : Cx} : OpR X (binaryOp .Add) (fun x y H Q => ∃ a b xs ys, x = .ref a ∧ y = .ref b ∧ H a = some (.tup xs) ∧ H b = some (.tup ys) ∧ ys ≠ [] ∧ xs.length + ys.length ≤ sizeLine ∧
    ∀ q H', Same H H' → H' q = some (.tup (xs ++ ys)) → Q (.ref q) H') := by
  intro pins s σ H x y v u Q I rx ry h
  obtain ⟨a, b, xs, ys, rfl, rfl, ha, hb, hy, hz, q⟩ := h
  by_cases hx : xs = []
  · subst hx
    exact op_catT0 pins s σ H _ _ v u Q I rx ry ⟨a, b, ys, rfl, rfl, SqT.of ha, SqT.of hb, q b H (Same.refl _) hb⟩
  · exact op_catT pins s σ H _ _ v u Q I rx ry ⟨a, b, xs, ys, rfl, rfl, SqT.of ha, SqT.of hb, hx, hz, fun e => absurd e hy, fun _ p hp => q p _ (same_new' hp) upd_same⟩
/-- a comprehension over a text -/
theorem lc_str {x : Str} {g : TG} {tt : TT} {te : TE} {vs : List Nat} {σ : L2.St} {H1 : Hp} {D : Addr} {Qd : Hp → Prop} (Pv : Nat → Hp → Prop) (h0 : Pv 0 (upd H1 D (.lst [])))
    (hs : ∀ i c H, x.cps.toList[i]? = some c → Pv i H → g (.str ⟨#[c]⟩) (wipe σ vs) H fun σ2 H2 => wipe σ2 vs = wipe σ vs ∧ tt σ2 H2 fun b H3 =>
      if b = true then te σ2 H3 fun y H4 => ∃ acc, H4 D = some (.lst acc) ∧ acc.length < sizeLine ∧ Pv (i + 1) (upd H4 D (.lst (acc ++ [y]))) else Pv (i + 1) H3) (hd : ∀ H, Pv x.cps.toList.length H → Qd H) :
    ∃ W : Nat → Nat → Hp → Prop, (∃ m, W 0 m (upd H1 D (.lst []))) ∧ ∀ i m H, W i m H →
      ((Its x).stop i H ∧ Qd H) ∨ ((Its x).go i H ∧ ∃ Nx : Hp → Prop, (∀ H', Nx H' → ∃ m', m' < m ∧ W (i + 1) m' H') ∧ ∀ y H', (Its x).yld i H y H' → g y (wipe σ vs) H' fun σ2 H2 => wipe σ2 vs = wipe σ vs ∧ tt σ2 H2 fun b H3 =>
        if b = true then te σ2 H3 fun y H4 => ∃ acc, H4 D = some (.lst acc) ∧ acc.length < sizeLine ∧ Nx (upd H4 D (.lst (acc ++ [y]))) else Nx H3) := by
  have el : x.cps.toList.length = x.cps.size := Array.length_toList
  refine ⟨fun i m H => m = x.cps.size - i ∧ i ≤ x.cps.size ∧ Pv i H, ⟨x.cps.size, by simp, Nat.zero_le _, h0⟩, ?_⟩
  rintro i m H ⟨rfl, hi, p⟩
  by_cases hlt : i < x.cps.size
  · refine .inr ⟨hlt, Pv (i + 1), fun H' p' => ⟨x.cps.size - (i + 1), by omega, rfl, hlt, p'⟩, fun v H' y => ?_⟩
    obtain ⟨e, c, hc, rfl⟩ := y
    subst e
    exact hs i c _ (by rw [← hc]; simp) p
  · have e : i = x.cps.size := by omega
    subst e
    exact .inl ⟨Nat.le_refl _, hd H (by rw [el]; exact p)⟩
/-! ### the dice -/
def Dice (H : Hp) (d : Addr) : Prop := ∃ a b c : Int, H d = some (.lst [.int a, .int b, .int c])
/-- from H to H': the dice at d may have been rolled; all else that was tracked stands -/
structure Go (d : Addr) (H H' : Hp) : Prop where
  keep : ∀ b o, b ≠ d → H b = some o → H' b = some o
  dice : Dice H' d
theorem Go.refl {d : Addr} {H : Hp} (h : Dice H d) : Go d H H := ⟨fun _ _ _ h => h, h⟩
theorem Go.trans {d : Addr} {H H1 H2 : Hp} (a : Go d H H1) (b : Go d H1 H2) : Go d H H2 := ⟨fun c o n h => b.keep c o n (a.keep c o n h), b.dice⟩
theorem Go.same {d : Addr} {H H1 H2 : Hp} (a : Go d H H1) (b : Same H1 H2) : Go d H H2 := ⟨fun c o n h => b c o (a.keep c o n h), by
  obtain ⟨x, y, z, e⟩ := a.dice
  exact ⟨x, y, z, b _ _ e⟩⟩
theorem same_new {H : Hp} {p : Addr} {o : HO} (h : H p = none) : Same H (upd H p o) := fun b u e => by
  rw [upd_ne (ne_of_none e h)]
  exact e
theorem Go.new {d p : Addr} {H H1 : Hp} {o : HO} (a : Go d H H1) (h : H1 p = none) : Go d H (upd H1 p o) := a.same (same_new h)
theorem Go.roll {d : Addr} {H H1 : Hp} (a : Go d H H1) (x y z : Int) : Go d H (upd H1 d (.lst [.int x, .int y, .int z])) :=
  ⟨fun b o n h => by rw [upd_ne n]; exact a.keep b o n h, x, y, z, upd_same⟩
theorem Go.at_ne {d p : Addr} {H H1 : Hp} (a : Go d H H1) (h : H1 p = none) : p ≠ d := fun e => by
  obtain ⟨x, y, z, e'⟩ := a.dice
  rw [← e, h] at e'
  cases e'
theorem Go.free {d p : Addr} {H H1 : Hp} (a : Go d H H1) (h : H1 p = none) : H p = none := by
  cases e : H p with
  | none => rfl
  | some o => rw [a.keep p o (a.at_ne h) e] at h; cases h
theorem d0 (a b c : V) : atI [a, b, c] 0 = some a := rfl
theorem d1 (a b c : V) : atI [a, b, c] 1 = some b := rfl
theorem d2 (a b c : V) : atI [a, b, c] 2 = some c := rfl
structure spDice (K : PySem.W.Frag) (vs : List V) (H : Hp) (Q : VK) (E : XK) : Prop where
  h : ∃ (s : Addr) (ns : List Int) (i : Nat), SqL K H s (ns.map V.int) ∧ vs = [.ref s, .int i] ∧ ∀ (p : Addr) (a b c : Int), H p = none → Q (.ref p) (upd H p (.lst [.int a, .int b, .int c]))
structure spRoll (vs : List V) (H : Hp) (Q : VK) (E : XK) : Prop where
  h : ∃ (d : Addr) (n : Int), Dice H d ∧ vs = [.ref d, .int n] ∧ CDivW 0 n ∧ ∀ (k : Int) (a b c : Int), 0 ≤ k → k < n → Q (.int k) (upd H d (.lst [.int a, .int b, .int c]))
structure spPick (vs : List V) (H : Hp) (Q : VK) (E : XK) : Prop where
  h : ∃ (d : Addr) (x : V), Dice H d ∧ vs = [.ref d, x] ∧
  ((∃ (l : Addr) (xs : List V), x = .ref l ∧ H l = some (.lst xs) ∧ xs ≠ [] ∧ xs.length ≤ 1000 ∧ l ≠ d ∧ ∀ (y : V) (a b c : Int), y ∈ xs → Q y (upd H d (.lst [.int a, .int b, .int c]))) ∨
   (∃ z : Str, x = .str z ∧ 0 < z.length ∧ z.length ≤ 1000 ∧ ∀ (y : Nat) (a b c : Int), Q (.str ⟨#[y]⟩) (upd H d (.lst [.int a, .int b, .int c]))))
theorem cdiv_small {n : Int} (h0 : 0 < n) (h : n < 2 ^ 64) : CDivW 0 n := wide_div (b := 64) h0 (by omega) (by decide) (by decide)
theorem fm_lo (m : Int) {k : Int} (hk : 0 < k) : 0 ≤ m.fmod k := by
  rw [Int.fmod_eq_emod_of_nonneg _ (by omega)]
  exact Int.emod_nonneg _ (by omega)
theorem fm_hi (m : Int) {k : Int} (hk : 0 < k) : m.fmod k < k := by
  rw [Int.fmod_eq_emod_of_nonneg _ (by omega)]
  exact Int.emod_lt_of_pos _ hk
theorem fm_mul (m : Int) {k : Int} (j : Int) (hk : 0 < k) (h : k ≤ 2 ^ 64) : CMul (m.fmod k) j := .inl ⟨by have := fm_lo m hk; omega, by have := fm_hi m hk; omega⟩
theorem ten120 : (10 : Int) ^ Int.toNat 60 * 10 ^ Int.toNat 60 ≠ 0 := by decide +kernel
theorem size3 : (3 : Nat) ≤ sizeLine := by decide
theorem q_bl {Q : VK} {H : Hp} {a b : Bool} (e : a = b) (k : Q (.bl b) H) : Q (.bl a) H := by
  rw [e]
  exact k
theorem take_more {α : Type} : ∀ {l : List α} {i : Nat} {x : α}, l[i]? = some x → l.take (i + 1) = l.take i ++ [x]
  | [], i, x, h => by simp at h
  | a :: l, 0, x, h => by
    have e : a = x := Option.some.inj h
    subst e
    rfl
  | a :: l, i + 1, x, h => by
    have ih := take_more (l := l) (i := i) (x := x) h
    show a :: l.take (i + 1) = a :: l.take i ++ [x]
    rw [ih]
    rfl
theorem same_own {H H' : Hp} {D : Addr} {o : HO} (h : Same H H') (hD : H D = none) : Same H (upd H' D o) := fun b u e => by
  rw [upd_ne (ne_of_none e hD)]
  exact h b u e
theorem line1000 : (1000 : Nat) < sizeLine := by decide
theorem roll_go {d : Addr} {H : Hp} {n : Int} {Q : VK} {E : XK} (hd : Dice H d) (h0 : 0 < n) (h1 : n < 2 ^ 64) (k : ∀ (j : Int) (H' : Hp), 0 ≤ j → j < n → Go d H H' → Q (.int j) H') : spRoll [.ref d, .int n] H Q E :=
  ⟨d, n, hd, rfl, cdiv_small h0 h1, fun j a b c g0 g1 => k j _ g0 g1 ((Go.refl hd).roll a b c)⟩
theorem pick_at {d l : Addr} {H : Hp} {xs : List V} {Q : VK} {E : XK} (hd : Dice H d) (hl : H l = some (.lst xs)) (hld : l ≠ d) (hne : xs ≠ []) (hn : xs.length ≤ 1000) (k : ∀ (y : V) (H' : Hp), y ∈ xs → Go d H H' → Q y H') : spPick [.ref d, .ref l] H Q E :=
  ⟨d, _, hd, rfl, .inl ⟨l, xs, rfl, hl, hne, hn, hld, fun y a b c hy => k y _ hy ((Go.refl hd).roll a b c)⟩⟩
theorem pick_new {d p : Addr} {H : Hp} {xs : List V} {Q : VK} {E : XK} (hd : Dice H d) (hp : H p = none) (hne : xs ≠ []) (hn : xs.length ≤ 1000) (k : ∀ (y : V) (H' : Hp), y ∈ xs → Go d H H' → Q y H') : spPick [.ref d, .ref p] (upd H p (.lst xs)) Q E :=
  pick_at ((Go.refl hd).new hp).dice upd_same ((Go.refl hd).at_ne hp) hne hn fun y H' hy g => k y H' hy (((Go.refl hd).new hp).trans g)
theorem pick_str {d : Addr} {H : Hp} {z : Str} {Q : VK} {E : XK} (hd : Dice H d) (h0 : 0 < z.length) (hn : z.length ≤ 1000) (k : ∀ (y : Nat) (H' : Hp), Go d H H' → Q (.str ⟨#[y]⟩) H') : spPick [.ref d, .str z] H Q E :=
  ⟨d, _, hd, rfl, .inr ⟨z, rfl, h0, hn, fun y a b c => k y _ ((Go.refl hd).roll a b c)⟩⟩
/-- a store to an object that is newer than H -/
theorem Go.own {d D : Addr} {H H' : Hp} {o : HO} (a : Go d H H') (hD : H D = none) (hDd : D ≠ d) : Go d H (upd H' D o) :=
  ⟨fun b u hb e => by
    rw [upd_ne (ne_of_none e hD)]
    exact a.keep b u hb e, by
    obtain ⟨x, y, z, e⟩ := a.dice
    exact ⟨x, y, z, by rw [upd_ne hDd.symm]; exact e⟩⟩
/-- both ways lead on to the same -/
theorem ite_on {c : Bool} {A B N : Prop} (h1 : c = true → N → A) (h2 : c = false → N → B) (hN : N) : if c = true then A else B := by
  cases hc : c with
  | true => exact iteT (h1 hc hN)
  | false => exact iteF (h2 hc hN)
section
variable {P : Program} {w : World} {K : PySem.W.Frag} {mg : Str → Option Value} {base : Heap}
theorem sc_dice : FnScope ["script", "spot", "cell", "left"] ["script", "spot"] (defScope s_law_dice) := ⟨rfl, rfl, rfl, by decide +kernel, rfl, by decide +kernel, by decide +kernel⟩
theorem ok_law_dice {f : Addr} {fd : FuncData} (F : Fun K "_law_dice" "_law_dice" s_law_dice f fd) (T : Txt K mg) : FnOk P w K mg base CX0 1 f fd ["script", "spot"] (spDice K) := by
  refine F.ok sc_dice (fun vs H Q E h => ?_) (fun cdv A outer s H vs Q E hr h => ?_)
  · obtain ⟨a, ns, i, _, rfl, _⟩ := h
    rfl
  · obtain ⟨a, ns, i, hS, rfl, k⟩ := h
    refine ⟨_, pss_cons (ps_set (i := 2) sc_dice.nd rfl (Or.inl rfl) (pe_ifExp (pt_cmpR op_lt (pv 1) (pe_callB call_len (by rfl) T.n_len (by decide +kernel) (pa_cons (pv 0) pa_nil)) (nomark _))
          (pe_callTy call_int1 (by rfl) T.n_int (by decide +kernel) (pa_cons (pe_ix ix_list (pv 0) (pv 1) (fun _ _ => rfl)) pa_nil))
          (pe_op op_add (pe_op op_mul pe_int (pv 1)) pe_int)))
      (pss_cons (ps_set (i := 3) sc_dice.nd rfl (Or.inl rfl) (pe_op op_modN
          (pe_callB (call_max2 rfl) (by rfl) T.n_max (by decide +kernel) (pa_cons pe_int (pa_cons (pe_op op_sub (pe_callB call_abs (by rfl) T.n_abs (by decide +kernel) (pa_cons (pv 2) pa_nil)) (pe_op op_pow pe_int pe_int)) pa_nil)))
          (pe_op op_mulW (pe_op op_pow pe_int pe_int) (pe_op op_pow pe_int pe_int))))
      (pss_one (ps_ret (pe_lst (pa_cons (pv 3) (pa_cons
          (pe_op op_add (pe_op op_add (pe_op op_add (pe_op op_mul (pe_op op_modN (pe_callB call_abs (by rfl) T.n_abs (by decide +kernel) (pa_cons (pv 2) pa_nil)) pe_int) pe_int) (pe_op op_mul pe_int (pv 1)))
            (pe_op op_mul pe_int (pe_callTy call_int1 (by rfl) T.n_int (by decide +kernel) (pa_cons (pe_cmpR op_lt (pv 2) pe_int (nomark _)) pa_nil)))) pe_int) (pa_cons pe_int pa_nil))))))), ?_⟩
    -- what stands behind the first row, for any cell
    have key : ∀ m : Int, ∃ r : Int, (m.fmod 1152921504606846883) = r ∧ 0 ≤ r ∧ r < 1152921504606846883 := fun m => ⟨_, rfl, by rw [Int.fmod_eq_emod_of_nonneg _ (by decide)]; exact Int.emod_nonneg _ (by decide), by rw [Int.fmod_eq_emod_of_nonneg _ (by decide)]; exact Int.emod_lt_of_pos _ (by decide)⟩
    refine ⟨_, rfl, _, rfl, _, _, rfl, .inl ⟨_, hS, rfl⟩, _, _, rfl, rfl, _, rfl, ?_⟩
    refine ite2 (fun hc => ?x) (fun hc => ?y)
    case' x =>
      have hi : i < ns.length := by
        have h1 : i < (List.map V.int ns).length := by
          have := of_decide_eq_true hc
          omega
        rwa [List.length_map] at h1
      have hx : (ns.map V.int)[i]? = some (.int ns[i]) := by
        rw [List.getElem?_map, List.getElem?_eq_getElem hi]
        rfl
      refine ⟨_, rfl, _, rfl, a, _, _, _, rfl, rfl, hS, atI_nat hx, .inl ⟨_, rfl, ?_⟩⟩
    case' y =>
      refine ⟨_, rfl, _, _, rfl, rfl, .inl ⟨by decide, by decide⟩, _, _, rfl, rfl, ?_⟩
    all_goals
      clear hc
      refine ⟨_, rfl, _, rfl, _, _, rfl, rfl, ⟨by decide, by decide, by decide⟩, ?_⟩
      walk_at "rr"
      refine ⟨⟨by decide, by decide, by decide⟩, _, _, rfl, rfl, ⟨by decide, by decide, by decide⟩, _, _, rfl, rfl, wide_mul (a := 200) (b := 200) (by decide) (by decide) (by decide) (by decide) (by decide), _, _, rfl, rfl, ten120, ?_⟩
      walk_at "rr"
      refine ⟨(by decide : (1152921504606846883 : Int) ≠ 0), ?_⟩
      walk_at "rr"
      refine ⟨fm_mul _ _ (by decide) (by decide), ?_⟩
      walk_at "rr"
      refine ⟨.inl ⟨by decide, by decide⟩, ?_⟩
      walk_at "rr"
      refine ⟨.inl ⟨by decide, by decide⟩, ?_⟩
      walk_at "rr"
      exact ⟨size3, fun p hp => k p _ _ _ hp⟩
theorem sc_roll : FnScope ["dice", "total", "found", "one", "two"] ["dice", "total"] (defScope s_law_roll) := ⟨rfl, rfl, rfl, by decide +kernel, rfl, by decide +kernel, by decide +kernel⟩
theorem ok_law_roll {f : Addr} {fd : FuncData} (F : Fun K "_law_roll" "_law_roll" s_law_roll f fd) (T : Txt K mg) : FnOk P w K mg base CX0 1 f fd ["dice", "total"] spRoll := by
  refine F.ok sc_roll (fun vs H Q E h => ?_) (fun cdv A outer s H vs Q E hr h => ?_)
  · obtain ⟨d, n, _, rfl, _⟩ := h
    rfl
  · obtain ⟨d, n, ⟨a, b, c, hd⟩, rfl, hn, k⟩ := h
    have hn0 : 0 < n := hn.1
    refine ⟨_, pss_cons (ps_if (pt_cmpR op_gt (pe_ix ix_list (pv 0) pe_int (fun _ _ => rfl)) pe_int (nomark _))
        (pss_cons (ps_set (i := 2) sc_roll.nd rfl (Or.inl rfl) (pe_op op_modN (pe_callTy call_int1 (by rfl) T.n_int (by decide +kernel) (pa_cons (pe_ix ix_list (pv 0) pe_int (fun _ _ => rfl)) pa_nil)) (pv 1)))
        (pss_cons (ps_asg (pe_op op_fdivW (pe_ix ix_list (pv 0) pe_int (fun _ _ => rfl)) (pv 1)) (pg_sub (pv 0) pe_int set_list))
        (pss_one (ps_ret (pv 2))))) pss_nil)
      (pss_cons (ps_asg (pe_op op_add (pe_ix ix_list (pv 0) pe_int (fun _ _ => rfl)) pe_int) (pg_sub (pv 0) pe_int set_list))
      (pss_cons (ps_set (i := 3) sc_roll.nd rfl (Or.inl rfl) (pe_op op_modN (pe_callTy call_int1 (by rfl) T.n_int (by decide +kernel) (pa_cons (pe_op op_add (pe_ix ix_list (pv 0) pe_int (fun _ _ => rfl)) (pe_op op_mul pe_int (pe_ix ix_list (pv 0) pe_int (fun _ _ => rfl)))) pa_nil)) pe_int))
      (pss_cons (ps_set (i := 4) sc_roll.nd rfl (Or.inl rfl) (pe_op op_add (pe_op op_mul (pe_op op_modN (pe_callTy call_int1 (by rfl) T.n_int (by decide +kernel) (pa_cons (pe_op op_add (pe_op op_mul (pv 3) (pv 3)) (pe_op op_mul pe_int (pe_ix ix_list (pv 0) pe_int (fun _ _ => rfl)))) pa_nil)) pe_int) pe_int) (pv 3)))
      (pss_one (ps_ret (pe_op op_modN (pe_callTy call_int1 (by rfl) T.n_int (by decide +kernel) (pa_cons (pe_op op_fdivN (pv 4) pe_int) pa_nil)) (pv 1))))))), ?_⟩
    walk_at "rr"
    refine ⟨_, _, _, _, rfl, rfl, SqL.of hd, d0 _ _ _, ?_⟩
    walk_at "rr"
    refine ite2 (fun hc => ?_) (fun hc => ?_)
    · walk_at "rr"
      refine ⟨_, _, _, _, rfl, rfl, SqL.of hd, d0 _ _ _, ?_⟩
      walk_at "rr"
      refine ⟨by show n ≠ 0; omega, ?_⟩
      walk_at "rr"
      refine ⟨_, _, _, _, rfl, rfl, SqL.of hd, d0 _ _ _, ?_⟩
      walk_at "rr"
      refine ⟨hn, ?_⟩
      walk_at "rr"
      refine ⟨d, _, _, 0, rfl, rfl, hd, rfl, ?_⟩
      walk_at "rr"
      exact k _ _ _ _ (fm_lo _ hn0) (fm_hi _ hn0)
    · walk_at "rr"
      refine ⟨_, _, _, _, rfl, rfl, SqL.of hd, d2 _ _ _, ?_⟩
      walk_at "rr"
      refine ⟨d, _, _, 2, rfl, rfl, hd, rfl, ?_⟩
      have hd' : (upd H d (.lst ([V.int a, V.int b, V.int c].set 2 (V.int (c + 1))))) d = some (.lst [V.int a, V.int b, V.int (c + 1)]) := upd_same
      walk_at "rr"
      refine ⟨_, _, _, _, rfl, rfl, SqL.of hd', d1 _ _ _, ?_⟩
      walk_at "rr"
      refine ⟨_, _, _, _, rfl, rfl, SqL.of hd', d2 _ _ _, ?_⟩
      walk_at "rr"
      refine ⟨.inl ⟨by decide, by decide⟩, ?_⟩
      walk_at "rr"
      refine ⟨(by decide : (2305843009213693921 : Int) ≠ 0), ?_⟩
      walk_at "rr"
      refine ⟨fm_mul _ _ (by decide) (by decide), ?_⟩
      walk_at "rr"
      refine ⟨_, _, _, _, rfl, rfl, SqL.of hd', d2 _ _ _, ?_⟩
      walk_at "rr"
      refine ⟨.inl ⟨by decide, by decide⟩, ?_⟩
      walk_at "rr"
      refine ⟨(by decide : (2305843009213693907 : Int) ≠ 0), ?_⟩
      walk_at "rr"
      refine ⟨fm_mul _ _ (by decide) (by decide), ?_⟩
      walk_at "rr"
      refine ⟨⟨by decide, by decide⟩, ?_⟩
      walk_at "rr"
      refine ⟨by show n ≠ 0; omega, ?_⟩
      exact k _ _ _ _ (fm_lo _ hn0) (fm_hi _ hn0)
theorem sc_pick : FnScope ["dice", "items"] ["dice", "items"] (defScope s_law_pick) := ⟨rfl, rfl, rfl, by decide +kernel, rfl, by decide +kernel, by decide +kernel⟩
theorem ok_law_pick {f : Addr} {fd : FuncData} (F : Fun K "_law_pick" "_law_pick" s_law_pick f fd) (T : Txt K mg) (DR : Dfn P w K mg base "_law_roll" 1 ["dice", "total"] spRoll) : FnOk P w K mg base CX0 2 f fd ["dice", "items"] spPick := by
  refine F.ok sc_pick (fun vs H Q E h => ?_) (fun cdv A outer s H vs Q E hr h => ?_)
  · obtain ⟨d, x, _, rfl, _⟩ := h
    rfl
  · obtain ⟨d, x, hd, rfl, k⟩ := h
    refine ⟨_, pss_one (ps_ret (pe_ix ix_seq (pv 1) (pe_d DR hr (pa_cons (pv 0) (pa_cons (pe_callB call_len (by rfl) T.n_len (by decide +kernel) (pa_cons (pv 1) pa_nil)) pa_nil))) (fun _ _ => rfl))), ?_⟩
    rcases k with ⟨l, xs, rfl, hl, hne, hlen, hld, k⟩ | ⟨z, rfl, hz, hz2, k⟩
    · walk_at "rr"
      have h0 : 0 < xs.length := List.length_pos_iff.mpr hne
      refine ⟨_, xs.length, rfl, .inl ⟨xs, SqL.of hl, rfl⟩, ?_⟩
      refine ⟨d, _, hd, rfl, cdiv_small (by omega) (by omega), fun j a b c h1 h2 => ?_⟩
      obtain ⟨m, rfl⟩ : ∃ m : Nat, j = m := ⟨j.toNat, by omega⟩
      have hm : m < xs.length := by omega
      exact .inl ⟨l, xs, _, _, rfl, rfl, SqL.of (by rw [upd_ne hld]; exact hl), atI_nat (List.getElem?_eq_getElem hm), k _ _ _ _ (List.getElem_mem hm)⟩
    · walk_at "rr"
      have hs : (1000 : Nat) ≤ sizeLine := by decide
      refine ⟨_, z.length, rfl, ⟨by omega, rfl⟩, ?_⟩
      refine ⟨d, _, hd, rfl, cdiv_small (by omega) (by omega), fun j a b c h1 h2 => ?_⟩
      obtain ⟨m, rfl⟩ : ∃ m : Nat, j = m := ⟨j.toNat, by omega⟩
      have hm : m < z.cps.toList.length := by rw [Array.length_toList]; show m < z.length; omega
      exact .inr (.inr ⟨z, _, _, rfl, rfl, by omega, atI_nat (List.getElem?_eq_getElem hm), k _ _ _ _⟩)
end
/-! ### values by their kinds, names, integers -/
inductive Kd (H : Hp) : V → String → Prop where
  | non : Kd H .non "NoneType"
  | bl (b : Bool) : Kd H (.bl b) "bool"
  | int (i : Int) : Kd H (.int i) "int"
  | str (z : Str) (h : z.length ≤ 1000) : Kd H (.str z) "str"
  | lst {a : Addr} {xs : List V} (e : H a = some (.lst xs)) : Kd H (.ref a) "list"
  | tup {a : Addr} {xs : List V} (e : H a = some (.tup xs)) : Kd H (.ref a) "tuple"
  | dK {a : Addr} {kvs : List (Key × V)} (e : H a = some (.dK kvs)) : Kd H (.ref a) "dict"
theorem Kd.tyX {K : PySem.W.Frag} {H : Hp} {v : V} {t : String} (h : Kd H v t) : TyX K H v (.type t) := by
  cases h with
  | non => exact .base .non
  | bl b => exact .base (.bl b)
  | int i => exact .base (.int i)
  | str z _ => exact .base (.str z)
  | lst e => exact .base (.lst e)
  | tup e => exact .base (.tup e)
  | dK e => exact .base (.dK e)
def isa (t c : String) : Bool := match c with
  | "int" => t == "int" || t == "bool"
  | _ => t == c
theorem Kd.isa {K : PySem.W.Frag} {H : Hp} {v : V} {t c : String} (h : Kd H v t) (hc : c ∈ (["int", "bool", "str", "tuple", "dict"] : List String)) : PySem.W.kitOne K (.type t) (.type c) = some (isa t c) := by
  simp only [List.mem_cons, List.not_mem_nil, or_false] at hc
  cases h <;> rcases hc with rfl | rfl | rfl | rfl | rfl <;> exact kit_ty (by decide +kernel)
theorem Kd.same {H H' : Hp} {v : V} {t : String} (h : Kd H v t) (e : Same H H') : Kd H' v t := by
  cases h with
  | non => exact .non
  | bl b => exact .bl b
  | int i => exact .int i
  | str z h => exact .str z h
  | lst q => exact .lst (e _ _ q)
  | tup q => exact .tup (e _ _ q)
  | dK q => exact .dK (e _ _ q)
def isIntV : V → Bool
  | .int i => decide (i.natAbs < 10 ^ 60)
  | _ => false
def isCntV : V → Bool
  | .int i => decide (i.natAbs < 10 ^ 60) && decide (0 ≤ i)
  | _ => false
def azS (z : Str) : Bool := !decide (z.cps.toList < ("a" : Str).cps.toList) && !decide (("z" : Str).cps.toList < z.cps.toList)
def isWordS (z : Str) : Bool := decide (1 ≤ z.length) && decide (z.length ≤ 8) && z.cps.toList.all fun c => azS ⟨#[c]⟩
def isNameV : V → Bool
  | .str z => isWordS z
  | _ => false
def areNames (H : Hp) : V → Bool
  | .ref a => match H a with
    | some (.tup xs) => xs.all isNameV
    | _ => false
  | _ => false
structure spIsInt (vs : List V) (H : Hp) (Q : VK) (E : XK) : Prop where
  h : ∃ (v : V) (t : String), Kd H v t ∧ vs = [v] ∧ Q (.bl (isIntV v)) H
structure spIsCnt (vs : List V) (H : Hp) (Q : VK) (E : XK) : Prop where
  h : ∃ (v : V) (t : String), Kd H v t ∧ vs = [v] ∧ Q (.bl (isCntV v)) H
structure spIsName (vs : List V) (H : Hp) (Q : VK) (E : XK) : Prop where
  h : ∃ (v : V) (t : String), Kd H v t ∧ vs = [v] ∧ ∀ H', Same H H' → Q (.bl (isNameV v)) H'
structure spAreNames (vs : List V) (H : Hp) (Q : VK) (E : XK) : Prop where
  h : ∃ (v : V) (t : String), Kd H v t ∧ vs = [v] ∧ (∀ a xs, v = .ref a → H a = some (.tup xs) → xs.length ≤ 1000 ∧ ∀ x ∈ xs, ∃ t, Kd H x t) ∧ ∀ H', Same H H' → Q (.bl (areNames H v)) H'
theorem nine60 : PySem.intText? (repS "9" 60) = some (10 ^ 60 - 1) := by decide +kernel
theorem nine60l : (repS "9" 60).length ≤ 640 := by decide +kernel
section
variable {P : Program} {w : World} {K : PySem.W.Frag} {mg : Str → Option Value} {base : Heap}
theorem sc_is_integer : FnScope ["value"] ["value"] (defScope s_is_integer) := ⟨rfl, rfl, rfl, by decide +kernel, rfl, by decide +kernel, by decide +kernel⟩
theorem ok_is_integer {f : Addr} {fd : FuncData} (F : Fun K "is_integer" "is_integer" s_is_integer f fd) (T : Txt K mg) : FnOk P w K mg base CX0 1 f fd ["value"] spIsInt := by
  refine F.ok sc_is_integer (fun vs H Q E h => ?_) (fun cdv A outer s H vs Q E hr h => ?_)
  · obtain ⟨v, t, _, rfl, _⟩ := h
    rfl
  · obtain ⟨v, t, hk, rfl, k⟩ := h
    obtain ⟨tf, hF⟩ := T.c_MAX_FIGURES
    refine ⟨_, pss_cons (ps_if (PW.pt (pw_or (pt_not (pt_val (pe_callB call_isi (by rfl) T.n_isinstance (by decide +kernel) (pa_cons (pv 0) (pa_cons (pe_bltn (v := .ty "int") (by rfl) T.n_int (by decide +kernel) rfl) pa_nil)))))
          (pw_or1 (pt_val (pe_callB call_isi (by rfl) T.n_isinstance (by decide +kernel) (pa_cons (pv 0) (pa_cons (pe_bltn (v := .ty "bool") (by rfl) T.n_bool (by decide +kernel) rfl) pa_nil))))))) (pss_one (ps_ret pe_bl)) pss_nil)
      (pss_one (ps_ret (pe_cmpR op_le (pe_callB call_abs (by rfl) T.n_abs (by decide +kernel) (pa_cons (pv 0) pa_nil))
        (pe_callTy call_int_str (by rfl) T.n_int (by decide +kernel) (pa_cons (pe_op op_mulS pe_str (pe_glob (v := .int 60) rfl hF ⟨_, rfl⟩)) pa_nil)) (nomark _)))), ?_⟩
    walk_at "rr"
    refine ⟨v, _, _, _, _, rfl, .ty _, hk.tyX, hk.isa (by decide), ?_⟩
    walk_at "rr"
    cases hk with
    | int i =>
      refine iteF ⟨_, rfl, _, _, _, _, _, rfl, .ty _, (Kd.int i).tyX, (Kd.int (H := H) i).isa (by decide), ?_⟩
      walk_at "rr"
      refine ⟨by decide, by decide, by decide +kernel, by decide +kernel, _, _, rfl, nine60, nine60l, ?_⟩
      walk_at "rr"
      have e : decide ((if i < 0 then -i else i) ≤ (10 : Int) ^ 60 - 1) = isIntV (.int i) := by
        show _ = decide (i.natAbs < 10 ^ 60)
        refine decide_eq_decide.mpr ?_
        split <;> omega
      exact q_bl (Q := Q) e k
    | bl b =>
      refine iteF ⟨_, rfl, _, _, _, _, _, rfl, .ty _, (Kd.bl b).tyX, (Kd.bl (H := H) b).isa (by decide), ?_⟩
      walk_at "rr"
      exact iteT k
    | non => exact iteT (iteT k)
    | str z h => exact iteT (iteT k)
    | lst e => exact iteT (iteT k)
    | tup e => exact iteT (iteT k)
    | dK e => exact iteT (iteT k)
theorem sc_is_count : FnScope ["value"] ["value"] (defScope s_is_count) := ⟨rfl, rfl, rfl, by decide +kernel, rfl, by decide +kernel, by decide +kernel⟩
theorem ok_is_count {f : Addr} {fd : FuncData} (F : Fun K "is_count" "is_count" s_is_count f fd) (T : Txt K mg) (DI : Dfn P w K mg base "is_integer" 1 ["value"] spIsInt) : FnOk P w K mg base CX0 2 f fd ["value"] spIsCnt := by
  refine F.ok sc_is_count (fun vs H Q E h => ?_) (fun cdv A outer s H vs Q E hr h => ?_)
  · obtain ⟨v, t, _, rfl, _⟩ := h
    rfl
  · obtain ⟨v, t, hk, rfl, k⟩ := h
    refine ⟨_, pss_one (ps_ret (pe_and (pe_d DI hr (pa_cons (pv 0) pa_nil)) (pe_one (pe_cmpR op_ge (pv 0) pe_int (nomark _))))), ?_⟩
    walk_at "rr"
    refine ⟨v, t, hk, rfl, _, rfl, ?_⟩
    cases hk with
    | int i =>
      refine ite2 (fun hc => ?_) (fun hc => ?_)
      · walk_at "rr"
        have e : decide (0 ≤ i) = isCntV (.int i) := by
          show _ = (decide (i.natAbs < 10 ^ 60) && decide (0 ≤ i))
          rw [show decide (i.natAbs < 10 ^ 60) = true from hc, Bool.true_and]
        exact q_bl (Q := Q) e k
      · have e : isCntV (.int i) = false := by
          show (decide (i.natAbs < 10 ^ 60) && decide (0 ≤ i)) = false
          rw [show decide (i.natAbs < 10 ^ 60) = false from Bool.eq_false_iff.mpr hc, Bool.false_and]
        rw [e] at k
        exact k
    | bl b => exact k
    | non => exact k
    | str z h => exact k
    | lst e => exact k
    | tup e => exact k
    | dK e => exact k
/-- the chain 'a' <= letter <= 'z' -/
theorem azS_ff {z : Str} (h : (!decide (z.cps.toList < ("a" : Str).cps.toList)) = false) : azS z = false := by
  unfold azS
  rw [h, Bool.false_and]
theorem azS_t {z : Str} (h : (!decide (z.cps.toList < ("a" : Str).cps.toList)) = true) : azS z = !decide (("z" : Str).cps.toList < z.cps.toList) := by
  unfold azS
  rw [h, Bool.true_and]
theorem sc_is_name : FnScope ["value", "letter"] ["value"] (defScope s_is_name) := ⟨rfl, rfl, rfl, by decide +kernel, rfl, by decide +kernel, by decide +kernel⟩
theorem ok_is_name {f : Addr} {fd : FuncData} (F : Fun K "is_name" "is_name" s_is_name f fd) (T : Txt K mg) : FnOk P w K mg base CX0 1 f fd ["value"] spIsName := by
  refine F.ok sc_is_name (fun vs H Q E h => ?_) (fun cdv A outer s H vs Q E hr h => ?_)
  · obtain ⟨v, t, _, rfl, _⟩ := h
    rfl
  · obtain ⟨v, t, hk, rfl, k⟩ := h
    obtain ⟨tf, hF⟩ := T.c_MAX_LETTERS
    refine ⟨_, pss_cons (ps_if (PW.pt (pw_or (pt_not (pt_val (pe_callB call_isi (by rfl) T.n_isinstance (by decide +kernel) (pa_cons (pv 0) (pa_cons (pe_bltn (v := .ty "str") (by rfl) T.n_str (by decide +kernel) rfl) pa_nil)))))
          (pw_or1 (pt_not (pt_chain op_le op_le pe_int (pe_callB call_len (by rfl) T.n_len (by decide +kernel) (pa_cons (pv 0) pa_nil)) (pe_glob (v := .int 8) rfl hF ⟨_, rfl⟩)))))) (pss_one (ps_ret pe_bl)) pss_nil)
      (pss_one (ps_ret (pe_callB (cr_all rfl) (by rfl) T.n_all (by decide +kernel) (pa_cons (pe_lc (own := [("letter", 1)]) (g := gName 1) (tt := tYes) rfl sc_is_name.nd (pi_str (pv 0)) (blkOk_by (own := [("letter", 1)]) (N := ["value", "letter"]) (sc := defScope s_is_name) (by decide +kernel))
        (fun _ _ _ _ _ => pg_name (i := 1) sc_is_name.nd rfl (Or.inl rfl)) (fun _ _ _ _ _ => pts_nil) (fun _ _ _ _ _ => pe_chain op_le_str op_le_str pe_str (pv 1) pe_str)) pa_nil)))), ?_⟩
    walk_at "rr"
    refine ⟨v, _, _, _, _, rfl, .ty _, hk.tyX, hk.isa (by decide), ?_⟩
    walk_at "rr"
    cases hk with
    | str z h =>
      walk_at "rr"
      have hs : (1000 : Nat) ≤ sizeLine := by decide
      refine ⟨_, z.length, rfl, ⟨by omega, rfl⟩, ?_⟩
      walk_at "rr"
      refine ite2 (fun h1 => ?_) (fun h1 => ?_)
      · walk_at "rr"
        refine ite2 (fun h2 => ?_) (fun h2 => ?_)
        · refine q_bl (Q := Q) ?_ (k H (Same.refl _))
          have h3 : ¬ z.length ≤ 8 := by
            have : decide ((z.length : Int) ≤ 8) = false := by simpa using h2
            have := of_decide_eq_false this
            omega
          show false = (decide (1 ≤ z.length) && decide (z.length ≤ 8) && _)
          rw [decide_eq_false h3, Bool.and_false, Bool.false_and]
        · have h3 : z.length ≤ 8 := by
            have : decide ((z.length : Int) ≤ 8) = true := by simpa using h2
            have := of_decide_eq_true this
            omega
          have h4 : 1 ≤ z.length := by
            have := of_decide_eq_true h1
            omega
          walk_at "rr"
          have hlen : z.cps.toList.length = z.length := Array.length_toList
          refine fun D hD => lc_str (x := z) (fun i H' => Same H H' ∧ H' D = some (.lst ((z.cps.toList.take i).map fun c => V.bl (azS ⟨#[c]⟩)))) ⟨same_new hD, upd_same⟩ ?_ ?_
          · rintro i c H' hc ⟨s1, hD'⟩
            have hi : i < z.length := by rw [← hlen]; exact (List.getElem?_eq_some_iff.mp hc).1
            refine ⟨rfl, ?_⟩
            have fin : ∀ b : Bool, b = azS ⟨#[c]⟩ → ∃ acc, H' D = some (.lst acc) ∧ acc.length < sizeLine ∧ (Same H (upd H' D (.lst (acc ++ [V.bl b]))) ∧ (upd H' D (.lst (acc ++ [V.bl b]))) D = some (.lst ((z.cps.toList.take (i + 1)).map fun c => V.bl (azS ⟨#[c]⟩)))) := fun b e => by
              refine ⟨_, hD', ?_, same_own s1 hD, ?_⟩
              · rw [List.length_map, List.length_take]
                have := line1000
                omega
              · rw [upd_same, take_more hc, List.map_append, e]
                rfl
            walk_at "rr"
            cases e : (!decide ((⟨#[c]⟩ : Str).cps.toList < ("a" : Str).cps.toList)) with
            | true =>
              walk_at "rr"
              exact fin _ (azS_t e).symm
            | false =>
              refine iteF ?_
              exact fin _ (azS_ff e).symm
          · rintro H' ⟨s1, hD'⟩
            refine ⟨D, (z.cps.toList.map fun c => azS ⟨#[c]⟩), rfl, SqL.of ?_, ?_⟩
            · rw [List.take_length] at hD'
              rw [List.map_map]
              exact hD'
            · refine q_bl (Q := Q) ?_ (k H' s1)
              show _ = (decide (1 ≤ z.length) && decide (z.length ≤ 8) && z.cps.toList.all fun c => azS ⟨#[c]⟩)
              rw [decide_eq_true h4, decide_eq_true h3, Bool.true_and, Bool.true_and, List.all_map]
              rfl
      · walk_at "rr"
        refine q_bl (Q := Q) ?_ (k H (Same.refl _))
        have h3 : ¬ 1 ≤ z.length := fun h => h1 (decide_eq_true (by omega))
        show false = (decide (1 ≤ z.length) && decide (z.length ≤ 8) && _)
        rw [decide_eq_false h3, Bool.false_and, Bool.false_and]
    | int i => exact k _ (Same.refl _)
    | bl b => exact k _ (Same.refl _)
    | non => exact k _ (Same.refl _)
    | lst e => exact k _ (Same.refl _)
    | tup e => exact k _ (Same.refl _)
    | dK e => exact k _ (Same.refl _)
theorem sc_are_names : FnScope ["value", "name"] ["value"] (defScope s_are_names) := ⟨rfl, rfl, rfl, by decide +kernel, rfl, by decide +kernel, by decide +kernel⟩
theorem ok_are_names {f : Addr} {fd : FuncData} (F : Fun K "are_names" "are_names" s_are_names f fd) (T : Txt K mg) (DN : Dfn P w K mg base "is_name" 1 ["value"] spIsName) : FnOk P w K mg base CX0 2 f fd ["value"] spAreNames := by
  refine F.ok sc_are_names (fun vs H Q E h => ?_) (fun cdv A outer s H vs Q E hr h => ?_)
  · obtain ⟨v, t, _, rfl, _⟩ := h
    rfl
  · obtain ⟨v, t, hk, rfl, hx, k⟩ := h
    refine ⟨_, pss_one (ps_ret (pe_and (pe_callB call_isi (by rfl) T.n_isinstance (by decide +kernel) (pa_cons (pv 0) (pa_cons (pe_bltn (v := .ty "tuple") (by rfl) T.n_tuple (by decide +kernel) rfl) pa_nil)))
      (pe_one (pe_callB (cr_all rfl) (by rfl) T.n_all (by decide +kernel) (pa_cons (pe_lc (own := [("name", 1)]) (g := gName 1) (tt := tYes) rfl sc_are_names.nd (pi_tup (pv 0)) (blkOk_by (own := [("name", 1)]) (N := ["value", "name"]) (sc := defScope s_are_names) (by decide +kernel))
        (fun _ _ _ _ _ => pg_name (i := 1) sc_are_names.nd rfl (Or.inl rfl)) (fun _ _ _ _ _ => pts_nil) (fun _ _ _ _ _ => pe_d DN hr (pa_cons (pv 1) pa_nil))) pa_nil))))), ?_⟩
    walk_at "rr"
    refine ⟨v, _, _, _, _, rfl, .ty _, hk.tyX, hk.isa (by decide), ?_⟩
    walk_at "rr"
    cases hk with
    | @tup a xs e =>
      obtain ⟨hl, hx⟩ := hx a xs rfl e
      walk_at "rr"
      refine ⟨⟨_, SqT.of e⟩, ?_⟩
      have hs := line1000
      refine fun D hD => lc_tup (K := K) (a := a) (xs := xs) (fun i H' => Same H H' ∧ H' D = some (.lst ((xs.take i).map fun x => V.bl (isNameV x)))) ⟨same_new hD, upd_same⟩ (fun i H' _ p => SqT.of (p.1 _ _ e)) ?_ ?_
      · rintro i x H' hi ⟨s1, hD'⟩
        have hil : i < xs.length := (List.getElem?_eq_some_iff.mp hi).1
        obtain ⟨t, ht⟩ := hx x (List.mem_of_getElem? hi)
        refine ⟨rfl, ?_⟩
        walk_at "rr"
        refine ⟨_, t, ht.same s1, rfl, fun H2 s2 => ?_⟩
        refine ⟨_, s2 _ _ hD', ?_, same_own (s1.trans s2) hD, ?_⟩
        · rw [List.length_map, List.length_take]
          omega
        · rw [upd_same, take_more hi, List.map_append]
          rfl
      · rintro H' ⟨s1, hD'⟩
        refine ⟨D, xs.map isNameV, rfl, SqL.of ?_, ?_⟩
        · rw [List.take_length] at hD'
          rw [List.map_map]
          exact hD'
        · refine q_bl (Q := Q) ?_ (k H' s1)
          show _ = (match H a with | some (.tup xs) => xs.all isNameV | _ => false)
          rw [e, List.all_map]
          rfl
    | @lst a xs e => exact q_bl (Q := Q) (by show _ = (match H a with | some (.tup xs) => xs.all isNameV | _ => false); rw [e] <;> rfl) (k _ (Same.refl _))
    | @dK a xs e => exact q_bl (Q := Q) (by show _ = (match H a with | some (.tup xs) => xs.all isNameV | _ => false); rw [e] <;> rfl) (k _ (Same.refl _))
    | int i => exact k _ (Same.refl _)
    | bl b => exact k _ (Same.refl _)
    | non => exact k _ (Same.refl _)
    | str z h => exact k _ (Same.refl _)
end
end K1
namespace PySem.SeqAt
open AutoSeq1 (wpAny_loadPart')
open MeetsSeq
theorem dict_eq_declines_tuple (l b : Addr) (items2 : Array Value) (es : Array DictEntry) (n n2 : Nat) (dd dd2 : Option Addr) (sl sl2 : Array (Option Value)) :
    Meets (Builtin.«dict.__eq__» ⟨[.ref l, .ref b], []⟩) (fun _ R s => s.heap.get? l = some { cls := .type "dict", dict := dd, data := .dict es n, slots := sl } ∧ s.heap.get? b = some { cls := .type "tuple", dict := dd2, data := .seq items2 n2, slots := sl2 } ∧ R (.ok (.ret .notImplemented)) s) :=
  .of_wp fun prog w A R s h => by obtain ⟨hp, g, d, tk, os⟩ := s; obtain ⟨hl, hb, h⟩ := h; have f1 := F.sub_tuple_dict; wp_walk using wpAny_loadPart' hl, wpAny_loadPart' hb; exact ⟨_, rfl, h⟩
theorem tuple_eq_declines_dict (l b : Addr) (items : Array Value) (es : Array DictEntry) (n n2 : Nat) (dd dd2 : Option Addr) (sl sl2 : Array (Option Value)) :
    Meets (Builtin.«tuple.__eq__» ⟨[.ref l, .ref b], []⟩) (fun _ R s => s.heap.get? l = some { cls := .type "tuple", dict := dd, data := .seq items n, slots := sl } ∧ s.heap.get? b = some { cls := .type "dict", dict := dd2, data := .dict es n2, slots := sl2 } ∧ R (.ok (.ret .notImplemented)) s) :=
  .of_wp fun prog w A R s h => by obtain ⟨hp, g, d, tk, os⟩ := s; obtain ⟨hl, hb, h⟩ := h; have f1 := F.sub_dict_tuple; wp_walk using wpAny_loadPart' hl, wpAny_loadPart' hb; exact ⟨_, rfl, h⟩
theorem RcAt.dict_tuple {A : Around} {s : Shared} {l b : Addr} {o : Obj} {es : Array DictEntry} {n : Nat} {items2 : Array Value} (ho : s.heap.get? l = some o) (hc : o.cls = .type "dict") (hd : o.data = .dict es n) (hb : s.heap.IsTuple b items2) (hu : A.units < cLine) :
    RcAt A s (.ref l) (.ref b) false := fun prog w E Q h => by
  obtain ⟨cls, dd, data, sl⟩ := o
  obtain ⟨⟨cls2, dd2, data2, sl2⟩, ho2, hc2, n2, hd2⟩ := id hb
  simp only at hc hd hc2 hd2
  subst hc hd hc2 hd2
  have hne : l ≠ b := fun e => by
    subst e
    rw [ho] at ho2
    exact absurd (congrArg Obj.cls (Option.some.inj ho2)) (by simp)
  exact (rc_eq_decline_or (k := false) ⟨_, ho, rfl⟩ ⟨_, ho2, rfl⟩ (by decide) F.sub_tuple_dict F.slot_dict_eq F.slot_tuple_eq_refl
    (fun _ hq => call_meets F.slot_dict_eq ⟨_, ho, rfl⟩ F.entry_dict_eq (F.args_dict_eq_2 _ _) (dict_eq_declines_tuple l b items2 es n n2 dd dd2 sl sl2) ⟨ho, ho2, hq⟩)
    (fun _ hq => call_meets F.slot_tuple_eq_refl ⟨_, ho2, rfl⟩ F.entry_tuple_eq (F.args_tuple_eq_2 _ _) (tuple_eq_declines_dict b l items2 es n2 n dd2 dd sl2 sl) ⟨ho2, ho, hq⟩)
    (fun _ hq => wpAny_isSame_ref_other hne ho ho2 (by simp) hq) (.inr hu) h)
end PySem.SeqAt
namespace K1
open PySem PySem.Spec PyProof.Rows L2
/-- a list == [] -/
theorem op_eqNil {X : Cx} (hu : X.A.units < cLine) : OpR X (compareOp .Eq) (fun x y H Q => ∃ a b xs, x = .ref a ∧ y = .ref b ∧ SqL X.K H a xs ∧ SqL X.K H b [] ∧ Q (.bl xs.isEmpty) H) := by
  intro pins s σ H x y v u Q I rx ry h
  obtain ⟨a, b, xs, rfl, rfl, ha, hb, q⟩ := h
  cases rx
  cases ry
  obtain ⟨its, r1, p1, _⟩ := I.list ha
  obtain ⟨its2, r2, p2, _⟩ := I.list hb
  cases r2
  cases xs with
  | nil =>
    cases r1
    refine SeqAt.eq_listAt (e := fun _ => true) p1.isList p2.isList rfl hu (fun j h1 _ => absurd h1 (by simp)) ?_
    exact ⟨.bl _, H, I, rfl, q⟩
  | cons x xs =>
    cases r1
    refine SeqAt.eq_list_lengthsAt p1.isList p2.isList (by simp) hu ?_
    exact ⟨.bl _, H, I, rfl, q⟩
/-- a dict == a tuple -/
theorem op_eq_dt {X : Cx} (hu : X.A.units < cLine) : OpR X (compareOp .Eq) (fun x y H Q => ∃ a b kvs ys, x = .ref a ∧ y = .ref b ∧ H a = some (.dK kvs) ∧ SqT X.K H b ys ∧ Q (.bl false) H) := by
  intro pins s σ H x y v u Q I rx ry h
  obtain ⟨a, b, kvs, ys, rfl, rfl, ha, hb, q⟩ := h
  cases rx
  cases ry
  obtain ⟨_, _, vs, _, o, es, ep, h1, h2, h3, _⟩ := (show ObjOk X.prog X.w H s.heap a (.dK kvs) from I.hok a _ ha)
  obtain ⟨its2, r2, p2, _⟩ := I.tuple hb
  exact SeqAt.RcAt.dict_tuple h1 h2.1 h3 p2 hu X.prog X.w _ _ ⟨.bl false, H, I, rfl, q⟩
/-- any value of data, or a dict, == a tuple -/
theorem op_eqX {X : Cx} (hu : X.A.units + 64 < cLine) : OpR X (compareOp .Eq) (fun x y H Q => rEqD X.K x y H Q ∨ ∃ a b kvs ys, x = .ref a ∧ y = .ref b ∧ H a = some (.dK kvs) ∧ SqT X.K H b ys ∧ Q (.bl false) H) := by
  intro pins s σ H x y v u Q I rx ry h
  rcases h with h | h
  · exact op_eqD hu pins s σ H x y v u Q I rx ry h
  · exact op_eq_dt (by omega) pins s σ H x y v u Q I rx ry h
end K1
namespace K1
open PySem PySem.Spec PyProof.Rows L2
open TL (tl len_tl tl_append joinL tl_join join_eq)
local macro_rules | `(tactic| walk_at "r1") => `(tactic| first | refine ⟨_, rfl, ?_⟩ | refine ⟨_, _, rfl, rfl, ?_⟩ | refine ⟨_, _, rfl, ?_⟩ | refine .inl ⟨_, rfl, ?_⟩ | refine .inr ⟨_, rfl, ?_⟩ | refine ⟨⟨_, rfl⟩, ?_⟩)
local macro_rules | `(tactic| walk_at "rr") => `(tactic| repeat walk_at "r1")
/-! ### what the law draws -/
open PySem.NumText in
theorem digits_hi : ∀ (cs : List Nat) (a : Nat), AllDigits cs → cs.foldl (fun acc c => acc * 10 + (c - 48)) a < (a + 1) * 10 ^ cs.length
  | [], a, _ => by simp
  | c :: cs, a, h => by
    have hc := h.head
    rw [List.foldl_cons, List.length_cons]
    refine Nat.lt_of_lt_of_le (digits_hi cs _ h.tail) ?_
    rw [Nat.pow_succ, Nat.mul_comm (10 ^ cs.length) 10, ← Nat.mul_assoc]
    exact Nat.mul_le_mul_right _ (by omega)
/-- a figure's text -/
theorem fig_tl {k : Int} (h0 : 0 ≤ k) (h1 : k < 10) : (toString k : Str).cps.toList = [48 + k.toNat] := by
  have : k = 0 ∨ k = 1 ∨ k = 2 ∨ k = 3 ∨ k = 4 ∨ k = 5 ∨ k = 6 ∨ k = 7 ∨ k = 8 ∨ k = 9 := by omega
  rcases this with rfl | rfl | rfl | rfl | rfl | rfl | rfl | rfl | rfl | rfl <;> decide +kernel
theorem joinL_nil : ∀ ls : List (List Nat), joinL [] ls = ls.flatten
  | [] => rfl
  | [p] => by simp [joinL]
  | p :: q :: r => by
    show p ++ ([] ++ joinL [] (q :: r)) = _
    rw [List.nil_append, joinL_nil (q :: r)]
    rfl
theorem join_tl (ys : List Str) : (Txt.join "" ys).cps.toList = (ys.map tl).flatten := by
  rw [join_eq]
  exact (tl_join _ ys).trans (joinL_nil _)
theorem join_len (ys : List Str) : (Txt.join "" ys).length = (ys.map (·.length)).sum := by
  rw [len_tl]
  show (Txt.join "" ys).cps.toList.length = _
  rw [join_tl, List.length_flatten, List.map_map]
  exact congrArg List.sum (List.map_congr_left fun y _ => (len_tl y).symm)
/-- texts of at most so many signs together -/
theorem sum_le {ys : List Str} {k : Nat} (h : ∀ y ∈ ys, y.length ≤ k) : (ys.map (·.length)).sum ≤ k * ys.length := by
  induction ys with
  | nil => simp
  | cons y ys ih =>
    have h1 := h y List.mem_cons_self
    have h2 := ih fun z hz => h z (List.mem_cons_of_mem _ hz)
    simp only [List.map_cons, List.sum_cons, List.length_cons, Nat.mul_succ]
    omega
/-- a text of one figure -/
def Fig (y : Str) : Prop := ∃ c, y.cps.toList = [c] ∧ 48 ≤ c ∧ c ≤ 57
theorem figs_all {ys : List Str} (h : ∀ y ∈ ys, Fig y) : PySem.NumText.AllDigits (Txt.join "" ys).cps.toList := by
  intro c hc
  rw [join_tl, List.mem_flatten] at hc
  obtain ⟨l, hl, hcl⟩ := hc
  obtain ⟨y, hy, rfl⟩ := List.mem_map.mp hl
  obtain ⟨c', e, h1, h2⟩ := h y hy
  rw [show tl y = [c'] from e, List.mem_singleton] at hcl
  subst hcl
  exact ⟨h1, h2⟩
theorem fig_len {y : Str} (h : Fig y) : y.length = 1 := by
  obtain ⟨c, e, _⟩ := h
  rw [len_tl, show tl y = [c] from e]
  rfl
/-- '1' and some figures, read as a number -/
theorem read_figs {ys : List Str} (h : ∀ y ∈ ys, Fig y) (hl : ys.length ≤ 78) : ∃ n : Int, PySem.intText? (("1" : Str) ++ Txt.join "" ys) = some n ∧ n.natAbs < 10 ^ 80 ∧ (("1" : Str) ++ Txt.join "" ys).length ≤ 640 := by
  have hj : (Txt.join "" ys).length ≤ 78 := by
    rw [join_len]
    have := sum_le (k := 1) (ys := ys) fun y hy => Nat.le_of_eq (fig_len (h y hy))
    omega
  have e1 : (("1" : Str) ++ Txt.join "" ys).cps.toList = 49 :: (Txt.join "" ys).cps.toList := (tl_append _ _).trans rfl
  have hd : PySem.NumText.AllDigits (("1" : Str) ++ Txt.join "" ys).cps.toList := by
    rw [e1]
    intro c hc
    rcases List.mem_cons.mp hc with rfl | hc
    · decide
    · exact figs_all h c hc
  have hlen : (("1" : Str) ++ Txt.join "" ys).length = 1 + (Txt.join "" ys).length := by
    rw [len_tl, len_tl (Txt.join "" ys), show tl (("1" : Str) ++ Txt.join "" ys) = _ from e1, List.length_cons]
    exact Nat.add_comm _ _
  refine ⟨_, intText_digits hd (by rw [e1]; simp) (by omega), ?_, by omega⟩
  rw [Int.natAbs_natCast]
  have := digits_hi _ 0 hd
  unfold PySem.NumText.digitsVal
  refine Nat.lt_of_lt_of_le this ?_
  rw [Nat.zero_add, Nat.one_mul]
  refine Nat.pow_le_pow_right (by decide) ?_
  have e2 : (("1" : Str) ++ Txt.join "" ys).cps.toList.length = (("1" : Str) ++ Txt.join "" ys).length := (len_tl _).symm
  omega
theorem b300 : (10 : Nat) ^ 80 < 2 ^ 300 := by decide +kernel
theorem log_small {x k : Nat} (h : x < 2 ^ k) (hk : k ≤ 1000) : x.log2 < 1920 := by
  rcases Nat.eq_zero_or_pos k with rfl | h0
  · have : x = 0 := by omega
    subst this
    decide
  · have := PySem.Flt.log2_lt_of h0 h
    omega
structure spInt (vs : List V) (H : Hp) (Q : VK) (E : XK) : Prop where
  h : ∃ d, Dice H d ∧ vs = [.ref d] ∧ ∀ (n : Int) (H' : Hp), n.natAbs < 10 ^ 80 → Go d H H' → Q (.int n) H'
structure spStr (vs : List V) (H : Hp) (Q : VK) (E : XK) : Prop where
  h : ∃ d, Dice H d ∧ vs = [.ref d] ∧ ∀ (z : Str) (H' : Hp), z.length ≤ 20 → Go d H H' → Q (.str z) H'
structure spWord (vs : List V) (H : Hp) (Q : VK) (E : XK) : Prop where
  h : ∃ z : Str, z.length ≤ 1000 ∧ vs = [.str z] ∧ ∀ H', Same H H' → Q (.bl (isWordS z)) H'
section
variable {P : Program} {w : World} {K : PySem.W.Frag} {mg : Str → Option Value} {base : Heap}
theorem sc_drawn_integer : FnScope ["dice", "near", "long", "turn"] ["dice"] (defScope s_law_drawn_integer) := ⟨rfl, rfl, rfl, by decide +kernel, rfl, by decide +kernel, by decide +kernel⟩
theorem ok_law_drawn_integer {f : Addr} {fd : FuncData} (F : Fun K "_law_drawn_integer" "_law_drawn_integer" s_law_drawn_integer f fd) (T : Txt K mg) (DR : Dfn P w K mg base "_law_roll" 1 ["dice", "total"] spRoll) (DP : Dfn P w K mg base "_law_pick" 2 ["dice", "items"] spPick) :
    FnOk P w K mg base CX0 3 f fd ["dice"] spInt := by
  refine F.ok sc_drawn_integer (fun vs H Q E h => ?_) (fun cdv A outer s H vs Q E hr h => ?_)
  · obtain ⟨d, _, rfl, _⟩ := h
    rfl
  · obtain ⟨d, hd, rfl, k⟩ := h
    have hr1 : Room 1 _ := hr.mono (by decide)
    refine ⟨_, pss_cons (ps_set (i := 1) sc_drawn_integer.nd rfl (Or.inl rfl) (pe_op op_add (pe_op op_pow pe_int pe_int) (pe_d DP hr (pa_cons (pv 0) (pa_cons (pe_lst (pa_cons (pe_un un_neg pe_int) (pa_cons (pe_un un_neg pe_int) (pa_cons pe_int (pa_cons pe_int pa_nil))))) pa_nil)))))
      (pss_cons (ps_set (i := 2) sc_drawn_integer.nd rfl (Or.inl rfl) (pe_callTy call_int_str (by rfl) T.n_int (by decide +kernel) (pa_cons (pe_op op_add_str pe_str
          (pe_join pe_str (pe_lc (own := [("turn", 3)]) (g := gName 3) (tt := tYes) rfl sc_drawn_integer.nd (pi_range1 (by rfl) T.n_range (pa_cons (pe_op op_add pe_int (pe_d DR hr1 (pa_cons (pv 0) (pa_cons pe_int pa_nil)))) pa_nil))
            (blkOk_by (own := [("turn", 3)]) (N := ["dice", "near", "long", "turn"]) (sc := defScope s_law_drawn_integer) (by decide +kernel))
            (fun _ _ _ _ _ => pg_name (i := 3) sc_drawn_integer.nd rfl (Or.inl rfl)) (fun _ _ _ _ _ => pts_nil) (fun _ _ _ _ _ => pe_callTy call_str_int (by rfl) T.n_str (by decide +kernel) (pa_cons (pe_d DR hr1 (pa_cons (pv 0) (pa_cons pe_int pa_nil))) pa_nil))))) pa_nil)))
      (pss_one (ps_ret (pe_op op_mulW (pe_d DP hr (pa_cons (pv 0) (pa_cons (pe_lst (pa_cons pe_int (pa_cons (pe_un un_neg pe_int) pa_nil))) pa_nil)))
        (pe_d DP hr (pa_cons (pv 0) (pa_cons (pe_lst (pa_cons (pe_d DR hr1 (pa_cons (pv 0) (pa_cons pe_int pa_nil))) (pa_cons (pv 1) (pa_cons (pv 2) (pa_cons (pv 1) (pa_cons pe_int pa_nil)))))) pa_nil))))))), ?_⟩
    walk_at "rr"
    refine ⟨⟨by decide, by decide, by decide⟩, ?_⟩
    walk_at "rr"
    refine ⟨(by decide : 4 ≤ sizeLine), fun p1 hp1 => pick_new hd hp1 (by simp) (by decide) fun y1 H1 hy1 g1 => ?_⟩
    obtain ⟨n1, rfl, hn1⟩ : ∃ n : Int, y1 = .int n ∧ n.natAbs ≤ 2 := by
      simp only [List.mem_cons, List.not_mem_nil, or_false] at hy1
      rcases hy1 with rfl | rfl | rfl | rfl <;> exact ⟨_, rfl, by decide⟩
    walk_at "rr"
    refine roll_go g1.dice (by decide) (by decide) fun j2 H2 h20 h21 g2 => ?_
    walk_at "rr"
    refine ⟨by omega, by omega, ?_⟩
    have g02 := g1.trans g2
    refine fun D hD => lc_range (lo := 0) (n := (48 + j2).toNat) (fun i H' => Go d H2 H' ∧ ∃ ys : List Str, ys.length = i ∧ (∀ y ∈ ys, Fig y) ∧ H' D = some (.lst (ys.map V.str))) ⟨(Go.refl g2.dice).new hD, [], rfl, by simp, upd_same⟩ ?_ ?_
    · rintro i H3 hi ⟨g3, ys, rfl, hys, hD3⟩
      have hDd : D ≠ d := (Go.refl g2.dice).at_ne hD
      refine ⟨rfl, ?_⟩
      walk_at "rr"
      refine roll_go g3.dice (by decide) (by decide) fun j4 H4 h40 h41 g4 => ?_
      walk_at "rr"
      refine ⟨log_small (show j4.natAbs < 2 ^ 4 by omega) (by decide), ?_⟩
      have hDd4 : H4 D = some (.lst (ys.map V.str)) := g4.keep _ _ hDd hD3
      have hl := line1000
      refine ⟨_, hDd4, by rw [List.length_map]; omega, (g3.trans g4).own hD hDd, ys ++ [(toString j4 : Str)], by simp, ?_, by rw [upd_same, List.map_append]; rfl⟩
      intro y hy
      rcases List.mem_append.mp hy with hy | hy
      · exact hys y hy
      · rw [List.mem_singleton] at hy
        subst hy
        exact ⟨_, fig_tl h40 h41, by omega, by omega⟩
    · rintro H3 ⟨g3, ys, hl, hys, hD3⟩
      have hys78 : ys.length ≤ 78 := by omega
      refine ⟨_, D, ys, rfl, rfl, .inl (SqL.of hD3), ?_, ?_⟩
      · have := sum_le (k := 1) (ys := ys) fun y hy => Nat.le_of_eq (fig_len (hys y hy))
        show _ + ys.length * 0 ≤ _
        omega
      obtain ⟨nl, hnl, hnl2, hnl3⟩ := read_figs hys hys78
      walk_at "rr"
      have hlen1 : ("1" : Str).length + (Txt.join "" ys).length ≤ sizeLine := by
        have h1 : (Txt.join "" ys).length ≤ 78 := by
          rw [join_len]
          have := sum_le (k := 1) (ys := ys) fun y hy => Nat.le_of_eq (fig_len (hys y hy))
          omega
        have h2 : ("1" : Str).length = 1 := rfl
        have := line1000
        omega
      refine ⟨hlen1, _, nl, rfl, hnl, hnl3, ?_⟩
      have g03 := g02.trans g3
      walk_at "rr"
      refine ⟨(by decide : 2 ≤ sizeLine), fun p5 hp5 => pick_new g03.dice hp5 (by simp) (by decide) fun y5 H5 hy5 g5 => ?_⟩
      walk_at "rr"
      refine roll_go g5.dice (by decide) (by decide) fun j6 H6 h60 h61 g6 => ?_
      walk_at "rr"
      refine ⟨(by decide : 5 ≤ sizeLine), fun p7 hp7 => pick_new g6.dice hp7 (by simp) (by show 5 ≤ 1000; decide) fun y7 H7 hy7 g7 => ?_⟩
      obtain ⟨s5, rfl, hs5⟩ : ∃ s : Int, y5 = .int s ∧ s.natAbs = 1 := by
        simp only [List.mem_cons, List.not_mem_nil, or_false] at hy5
        rcases hy5 with rfl | rfl <;> exact ⟨_, rfl, by decide⟩
      have h1060 : (10 : Nat) ^ 60 + 100 < 10 ^ 80 := by decide +kernel
      have e60 : (10 : Int) ^ Int.toNat 60 = ((10 ^ 60 : Nat) : Int) := by decide +kernel
      obtain ⟨s7, rfl, hs7⟩ : ∃ s : Int, y7 = .int s ∧ s.natAbs < 10 ^ 80 := by
        simp only [List.mem_cons, List.not_mem_nil, or_false] at hy7
        rcases hy7 with rfl | rfl | rfl | rfl | rfl
        · exact ⟨_, rfl, by omega⟩
        · exact ⟨_, rfl, by rw [e60]; omega⟩
        · exact ⟨_, rfl, hnl2⟩
        · exact ⟨_, rfl, by rw [e60]; omega⟩
        · exact ⟨_, rfl, by decide +kernel⟩
      walk_at "rr"
      refine ⟨wide_mul (a := 1) (b := 300) (by omega) (Nat.lt_trans hs7 b300) (by decide) (by decide) (by decide), ?_⟩
      refine k _ H7 ?_ (((g03.trans g5).trans g6).trans g7)
      rw [Int.natAbs_mul, hs5, Nat.one_mul]
      exact hs7
theorem sc_drawn_string : FnScope ["dice", "pool", "turn"] ["dice"] (defScope s_law_drawn_string) := ⟨rfl, rfl, rfl, by decide +kernel, rfl, by decide +kernel, by decide +kernel⟩
theorem ok_law_drawn_string {f : Addr} {fd : FuncData} (F : Fun K "_law_drawn_string" "_law_drawn_string" s_law_drawn_string f fd) (T : Txt K mg) (DR : Dfn P w K mg base "_law_roll" 1 ["dice", "total"] spRoll) (DP : Dfn P w K mg base "_law_pick" 2 ["dice", "items"] spPick) :
    FnOk P w K mg base CX0 3 f fd ["dice"] spStr := by
  refine F.ok sc_drawn_string (fun vs H Q E h => ?_) (fun cdv A outer s H vs Q E hr h => ?_)
  · obtain ⟨d, _, rfl, _⟩ := h
    rfl
  · obtain ⟨d, hd, rfl, k⟩ := h
    have hr1 : Room 1 _ := hr.mono (by decide)
    refine ⟨_, pss_cons (ps_set (i := 1) sc_drawn_string.nd rfl (Or.inr rfl) (pe_d DP hr (pa_cons (pv 0) (pa_cons (pe_lst (pa_cons pe_str (pa_cons pe_str (pa_cons pe_str (pa_cons pe_str (pa_cons pe_str (pa_cons pe_str (pa_cons pe_str (pa_cons pe_str pa_nil))))))))) pa_nil))))
      (pss_one (ps_ret (pe_join pe_str (pe_lc (own := [("turn", 2)]) (g := gName 2) (tt := tYes) rfl sc_drawn_string.nd (pi_range1 (by rfl) T.n_range (pa_cons (pe_d DR hr1 (pa_cons (pv 0) (pa_cons pe_int pa_nil))) pa_nil))
            (blkOk_by (own := [("turn", 2)]) (N := ["dice", "pool", "turn"]) (sc := defScope s_law_drawn_string) (by decide +kernel))
            (fun _ _ _ _ _ => pg_name (i := 2) sc_drawn_string.nd rfl (Or.inl rfl)) (fun _ _ _ _ _ => pts_nil) (fun _ _ _ _ _ => pe_d DP hr (pa_cons (pv 0) (pa_cons (pv 1) pa_nil))))))), ?_⟩
    walk_at "rr"
    refine ⟨(by decide : 8 ≤ sizeLine), fun p1 hp1 => pick_new hd hp1 (by simp) (by decide) fun y1 H1 hy1 g1 => ?_⟩
    obtain ⟨z, rfl, hz⟩ : ∃ z : Str, y1 = .str z ∧ 0 < z.length ∧ z.length ≤ 1000 := by
      simp only [List.mem_cons, List.not_mem_nil, or_false] at hy1
      rcases hy1 with rfl | rfl | rfl | rfl | rfl | rfl | rfl | rfl <;> exact ⟨_, rfl, by decide +kernel⟩
    walk_at "rr"
    refine roll_go g1.dice (by decide) (by decide) fun j2 H2 h20 h21 g2 => ?_
    walk_at "rr"
    refine ⟨by omega, by omega, ?_⟩
    have g02 := g1.trans g2
    refine fun D hD => lc_range (lo := 0) (n := j2.toNat) (fun i H' => Go d H2 H' ∧ ∃ ys : List Str, ys.length = i ∧ (∀ y ∈ ys, y.length ≤ 1) ∧ H' D = some (.lst (ys.map V.str))) ⟨(Go.refl g2.dice).new hD, [], rfl, by simp, upd_same⟩ ?_ ?_
    · rintro i H3 hi ⟨g3, ys, rfl, hys, hD3⟩
      have hDd : D ≠ d := (Go.refl g2.dice).at_ne hD
      refine ⟨rfl, ?_⟩
      walk_at "rr"
      refine pick_str g3.dice hz.1 hz.2 fun y4 H4 g4 => ?_
      walk_at "rr"
      have hDd4 : H4 D = some (.lst (ys.map V.str)) := g4.keep _ _ hDd hD3
      have hl := line1000
      refine ⟨_, hDd4, by rw [List.length_map]; omega, (g3.trans g4).own hD hDd, ys ++ [⟨#[y4]⟩], by simp, ?_, by rw [upd_same, List.map_append]; rfl⟩
      intro y hy
      rcases List.mem_append.mp hy with hy | hy
      · exact hys y hy
      · rw [List.mem_singleton] at hy
        subst hy
        exact Nat.le_refl _
    · rintro H3 ⟨g3, ys, hl, hys, hD3⟩
      have hs := sum_le hys
      refine ⟨_, D, ys, rfl, rfl, .inl (SqL.of hD3), ?_, ?_⟩
      · show _ + ys.length * 0 ≤ _
        omega
      · refine k _ H3 ?_ (g02.trans g3)
        rw [join_len]
        omega
theorem sc_is_word : FnScope ["text", "sign"] ["text"] (defScope s_law_is_word) := ⟨rfl, rfl, rfl, by decide +kernel, rfl, by decide +kernel, by decide +kernel⟩
theorem filt1 {α : Type} {p : α → Bool} {c : α} (h : p c = true) : [c].filter p = [c] := by simp [List.filter, h]
theorem filt0 {α : Type} {p : α → Bool} {c : α} (h : ¬ p c = true) : [c].filter p = [] := by simp [List.filter, h]
theorem filter_isEmpty {α : Type} (p : α → Bool) : ∀ l : List α, (l.filter fun c => !p c).isEmpty = l.all p
  | [] => rfl
  | c :: l => by
    rw [List.filter_cons, List.all_cons]
    cases e : p c with
    | true =>
      rw [if_neg (by decide), Bool.true_and]
      exact filter_isEmpty p l
    | false => rfl
theorem ok_law_is_word {f : Addr} {fd : FuncData} (F : Fun K "_law_is_word" "_law_is_word" s_law_is_word f fd) (T : Txt K mg) : FnOk P w K mg base CX0 1 f fd ["text"] spWord := by
  refine F.ok sc_is_word (fun vs H Q E h => ?_) (fun cdv A outer s H vs Q E hr h => ?_)
  · obtain ⟨z, _, rfl, _⟩ := h
    rfl
  · obtain ⟨z, hz, rfl, k⟩ := h
    have hu := hu_of hr
    refine ⟨_, pss_one (ps_ret (pe_and (pe_chain op_lt op_lt pe_int (pe_callB call_len (by rfl) T.n_len (by decide +kernel) (pa_cons (pv 0) pa_nil)) pe_int)
      (pe_one (pe_cmpR (op_eqNil (Nat.lt_of_succ_lt hu)) (pe_lc (own := [("sign", 1)]) (g := gName 1) rfl sc_is_word.nd (pi_str (pv 0)) (blkOk_by (own := [("sign", 1)]) (N := ["text", "sign"]) (sc := defScope s_law_is_word) (by decide +kernel))
        (fun _ _ _ _ _ => pg_name (i := 1) sc_is_word.nd rfl (Or.inl rfl)) (fun _ _ _ _ _ => pts_one (pt_not (pt_chain op_le_str op_le_str pe_str (pv 1) pe_str))) (fun _ _ _ _ _ => pv 1)) (pe_lst pa_nil) (nomark _))))), ?_⟩
    walk_at "rr"
    have hs := line1000
    have hlen : z.cps.toList.length = z.length := Array.length_toList
    refine ⟨_, z.length, rfl, ⟨by omega, rfl⟩, ?_⟩
    walk_at "rr"
    refine ite2 (fun h1 => ?_) (fun h1 => ?_)
    · have h4 : 1 ≤ z.length := by
        have := of_decide_eq_true h1
        omega
      walk_at "rr"
      refine ite2 (fun h2 => ?_) (fun h2 => ?_)
      · have h3 : z.length ≤ 8 := by
          have := of_decide_eq_true h2
          omega
        walk_at "rr"
        refine fun D hD => lc_str (x := z) (fun i H' => Same H H' ∧ H' D = some (.lst (((z.cps.toList.take i).filter fun c => !azS ⟨#[c]⟩).map fun c => V.str ⟨#[c]⟩))) ⟨same_new hD, upd_same⟩ ?_ ?_
        · rintro i c H' hc ⟨s1, hD'⟩
          have hi : i < z.length := by rw [← hlen]; exact (List.getElem?_eq_some_iff.mp hc).1
          have hll : (((z.cps.toList.take i).filter fun c => !azS ⟨#[c]⟩).map fun c => V.str ⟨#[c]⟩).length < sizeLine := by
            rw [List.length_map]
            have a1 := List.length_filter_le (fun c => !azS ⟨#[c]⟩) (z.cps.toList.take i)
            rw [List.length_take] at a1
            omega
          refine ⟨rfl, ?_⟩
          walk_at "rr"
          have fin : ∀ b : Bool, b = azS ⟨#[c]⟩ → if (!b) = true then ∃ v, ([some (V.str z), some (V.str ⟨#[c]⟩)] : L2.St)[1]? = some (some v) ∧ ∃ acc, H' D = some (.lst acc) ∧ acc.length < sizeLine ∧ (Same H (upd H' D (.lst (acc ++ [v]))) ∧ (upd H' D (.lst (acc ++ [v]))) D = some (.lst (((z.cps.toList.take (i + 1)).filter fun c => !azS ⟨#[c]⟩).map fun c => V.str ⟨#[c]⟩)))
              else Same H H' ∧ H' D = some (.lst (((z.cps.toList.take (i + 1)).filter fun c => !azS ⟨#[c]⟩).map fun c => V.str ⟨#[c]⟩)) := fun b e => by
            subst e
            refine ite2 (fun hb => ?_) (fun hb => ?_)
            · refine ⟨_, rfl, _, hD', hll, same_own s1 hD, ?_⟩
              rw [upd_same, take_more hc, List.filter_append, List.map_append, filt1 (p := fun c => !azS ⟨#[c]⟩) hb]
              rfl
            · refine ⟨s1, ?_⟩
              rw [hD', take_more hc, List.filter_append, filt0 (p := fun c => !azS ⟨#[c]⟩) hb, List.append_nil]
          cases e : (!decide ((⟨#[c]⟩ : Str).cps.toList < ("a" : Str).cps.toList)) with
          | true =>
            walk_at "rr"
            exact fin _ (azS_t e).symm
          | false =>
            refine iteF ⟨_, rfl, ?_⟩
            exact fin _ (azS_ff e).symm
        · rintro H' ⟨s1, hD'⟩
          rw [List.take_length] at hD'
          walk_at "rr"
          refine ⟨Nat.zero_le _, fun p hp => ⟨D, p, _, rfl, rfl, SqL.of ((same_new hp) _ _ hD'), SqL.of upd_same, ?_⟩⟩
          refine q_bl (Q := Q) ?_ (k _ (s1.trans (same_new hp)))
          show _ = (decide (1 ≤ z.length) && decide (z.length ≤ 8) && z.cps.toList.all fun c => azS ⟨#[c]⟩)
          rw [decide_eq_true h4, decide_eq_true h3, Bool.true_and, Bool.true_and, List.isEmpty_map]
          exact filter_isEmpty _ _
      · refine q_bl (Q := Q) ?_ (k H (Same.refl _))
        have h3 : ¬ z.length ≤ 8 := fun h => h2 (decide_eq_true (by omega))
        show _ = (decide (1 ≤ z.length) && decide (z.length ≤ 8) && _)
        rw [decide_eq_false h3, Bool.and_false, Bool.false_and]
    · walk_at "rr"
      refine q_bl (Q := Q) ?_ (k H (Same.refl _))
      have h3 : ¬ 1 ≤ z.length := fun h => h1 (decide_eq_true (by omega))
      show false = (decide (1 ≤ z.length) && decide (z.length ≤ 8) && _)
      rw [decide_eq_false h3, Bool.false_and, Bool.false_and]
end
/-- an integer's figures -/
theorem figs_num {n : Int} (h : n.natAbs < 10 ^ 80) : (PySem.Str.ofString (toString n)).length ≤ 82 ∧ ((((PySem.Str.ofString (toString n)).length : Int) - (if decide (n < 0) = true then 1 else 0)) < 61 ↔ n.natAbs < 10 ^ 60) := by
  have pos : ∀ m : Nat, (PySem.Str.ofString (toString ((m : Nat) : Int))).length = (Nat.toDigits 10 m).length := fun m => by
    rw [len_tl]
    show (PySem.Str.ofString (toString ((m : Nat) : Int))).cps.toList.length = _
    rw [PySem.W.KIN.signs_num, List.length_map]
  have dig : ∀ m : Nat, m < 10 ^ 80 → (Nat.toDigits 10 m).length ≤ 80 ∧ ((Nat.toDigits 10 m).length < 61 ↔ m < 10 ^ 60) := fun m hm => by
    refine ⟨digits10_le (by decide) hm, fun h1 => ?_, fun h1 => ?_⟩
    · refine Nat.lt_of_not_le fun h2 => ?_
      have := digits10_ge h2
      omega
    · have := digits10_le (k := 60) (by decide) h1
      omega
  by_cases hn : n < 0
  · obtain ⟨m, hm⟩ : ∃ m : Nat, 0 - n = m := ⟨(0 - n).toNat, by omega⟩
    have e := len_text_neg hn
    rw [hm, pos m] at e
    have hab : n.natAbs = m := by omega
    rw [hab] at h
    obtain ⟨d1, d2⟩ := dig m h
    rw [e, if_pos (decide_eq_true hn), hab]
    exact ⟨by omega, by rw [← d2]; omega⟩
  · obtain ⟨m, rfl⟩ : ∃ m : Nat, n = m := ⟨n.toNat, by omega⟩
    rw [Int.natAbs_natCast] at h ⊢
    obtain ⟨d1, d2⟩ := dig m h
    rw [pos m, if_neg (by simp)]
    exact ⟨by omega, by rw [← d2]; omega⟩
theorem ne_bl {a b : Bool} (e : a = b) : (!decide (V.bl a = V.bl b)) = false := by
  rw [e, decide_eq_true rfl]
  rfl
theorem areNames_tup {H : Hp} {a : Addr} {xs : List V} (e : H a = some (.tup xs)) : areNames H (.ref a) = xs.all isNameV := by
  show (match H a with | some (.tup xs) => xs.all isNameV | _ => false) = _
  rw [e] <;> rfl
theorem areNames_lst {H : Hp} {a : Addr} {xs : List V} (e : H a = some (.lst xs)) : areNames H (.ref a) = false := by
  show (match H a with | some (.tup xs) => xs.all isNameV | _ => false) = _
  rw [e] <;> rfl
theorem areNames_dK {H : Hp} {a : Addr} {xs : List (Key × V)} (e : H a = some (.dK xs)) : areNames H (.ref a) = false := by
  show (match H a with | some (.tup xs) => xs.all isNameV | _ => false) = _
  rw [e] <;> rfl
theorem kd_of {H : Hp} {x y : V} {t : String} (e : x = y) (h : Kd H y t) : ∃ t, Kd H x t := ⟨t, by rw [e]; exact h⟩
/-- the promise's side of a tuple -/
theorem cond_tup {H : Hp} {a : Addr} {xs : List V} (e : H a = some (.tup xs)) (hl : xs.length ≤ 1000) (hk : ∀ x ∈ xs, ∃ t, Kd H x t) : ∀ a' xs', V.ref a = .ref a' → H a' = some (.tup xs') → xs'.length ≤ 1000 ∧ ∀ x ∈ xs', ∃ t, Kd H x t := by
  intro a' xs' h1 h2
  cases h1
  rw [e] at h2
  cases h2
  exact ⟨hl, hk⟩
theorem cond_no {H : Hp} {a : Addr} {o : HO} (e : H a = some o) (h : ∀ xs, o ≠ .tup xs) : ∀ a' xs', V.ref a = .ref a' → H a' = some (.tup xs') → xs'.length ≤ 1000 ∧ ∀ x ∈ xs', ∃ t, Kd H x t := by
  intro a' xs' h1 h2
  cases h1
  rw [e] at h2
  exact absurd (Option.some.inj h2) (h _)
theorem cond_flat {H : Hp} {v : V} (h : ∀ a, v ≠ .ref a) : ∀ a' xs', v = .ref a' → H a' = some (.tup xs') → xs'.length ≤ 1000 ∧ ∀ x ∈ xs', ∃ t, Kd H x t := fun a' _ e => absurd e (h a')
/-- the values that are none -/
inductive Odd (H : Hp) : V → Prop where
  | non : Odd H .non
  | bl (b : Bool) : Odd H (.bl b)
  | one : Odd H (.str "1")
  | tup1 {a : Addr} (e : H a = some (.tup [.int 1])) : Odd H (.ref a)
  | lst0 {a : Addr} (e : H a = some (.lst [])) : Odd H (.ref a)
  | dct {a : Addr} {kvs : List (Key × V)} (e : H a = some (.dK kvs)) : Odd H (.ref a)
  | tup0 {a : Addr} (e : H a = some (.tup [])) : Odd H (.ref a)
  | lsta {a : Addr} (e : H a = some (.lst [.str "a"])) : Odd H (.ref a)
  | tupa {a : Addr} (e : H a = some (.tup [.str "a"])) : Odd H (.ref a)
theorem Odd.same {H H' : Hp} {v : V} (h : Odd H v) (s : ∀ b o, v = .ref b → H b = some o → H' b = some o) : Odd H' v := by
  cases h with
  | non => exact .non
  | bl b => exact .bl b
  | one => exact .one
  | tup1 e => exact .tup1 (s _ _ rfl e)
  | lst0 e => exact .lst0 (s _ _ rfl e)
  | dct e => exact .dct (s _ _ rfl e)
  | tup0 e => exact .tup0 (s _ _ rfl e)
  | lsta e => exact .lsta (s _ _ rfl e)
  | tupa e => exact .tupa (s _ _ rfl e)
theorem Odd.kd {H : Hp} {v : V} (h : Odd H v) : ∃ t, Kd H v t := by
  cases h with
  | non => exact ⟨_, .non⟩
  | bl b => exact ⟨_, .bl b⟩
  | one => exact ⟨_, .str _ (by decide)⟩
  | tup1 e => exact ⟨_, .tup e⟩
  | lst0 e => exact ⟨_, .lst e⟩
  | dct e => exact ⟨_, .dK e⟩
  | tup0 e => exact ⟨_, .tup e⟩
  | lsta e => exact ⟨_, .lst e⟩
  | tupa e => exact ⟨_, .tup e⟩
theorem Odd.no {H : Hp} {v : V} (h : Odd H v) : isIntV v = false ∧ isCntV v = false ∧ isNameV v = false := by
  cases h <;> exact ⟨rfl, rfl, by first | rfl | decide +kernel⟩
theorem Odd.cond {H : Hp} {v : V} (h : Odd H v) : ∀ a' xs', v = .ref a' → H a' = some (.tup xs') → xs'.length ≤ 1000 ∧ ∀ x ∈ xs', ∃ t, Kd H x t := by
  cases h with
  | non => exact cond_flat fun a e => by cases e
  | bl b => exact cond_flat fun a e => by cases e
  | one => exact cond_flat fun a e => by cases e
  | tup1 e => exact cond_tup e (by decide) fun x hx => kd_of (List.mem_singleton.mp hx) (Kd.int 1)
  | lst0 e => exact cond_no e fun _ z => by cases z
  | dct e => exact cond_no e fun _ z => by cases z
  | tup0 e => exact cond_tup e (by decide) fun x hx => by cases hx
  | lsta e => exact cond_no e fun _ z => by cases z
  | tupa e => exact cond_tup e (by decide) fun x hx => kd_of (List.mem_singleton.mp hx) (Kd.str _ (by decide))
theorem Odd.ne {H : Hp} {b d : Addr} (h : Odd H (.ref b)) (hd : Dice H d) : b ≠ d := by
  obtain ⟨x, y, z, e⟩ := hd
  cases h with
  | tup1 q => exact ne_of q e (by intro z; cases z)
  | lst0 q => exact ne_of q e (by intro z; cases z)
  | dct q => exact ne_of q e (by intro z; cases z)
  | tup0 q => exact ne_of q e (by intro z; cases z)
  | lsta q => exact ne_of q e (by intro z; cases z)
  | tupa q => exact ne_of q e (by intro z; cases z)
theorem Odd.go {H H' : Hp} {v : V} {d : Addr} (h : Odd H v) (hd : Dice H d) (g : Go d H H') : Odd H' v :=
  h.same fun b o e q => g.keep b o (by subst e; exact h.ne hd) q
structure spRight (vs : List V) (H : Hp) (Q : VK) (E : XK) : Prop where
  h : ∃ d, Dice H d ∧ vs = [.ref d] ∧ ∀ (H' : Hp), Go d H H' → Q (.bl true) H'
section
variable {P : Program} {w : World} {K : PySem.W.Frag} {mg : Str → Option Value} {base : Heap}
theorem sc_right : FnScope ["dice", "number", "figures", "text", "texts", "due", "odd", "turn", "one"] ["dice"] (defScope s_law_right) := ⟨rfl, rfl, rfl, by decide +kernel, rfl, by decide +kernel, by decide +kernel⟩
theorem ok_law_right {f : Addr} {fd : FuncData} (F : Fun K "_law_right" "_law_right" s_law_right f fd) (T : Txt K mg) (DI : Dfn P w K mg base "is_integer" 1 ["value"] spIsInt) (DC : Dfn P w K mg base "is_count" 2 ["value"] spIsCnt) (DN : Dfn P w K mg base "is_name" 1 ["value"] spIsName)
    (DA : Dfn P w K mg base "are_names" 2 ["value"] spAreNames) (DR : Dfn P w K mg base "_law_roll" 1 ["dice", "total"] spRoll) (DP : Dfn P w K mg base "_law_pick" 2 ["dice", "items"] spPick)
    (DDI : Dfn P w K mg base "_law_drawn_integer" 3 ["dice"] spInt) (DDS : Dfn P w K mg base "_law_drawn_string" 3 ["dice"] spStr) (DW : Dfn P w K mg base "_law_is_word" 1 ["text"] spWord) :
    FnOk P w K mg base CX0 4 f fd ["dice"] spRight := by
  refine F.ok sc_right (fun vs H Q E h => ?_) (fun cdv A outer s H vs Q E hr h => ?_)
  · obtain ⟨d, _, rfl, _⟩ := h
    rfl
  · obtain ⟨d, hd, rfl, k⟩ := h
    have hr1 : Room 1 _ := hr.mono (by decide)
    have hr2 : Room 2 _ := hr.mono (by decide)
    have hu := hu_of hr
    refine ⟨_, pss_cons (ps_set (i := 1) sc_right.nd rfl (Or.inl rfl) (pe_d DDI hr (pa_cons (pv 0) pa_nil)))
      (pss_cons (ps_set (i := 2) sc_right.nd rfl (Or.inl rfl) (pe_op op_sub (pe_callB call_len (by rfl) T.n_len (by decide +kernel) (pa_cons (pe_callTy call_str_int (by rfl) T.n_str (by decide +kernel) (pa_cons (pv 1) pa_nil)) pa_nil))
          (pe_callTy call_int1 (by rfl) T.n_int (by decide +kernel) (pa_cons (pe_cmpR op_lt (pv 1) pe_int (nomark _)) pa_nil))))
      (pss_cons (ps_if (PW.pt (pw_or (pt_cmpR op_ne (pe_d DI hr1 (pa_cons (pv 1) pa_nil)) (pe_cmpR op_lt (pv 2) pe_int (nomark _)) (nomark _))
          (pw_or (pt_cmpR op_ne (pe_d DC hr2 (pa_cons (pv 1) pa_nil)) (pe_and (pe_cmpR op_lt (pv 2) pe_int (nomark _)) (pe_one (pe_cmpR op_ge (pv 1) pe_int (nomark _)))) (nomark _))
          (pw_or1 (pt_val (pe_d DN hr1 (pa_cons (pv 1) pa_nil))))))) (pss_one (ps_ret pe_bl)) pss_nil)
      (pss_cons (ps_set (i := 3) sc_right.nd rfl (Or.inl rfl) (pe_d DDS hr (pa_cons (pv 0) pa_nil)))
      (pss_cons (ps_if (PW.pt (pw_or (pt_cmpR op_ne (pe_d DN hr1 (pa_cons (pv 3) pa_nil)) (pe_d DW hr1 (pa_cons (pv 3) pa_nil)) (nomark _))
          (pw_or (pt_val (pe_d DI hr1 (pa_cons (pv 3) pa_nil))) (pw_or1 (pt_val (pe_d DC hr2 (pa_cons (pv 3) pa_nil))))))) (pss_one (ps_ret pe_bl)) pss_nil)
      (pss_cons (ps_setLc (i := 4) (own := [("turn", 7)]) (g := gName 7) (tt := tYes) rfl sc_right.nd rfl rfl (sw_true rfl rfl rfl (by decide +kernel)) (pi_range1 (by rfl) T.n_range (pa_cons (pe_d DR hr1 (pa_cons (pv 0) (pa_cons pe_int pa_nil))) pa_nil))
            (blkOk_by (own := [("turn", 7)]) (N := ["dice", "number", "figures", "text", "texts", "due", "odd", "turn", "one"]) (sc := defScope s_law_right) (by decide +kernel))
            (fun _ _ _ _ _ => pg_name (i := 7) sc_right.nd rfl (Or.inl rfl)) (fun _ _ _ _ _ => pts_nil) (fun _ _ _ _ _ => pe_d DDS hr (pa_cons (pv 0) pa_nil)))
      (pss_cons (ps_set (i := 5) sc_right.nd rfl (Or.inl rfl) (pe_cmpR (op_eqNil (Nat.lt_of_succ_lt hu)) (pe_lc (own := [("one", 8)]) (g := gName 8) rfl sc_right.nd (pi_list (pv 4))
            (blkOk_by (own := [("one", 8)]) (N := ["dice", "number", "figures", "text", "texts", "due", "odd", "turn", "one"]) (sc := defScope s_law_right) (by decide +kernel))
            (fun _ _ _ _ _ => pg_name (i := 8) sc_right.nd rfl (Or.inl rfl)) (fun _ _ _ _ _ => pts_one (pt_not (pt_val (pe_d DW hr1 (pa_cons (pv 8) pa_nil))))) (fun _ _ _ _ _ => pv 8)) (pe_lst pa_nil) (nomark _)))
      (pss_cons (ps_if (PW.pt (pw_or (pt_cmpR op_ne (pe_d DA hr2 (pa_cons (pe_callTy call_tuple_of (by rfl) T.n_tuple (by decide +kernel) (pa_cons (pv 4) pa_nil)) pa_nil)) (pv 5) (nomark _))
          (pw_or (pt_val (pe_d DA hr2 (pa_cons (pv 4) pa_nil))) (pw_or1 (pt_val (pe_d DA hr2 (pa_cons (pe_op op_catTT (pe_callTy call_tuple_of (by rfl) T.n_tuple (by decide +kernel) (pa_cons (pv 4) pa_nil)) (pe_tup (pa_cons (pv 1) pa_nil))) pa_nil))))))) (pss_one (ps_ret pe_bl)) pss_nil)
      (pss_cons (ps_set (i := 6) sc_right.nd rfl (Or.inl rfl) (pe_d DP hr2 (pa_cons (pv 0) (pa_cons (pe_lst (pa_cons pe_non (pa_cons pe_bl (pa_cons pe_bl (pa_cons pe_str (pa_cons (pe_tup (pa_cons pe_int pa_nil)) (pa_cons (pe_lst pa_nil) (pa_cons pe_dnewK (pa_cons (pe_tup pa_nil)
          (pa_cons (pe_lst (pa_cons pe_str pa_nil)) (pa_cons (pe_disp (pps_cons pe_str pe_int pps_nil) (by rfl) (by rfl) (fun z => by cases z) (by decide)) (pa_cons (pe_tup (pa_cons pe_str pa_nil)) pa_nil)))))))))))) pa_nil))))
      (pss_cons (ps_if (PW.pt (pw_or (pt_val (pe_d DI hr1 (pa_cons (pv 6) pa_nil))) (pw_or (pt_val (pe_d DC hr2 (pa_cons (pv 6) pa_nil))) (pw_or1 (pt_val (pe_d DN hr1 (pa_cons (pv 6) pa_nil))))))) (pss_one (ps_ret pe_bl)) pss_nil)
      (pss_one (ps_ret (pe_cmpR op_eq (pe_d DA hr2 (pa_cons (pv 6) pa_nil)) (pe_or (pe_cmpR (op_eqX hr.units) (pv 6) (pe_tup pa_nil) (nomark _)) (pe_one (pe_cmpR (op_eqX hr.units) (pv 6) (pe_tup (pa_cons pe_str pa_nil)) (nomark _)))) (nomark _))))))))))))), ?_⟩
    have hl := line1000
    -- number, figures
    walk_at "rr"
    refine ⟨d, hd, rfl, fun n H1 hn g1 => ?_⟩
    obtain ⟨f1, f2⟩ := figs_num hn
    walk_at "rr"
    refine ⟨log_small (Nat.lt_trans hn b300) (by decide), ?_⟩
    walk_at "rr"
    refine ⟨_, (PySem.Str.ofString (toString n)).length, rfl, ⟨by omega, rfl⟩, ?_⟩
    walk_at "rr"
    refine ⟨_, _, .int n, rfl, ?_⟩
    walk_at "rr"
    refine ⟨rfl, ?_⟩
    walk_at "rr"
    refine ifF (ne_bl (decide_eq_decide.mpr f2.symm)) ?_
    walk_at "rr"
    refine ⟨_, _, .int n, rfl, ?_⟩
    walk_at "rr"
    have e1 : decide (((PySem.Str.ofString (toString n)).length : Int) - (if decide (n < 0) = true then 1 else 0) < 61) = decide (n.natAbs < 10 ^ 60) := decide_eq_decide.mpr f2
    have e2 : isCntV (.int n) = (decide (n.natAbs < 10 ^ 60) && decide (0 ≤ n)) := rfl
    refine ite_on (N := ?N) (fun hc N => ?a) (fun hc N => ?b) ?n
    case a =>
      rw [e1] at hc
      rw [hc, Bool.true_and] at e2
      walk_at "rr"
      refine ⟨rfl, ?_⟩
      walk_at "rr"
      refine ifF (ne_bl e2) ?_
      exact N
    case b =>
      rw [e1] at hc
      rw [hc, Bool.false_and] at e2
      refine ⟨rfl, ?_⟩
      walk_at "rr"
      refine ifF (ne_bl e2) ?_
      exact N
    walk_at "rr"
    refine ⟨_, _, .int n, rfl, fun H2 s2 => ?_⟩
    walk_at "rr"
    have g2 := g1.same s2
    -- text
    refine ⟨d, g2.dice, rfl, fun z H3 hz g3 => ?_⟩
    walk_at "rr"
    refine ⟨_, _, .str z (by omega), rfl, fun H4 s4 => ?_⟩
    walk_at "rr"
    refine ⟨z, by omega, rfl, fun H5 s5 => ?_⟩
    walk_at "rr"
    refine ⟨rfl, ?_⟩
    walk_at "rr"
    refine ifF (ne_bl rfl) ?_
    walk_at "rr"
    refine ⟨_, _, .str z (by omega), rfl, ?_⟩
    walk_at "rr"
    refine ⟨_, _, .str z (by omega), rfl, ?_⟩
    walk_at "rr"
    have g5 := ((g2.trans g3).same s4).same s5
    -- texts
    refine roll_go g5.dice (by decide) (by decide) fun j6 H6 h60 h61 g6 => ?_
    walk_at "rr"
    refine ⟨by omega, by omega, ?_⟩
    have g06 := g5.trans g6
    refine fun D hD => lc_range (lo := 0) (n := j6.toNat) (fun i H' => Go d H6 H' ∧ ∃ ys : List Str, ys.length = i ∧ (∀ y ∈ ys, y.length ≤ 20) ∧ H' D = some (.lst (ys.map V.str))) ⟨(Go.refl g6.dice).new hD, [], rfl, by simp, upd_same⟩ ?_ ?_
    · rintro i H7 hi ⟨g7, ys, rfl, hys, hD7⟩
      have hDd : D ≠ d := (Go.refl g6.dice).at_ne hD
      refine ⟨rfl, ?_⟩
      walk_at "rr"
      refine ⟨d, g7.dice, rfl, fun y8 H8 hy8 g8 => ?_⟩
      have hD8 : H8 D = some (.lst (ys.map V.str)) := g8.keep _ _ hDd hD7
      refine ⟨_, hD8, by rw [List.length_map]; omega, (g7.trans g8).own hD hDd, ys ++ [y8], by simp, ?_, by rw [upd_same, List.map_append]; rfl⟩
      intro y hy
      rcases List.mem_append.mp hy with hy | hy
      · exact hys y hy
      · rw [List.mem_singleton] at hy
        subst hy
        exact hy8
    rintro H7 ⟨g7, ys, hyl, hys, hD7⟩
    have hDd : D ≠ d := (Go.refl g6.dice).at_ne hD
    have hys4 : ys.length ≤ 4 := by omega
    have g07 := g06.trans g7
    walk_at "rr"
    -- due
    refine ⟨⟨_, SqL.of hD7⟩, ?_⟩
    refine fun D2 hD2 => lc_list (K := K) (a := D) (xs := ys.map V.str) (fun i H' => Same H7 H' ∧ H' D2 = some (.lst (((ys.take i).filter fun y => !isWordS y).map V.str))) ⟨same_new hD2, upd_same⟩ (fun i H' _ p => SqL.of (p.1 _ _ hD7)) ?_ ?_
    · rintro i x H8 hi ⟨s8, hD8⟩
      obtain ⟨y, hy, rfl⟩ : ∃ y, ys[i]? = some y ∧ x = V.str y := by
        rw [List.getElem?_map] at hi
        cases e : ys[i]? with
        | none =>
          rw [e] at hi
          cases hi
        | some y =>
          rw [e] at hi
          exact ⟨y, rfl, (Option.some.inj hi).symm⟩
      have hyl := hys y (List.mem_of_getElem? hy)
      refine ⟨rfl, ?_⟩
      walk_at "rr"
      refine ⟨y, by omega, rfl, fun H9 s9 => ?_⟩
      have s89 := s8.trans s9
      have hD9 := s9 _ _ hD8
      walk_at "rr"
      refine ite2 (fun hb => ?_) (fun hb => ?_)
      · walk_at "rr"
        refine ⟨_, hD9, ?_, same_own s89 hD2, ?_⟩
        · rw [List.length_map]
          have a1 := List.length_filter_le (fun y => !isWordS y) (ys.take i)
          rw [List.length_take] at a1
          omega
        · rw [upd_same, take_more hy, List.filter_append, List.map_append, filt1 (p := fun y => !isWordS y) hb]
          rfl
      · refine ⟨s89, ?_⟩
        rw [hD9, take_more hy, List.filter_append, filt0 (p := fun y => !isWordS y) hb, List.append_nil]
    rintro H8 ⟨s8, hD8⟩
    rw [List.length_map, List.take_length] at hD8
    have hDy8 := s8 _ _ hD7
    walk_at "rr"
    refine ⟨Nat.zero_le _, fun p9 hp9 => ⟨D2, p9, _, rfl, rfl, SqL.of ((same_new hp9) _ _ hD8), SqL.of upd_same, ?_⟩⟩
    have s9 := s8.trans (same_new (o := .lst []) hp9)
    have hDy9 := s9 _ _ hD7
    have edue : (((ys.filter fun y => !isWordS y).map V.str).isEmpty) = ys.all isWordS := by
      rw [List.isEmpty_map]
      exact filter_isEmpty _ _
    have eall : (ys.map V.str).all isNameV = ys.all isWordS := by
      rw [List.all_map]
      rfl
    have hstr : ∀ (H : Hp), ∀ x ∈ ys.map V.str, ∃ t, Kd H x t := fun H x hx => by
      obtain ⟨y, hy, rfl⟩ := List.mem_map.mp hx
      exact ⟨_, .str y (by have := hys y hy; omega)⟩
    have hlm : (ys.map V.str).length ≤ 4 := by rw [List.length_map]; exact hys4
    -- the names
    walk_at "rr"
    refine ⟨D, _, rfl, .inl ⟨SqL.of hDy9, fun t10 ht10 => ?_⟩⟩
    refine ⟨_, _, .tup upd_same, rfl, cond_tup upd_same (by omega) (hstr _), fun H10 s10 => ?_⟩
    have sn10 := (s9.trans (same_new (o := .tup (ys.map V.str)) ht10)).trans s10
    walk_at "rr"
    refine ⟨rfl, ?_⟩
    walk_at "rr"
    refine ifF (ne_bl ((areNames_tup upd_same).trans (eall.trans edue.symm))) ?_
    walk_at "rr"
    have hDy10 := sn10 _ _ hD7
    refine ⟨_, _, .lst hDy10, rfl, cond_no hDy10 (fun _ z => by cases z), fun H11 s11 => ?_⟩
    have sn11 := sn10.trans s11
    walk_at "rr"
    refine ifF (areNames_lst hDy10) ?_
    walk_at "rr"
    have hDy11 := sn11 _ _ hD7
    refine ⟨D, _, rfl, .inl ⟨SqL.of hDy11, fun t12 ht12 => ?_⟩⟩
    walk_at "rr"
    refine ⟨(by decide : 1 ≤ sizeLine), fun t13 ht13 => ⟨t12, t13, _, _, rfl, rfl, (same_new ht13) _ _ upd_same, upd_same, by simp, by show _ + 1 ≤ _; omega, fun q14 H14 s14 hq14 => ?_⟩⟩
    have sn14 := (sn11.trans (same_new (o := .tup (ys.map V.str)) ht12)).trans ((same_new (o := .tup [.int n]) ht13).trans s14)
    walk_at "rr"
    refine ⟨_, _, .tup hq14, rfl, cond_tup hq14 (by rw [List.length_append]; show _ + 1 ≤ _; omega) (fun x hx => ?_), fun H15 s15 => ?_⟩
    · rcases List.mem_append.mp hx with hx | hx
      · exact hstr _ x hx
      · exact kd_of (List.mem_singleton.mp hx) (Kd.int n)
    have sn15 := sn14.trans s15
    walk_at "rr"
    refine ifF (by rw [areNames_tup hq14, List.all_append]; exact Bool.and_false _) ?_
    have g15 := g07.same sn15
    walk_at "rr"
    -- odd
    have size1 : 1 ≤ sizeLine := by decide
    refine ⟨size1, fun a1 ha1 => ?_⟩
    walk_at "rr"
    refine ⟨Nat.zero_le _, fun a2 ha2 => ?_⟩
    walk_at "rr"
    refine fun a3 ha3 => ?_
    walk_at "rr"
    refine ⟨Nat.zero_le _, fun a4 ha4 => ?_⟩
    walk_at "rr"
    refine ⟨size1, fun a5 ha5 => ?_⟩
    walk_at "rr"
    refine fun a6 ha6 => ?_
    walk_at "rr"
    refine ⟨upd_same, [(Sum.inr "a", V.int 1)], rfl, by decide, ?_⟩
    walk_at "rr"
    refine ⟨size1, fun a7 ha7 => ?_⟩
    rw [upd_upd] at ha7 ⊢
    walk_at "rr"
    -- what stands behind
    have o1 : (upd H15 a1 (.tup [.int 1])) a1 = some (.tup [.int 1]) := upd_same
    have t1 := same_new' (o := .tup [.int 1]) ha1
    have t2 := same_new' (o := .lst []) ha2
    have t3 := same_new' (o := .dK []) ha3
    have t4 := same_new' (o := .tup []) ha4
    have t5 := same_new' (o := .lst [.str "a"]) ha5
    have t6 := same_new' (o := .dK (mergeK [] [(Sum.inr "a", V.int 1)])) ha6
    have t7 := same_new' (o := .tup [.str "a"]) ha7
    have t67 := t6.trans t7
    have t57 := t5.trans t67
    have t47 := t4.trans t57
    have t37 := t3.trans t47
    have t27 := t2.trans t37
    have t17 := t1.trans t27
    have g17 := g15.same t17
    refine ⟨(by show 11 ≤ sizeLine; decide), fun p8 hp8 => pick_new g17.dice hp8 (by simp) (by show 11 ≤ 1000; decide) fun y H18 hy g18 => ?_⟩
    have od17 := Odd.go (v := y) (H' := H18) (by
      simp only [List.mem_cons, List.not_mem_nil, or_false] at hy
      rcases hy with rfl | rfl | rfl | rfl | rfl | rfl | rfl | rfl | rfl | rfl | rfl
      · exact .non
      · exact .bl _
      · exact .bl _
      · exact .one
      · exact .tup1 (t27 _ _ upd_same)
      · exact .lst0 (t37 _ _ upd_same)
      · exact .dct (t47 _ _ upd_same)
      · exact .tup0 (t57 _ _ upd_same)
      · exact .lsta (t67 _ _ upd_same)
      · exact .dct (t7 _ _ upd_same)
      · exact .tupa upd_same) g17.dice g18
    clear hy
    have g18' := g17.trans g18
    obtain ⟨t, hk⟩ := od17.kd
    obtain ⟨i1, i2, i3⟩ := od17.no
    walk_at "rr"
    refine ⟨_, t, hk, rfl, ?_⟩
    walk_at "rr"
    refine ifF i1 ?_
    walk_at "rr"
    refine ⟨_, t, hk, rfl, ?_⟩
    walk_at "rr"
    refine ifF i2 ?_
    walk_at "rr"
    refine ⟨_, t, hk, rfl, fun H19 s19 => ?_⟩
    walk_at "rr"
    refine ifF i3 ?_
    walk_at "rr"
    have g19 := g18'.same s19
    have od19 := od17.same fun b o _ e => s19 b o e
    refine ⟨_, t, hk.same s19, rfl, od19.cond, fun H20 s20 => ?_⟩
    have g20 := g19.same s20
    walk_at "rr"
    refine ⟨Nat.zero_le _, fun p21 hp21 => ?_⟩
    have g21 := g20.new (o := .tup []) hp21
    have s21 := s20.trans (same_new' (o := .tup []) hp21)
    cases od19 with
    | non =>
      have dp : ∀ H', Same H19 H' → Dp K H' _ (.none) := (fun H' _ => .non)
      refine .inl ⟨_, .tuple [], dp _ s21, .tup (SqT.of upd_same) .nil, by decide +kernel, by decide +kernel, _, rfl, ifF (by decide +kernel) ?_⟩
      walk_at "rr"
      refine ⟨size1, fun p22 hp22 => ?_⟩
      have s22 := s21.trans (same_new' (o := .tup [.str "a"]) hp22)
      refine .inl ⟨_, .tuple [.str "a"], dp _ s22, .tup (SqT.of upd_same) (.cons (.str _) .nil), by decide +kernel, by decide +kernel, ?_⟩
      walk_at "rr"
      refine ⟨rfl, ?_⟩
      exact q_bl (Q := Q) (decide_eq_true (congrArg V.bl (Eq.trans (b := false) rfl (by decide +kernel)))) (k _ (g21.new hp22))
    | bl b =>
      have dp : ∀ H', Same H19 H' → Dp K H' _ (.bool b) := (fun H' _ => .bl b)
      refine .inl ⟨_, .tuple [], dp _ s21, .tup (SqT.of upd_same) .nil, by cases b <;> decide +kernel, by decide +kernel, _, rfl, ifF (by cases b <;> decide +kernel) ?_⟩
      walk_at "rr"
      refine ⟨size1, fun p22 hp22 => ?_⟩
      have s22 := s21.trans (same_new' (o := .tup [.str "a"]) hp22)
      refine .inl ⟨_, .tuple [.str "a"], dp _ s22, .tup (SqT.of upd_same) (.cons (.str _) .nil), by cases b <;> decide +kernel, by decide +kernel, ?_⟩
      walk_at "rr"
      refine ⟨rfl, ?_⟩
      exact q_bl (Q := Q) (decide_eq_true (congrArg V.bl (Eq.trans (b := false) rfl (by cases b <;> decide +kernel)))) (k _ (g21.new hp22))
    | one =>
      have dp : ∀ H', Same H19 H' → Dp K H' _ (.str "1") := (fun H' _ => .str _)
      refine .inl ⟨_, .tuple [], dp _ s21, .tup (SqT.of upd_same) .nil, by decide +kernel, by decide +kernel, _, rfl, ifF (by decide +kernel) ?_⟩
      walk_at "rr"
      refine ⟨size1, fun p22 hp22 => ?_⟩
      have s22 := s21.trans (same_new' (o := .tup [.str "a"]) hp22)
      refine .inl ⟨_, .tuple [.str "a"], dp _ s22, .tup (SqT.of upd_same) (.cons (.str _) .nil), by decide +kernel, by decide +kernel, ?_⟩
      walk_at "rr"
      refine ⟨rfl, ?_⟩
      exact q_bl (Q := Q) (decide_eq_true (congrArg V.bl (Eq.trans (b := false) rfl (by decide +kernel)))) (k _ (g21.new hp22))
    | tup1 e =>
      have dp : ∀ H', Same H19 H' → Dp K H' _ (.tuple [.int 1]) := (fun H' s => .tup (SqT.of (s _ _ e)) (.cons (.int 1) .nil))
      refine .inl ⟨_, .tuple [], dp _ s21, .tup (SqT.of upd_same) .nil, by decide +kernel, by decide +kernel, _, rfl, ifF (by decide +kernel) ?_⟩
      walk_at "rr"
      refine ⟨size1, fun p22 hp22 => ?_⟩
      have s22 := s21.trans (same_new' (o := .tup [.str "a"]) hp22)
      refine .inl ⟨_, .tuple [.str "a"], dp _ s22, .tup (SqT.of upd_same) (.cons (.str _) .nil), by decide +kernel, by decide +kernel, ?_⟩
      walk_at "rr"
      refine ⟨rfl, ?_⟩
      exact q_bl (Q := Q) (decide_eq_true (congrArg V.bl (Eq.trans (areNames_tup e) (by decide +kernel)))) (k _ (g21.new hp22))
    | lst0 e =>
      have dp : ∀ H', Same H19 H' → Dp K H' _ (.list []) := (fun H' s => .lst (SqL.of (s _ _ e)) .nil)
      refine .inl ⟨_, .tuple [], dp _ s21, .tup (SqT.of upd_same) .nil, by decide +kernel, by decide +kernel, _, rfl, ifF (by decide +kernel) ?_⟩
      walk_at "rr"
      refine ⟨size1, fun p22 hp22 => ?_⟩
      have s22 := s21.trans (same_new' (o := .tup [.str "a"]) hp22)
      refine .inl ⟨_, .tuple [.str "a"], dp _ s22, .tup (SqT.of upd_same) (.cons (.str _) .nil), by decide +kernel, by decide +kernel, ?_⟩
      walk_at "rr"
      refine ⟨rfl, ?_⟩
      exact q_bl (Q := Q) (decide_eq_true (congrArg V.bl (Eq.trans (areNames_lst e) (by decide +kernel)))) (k _ (g21.new hp22))
    | lsta e =>
      have dp : ∀ H', Same H19 H' → Dp K H' _ (.list [.str "a"]) := (fun H' s => .lst (SqL.of (s _ _ e)) (.cons (.str _) .nil))
      refine .inl ⟨_, .tuple [], dp _ s21, .tup (SqT.of upd_same) .nil, by decide +kernel, by decide +kernel, _, rfl, ifF (by decide +kernel) ?_⟩
      walk_at "rr"
      refine ⟨size1, fun p22 hp22 => ?_⟩
      have s22 := s21.trans (same_new' (o := .tup [.str "a"]) hp22)
      refine .inl ⟨_, .tuple [.str "a"], dp _ s22, .tup (SqT.of upd_same) (.cons (.str _) .nil), by decide +kernel, by decide +kernel, ?_⟩
      walk_at "rr"
      refine ⟨rfl, ?_⟩
      exact q_bl (Q := Q) (decide_eq_true (congrArg V.bl (Eq.trans (areNames_lst e) (by decide +kernel)))) (k _ (g21.new hp22))
    | tupa e =>
      have dp : ∀ H', Same H19 H' → Dp K H' _ (.tuple [.str "a"]) := (fun H' s => .tup (SqT.of (s _ _ e)) (.cons (.str _) .nil))
      refine .inl ⟨_, .tuple [], dp _ s21, .tup (SqT.of upd_same) .nil, by decide +kernel, by decide +kernel, _, rfl, ifF (by decide +kernel) ?_⟩
      walk_at "rr"
      refine ⟨size1, fun p22 hp22 => ?_⟩
      have s22 := s21.trans (same_new' (o := .tup [.str "a"]) hp22)
      refine .inl ⟨_, .tuple [.str "a"], dp _ s22, .tup (SqT.of upd_same) (.cons (.str _) .nil), by decide +kernel, by decide +kernel, ?_⟩
      walk_at "rr"
      refine ⟨rfl, ?_⟩
      exact q_bl (Q := Q) (decide_eq_true (congrArg V.bl (Eq.trans (areNames_tup e) (by decide +kernel)))) (k _ (g21.new hp22))
    | tup0 e =>
      refine .inl ⟨.tuple [], .tuple [], .tup (SqT.of (s21 _ _ e)) .nil, .tup (SqT.of upd_same) .nil, by decide +kernel, by decide +kernel, _, rfl, ifT (by decide +kernel) ?_⟩
      refine ⟨rfl, ?_⟩
      exact q_bl (Q := Q) (decide_eq_true (congrArg V.bl (areNames_tup e))) (k _ g21)
    | dct e =>
      refine .inr ⟨_, _, _, _, rfl, rfl, s21 _ _ e, SqT.of upd_same, _, rfl, ifF rfl ?_⟩
      walk_at "rr"
      refine ⟨size1, fun p22 hp22 => ?_⟩
      have s22 := s21.trans (same_new' (o := .tup [.str "a"]) hp22)
      refine .inr ⟨_, _, _, _, rfl, rfl, s22 _ _ e, SqT.of upd_same, ?_⟩
      refine ⟨rfl, ?_⟩
      exact q_bl (Q := Q) (decide_eq_true (congrArg V.bl (areNames_dK e))) (k _ (g21.new hp22))
end
structure spLaw (K : PySem.W.Frag) (vs : List V) (H : Hp) (Q : VK) (E : XK) : Prop where
  h : ∃ (a : Addr) (ns : List Int), SqL K H a (ns.map V.int) ∧ vs = [.ref a] ∧ ns.length ≤ 63 ∧ ∀ H', Q (.bl true) H'
theorem Go.old {d : Addr} {H H1 H2 : Hp} (s : Same H H1) (hd : H d = none) (g : Go d H1 H2) : Same H H2 := fun b o e => g.keep b o (ne_of_none e hd) (s b o e)
section
variable {P : Program} {w : World} {K : PySem.W.Frag} {mg : Str → Option Value} {base : Heap}
theorem sc_law : FnScope ["script", "spot", "dice", "turn", "told", "great", "due"] ["script"] (defScope s_law) := ⟨rfl, rfl, rfl, by decide +kernel, rfl, by decide +kernel, by decide +kernel⟩
theorem ok_law {f : Addr} {fd : FuncData} (F : Fun K "law" "law" s_law f fd) (T : Txt K mg) (DI : Dfn P w K mg base "is_integer" 1 ["value"] spIsInt) (DC : Dfn P w K mg base "is_count" 2 ["value"] spIsCnt) (DN : Dfn P w K mg base "is_name" 1 ["value"] spIsName)
    (DA : Dfn P w K mg base "are_names" 2 ["value"] spAreNames) (DD : Dfn P w K mg base "_law_dice" 1 ["script", "spot"] (spDice K)) (DW : Dfn P w K mg base "_law_right" 4 ["dice"] spRight) :
    FnOk P w K mg base CX0 5 f fd ["script"] (spLaw K) := by
  refine F.ok sc_law (fun vs H Q E h => ?_) (fun cdv A outer s H vs Q E hr h => ?_)
  · obtain ⟨a, ns, _, rfl, _⟩ := h
    rfl
  · obtain ⟨a, ns, hS, rfl, hlen, k⟩ := h
    have hr1 : Room 1 _ := hr.mono (by decide)
    have hr2 : Room 2 _ := hr.mono (by decide)
    have hu := hu_of hr
    obtain ⟨tl8, hL⟩ := T.c_MAX_LETTERS
    obtain ⟨tf60, hF⟩ := T.c_MAX_FIGURES
    refine ⟨_, pss_cons (ps_for PassesOwn.never rfl (pi_range1 (by rfl) T.n_range (pa_cons (pe_callB (call_max2 rfl) (by rfl) T.n_max (by decide +kernel) (pa_cons pe_int (pa_cons (pe_callB (call_min2 rfl) (by rfl) T.n_min (by decide +kernel) (pa_cons pe_int (pa_cons (pe_callB call_len (by rfl) T.n_len (by decide +kernel) (pa_cons (pv 0) pa_nil)) pa_nil))) pa_nil))) pa_nil)) (pg_name (i := 1) sc_law.nd rfl (Or.inl rfl))
        (pss_cons (ps_set (i := 2) sc_law.nd rfl (Or.inl rfl) (pe_d DD hr1 (pa_cons (pv 0) (pa_cons (pv 1) pa_nil))))
        (pss_one (ps_for PassesOwn.never rfl (pi_range1 (by rfl) T.n_range (pa_cons pe_int pa_nil)) (pg_name (i := 3) sc_law.nd rfl (Or.inl rfl))
          (pss_one (ps_if (pt_not (pt_val (pe_d DW hr (pa_cons (pv 2) pa_nil)))) (pss_one (ps_ret pe_bl)) pss_nil))))))
      (pss_cons (ps_set (i := 4) sc_law.nd rfl (Or.inl rfl) (pe_lst (pa_cons (pe_d DI hr1 (pa_cons (pe_un un_neg pe_int) pa_nil)) (pa_cons (pe_d DC hr2 (pa_cons pe_bl pa_nil)) (pa_cons (pe_d DN hr1 (pa_cons pe_str pa_nil)) (pa_cons (pe_d DA hr2 (pa_cons (pe_tup pa_nil) pa_nil))
          (pa_cons (pe_d DA hr2 (pa_cons (pe_tup (pa_cons pe_str (pa_cons pe_str (pa_cons pe_str pa_nil)))) pa_nil)) (pa_cons (pe_d DN hr1 (pa_cons (pe_op op_mulS pe_str pe_int) pa_nil)) pa_nil))))))))
      (pss_cons (ps_set (i := 5) sc_law.nd rfl (Or.inl rfl) (pe_op op_pow pe_int pe_int))
      (pss_cons (ps_set (i := 4) sc_law.nd rfl (Or.inl rfl) (pe_op op_cat (pv 4) (pe_lst (pa_cons (pe_d DI hr1 (pa_cons (pe_op op_sub (pv 5) pe_int) pa_nil)) (pa_cons (pe_d DI hr1 (pa_cons (pv 5) pa_nil)) (pa_cons (pe_d DI hr1 (pa_cons (pe_op op_sub pe_int (pv 5)) pa_nil))
          (pa_cons (pe_d DI hr1 (pa_cons (pe_op op_sub pe_int (pv 5)) pa_nil)) (pa_cons (pe_d DC hr2 (pa_cons (pe_un un_neg pe_int) pa_nil)) pa_nil))))))))
      (pss_cons (ps_set (i := 6) sc_law.nd rfl (Or.inl rfl) (pe_lst (pa_cons pe_bl (pa_cons pe_bl (pa_cons pe_bl (pa_cons pe_bl (pa_cons pe_bl (pa_cons pe_bl (pa_cons pe_bl (pa_cons pe_bl (pa_cons pe_bl (pa_cons pe_bl (pa_cons pe_bl pa_nil)))))))))))))
      (pss_one (ps_ret (pe_and (pe_cmpR (op_eqD hr.units) (pv 4) (pv 6) (nomark _)) (pe_one (pe_cmpR (op_eqD hr.units) (pe_lst (pa_cons (pe_glob (v := .int 8) rfl hL ⟨_, rfl⟩) (pa_cons (pe_glob (v := .int 60) rfl hF ⟨_, rfl⟩) pa_nil))) (pe_lst (pa_cons pe_int (pa_cons pe_int pa_nil))) (nomark _)))))))))), ?_⟩
    have hl := line1000
    have size1 : 1 ≤ sizeLine := by decide
    walk_at "rr"
    refine ⟨_, _, rfl, .inl ⟨_, hS, rfl⟩, ?_⟩
    walk_at "rr"
    rw [List.length_map]
    refine ⟨by split <;> (try split) <;> omega, by split <;> (try split) <;> omega, ?_⟩
    generalize (if (if (ns.length : Int) < 8 then (ns.length : Int) else 8) > 1 then (if (ns.length : Int) < 8 then (ns.length : Int) else 8) else 1).toNat = m
    refine for_range (lo := 0) (n := m) (fun i σ H' => ∃ v1 v2 v3 : Option V, σ = [some (.ref a), v1, v2, v3, none, none, none] ∧ Same H H') ⟨_, _, _, rfl, Same.refl _⟩ ?_ ?_
    · rintro i σ H1 hi ⟨v1, v2, v3, rfl, s1⟩
      walk_at "rr"
      refine ⟨a, ns, i, s1.seq hS, by show [V.ref a, V.int (0 + (i : Int))] = _; rw [Int.zero_add], fun p x y z hp => ?_⟩
      have gd : Dice (upd H1 p (.lst [.int x, .int y, .int z])) p := ⟨x, y, z, upd_same⟩
      walk_at "rr"
      refine ⟨by decide, by decide, ?_⟩
      refine for_range (lo := 0) (n := 6) (fun j σ H' => ∃ v3 : Option V, σ = [some (.ref a), some (.int (0 + (i : Int))), some (.ref p), v3, none, none, none] ∧ Go p (upd H1 p (.lst [.int x, .int y, .int z])) H') ⟨_, rfl, Go.refl gd⟩ ?_ ?_
      · rintro j σ H2 hj ⟨v4, rfl, g2⟩
        walk_at "rr"
        refine ⟨p, g2.dice, rfl, fun H3 g3 => ?_⟩
        walk_at "rr"
        exact g2.trans g3
      · rintro σ H2 ⟨v4, rfl, g2⟩
        exact ⟨_, _, _, rfl, Go.old (s1.trans (same_new hp)) (s1.free hp) g2⟩
    · rintro σ H1 ⟨v1, v2, v3, rfl, s1⟩
      walk_at "rr"
      refine ⟨_, _, .int _, rfl, ?_⟩
      walk_at "rr"
      refine ⟨_, _, .bl _, rfl, ?_⟩
      walk_at "rr"
      refine ⟨_, _, .str _ (by decide), rfl, fun H2 s2 => ?_⟩
      walk_at "rr"
      refine ⟨Nat.zero_le _, fun p3 hp3 => ⟨_, _, .tup upd_same, rfl, cond_tup upd_same (by decide) (by simp), fun H4 s4 => ?_⟩⟩
      rw [areNames_tup upd_same]
      walk_at "rr"
      refine ⟨(by decide : 3 ≤ sizeLine), fun p5 hp5 => ⟨_, _, .tup upd_same, rfl, cond_tup upd_same (by decide) (fun x hx => ?_), fun H6 s6 => ?_⟩⟩
      · simp only [List.mem_cons, List.not_mem_nil, or_false] at hx
        rcases hx with rfl | rfl | rfl <;> exact ⟨_, .str _ (by decide)⟩
      rw [areNames_tup upd_same]
      walk_at "rr"
      refine ⟨by decide, by decide, by decide, by decide, ?_⟩
      walk_at "rr"
      refine ⟨_, _, .str _ (by decide +kernel), rfl, fun H7 s7 => ?_⟩
      walk_at "rr"
      refine ⟨(by decide : 6 ≤ sizeLine), fun p8 hp8 => ?_⟩
      walk_at "rr"
      refine ⟨⟨by decide, by decide, by decide⟩, ?_⟩
      walk_at "rr"
      refine ⟨_, _, .int _, rfl, ?_⟩
      walk_at "rr"
      refine ⟨_, _, .int _, rfl, ?_⟩
      walk_at "rr"
      refine ⟨_, _, .int _, rfl, ?_⟩
      walk_at "rr"
      refine ⟨_, _, .int _, rfl, ?_⟩
      walk_at "rr"
      refine ⟨_, _, .int _, rfl, ?_⟩
      walk_at "rr"
      refine ⟨(by decide : 5 ≤ sizeLine), fun p9 hp9 => ?_⟩
      have h89 := (same_new (o := .lst [V.bl (isIntV (.int (10 ^ Int.toNat 60 - 1))), .bl (isIntV (.int (10 ^ Int.toNat 60))), .bl (isIntV (.int (1 - 10 ^ Int.toNat 60))), .bl (isIntV (.int (0 - 10 ^ Int.toNat 60))), .bl (isCntV (.int (-1)))]) hp9) p8 _ upd_same
      refine ⟨_, _, _, _, rfl, rfl, h89, upd_same, (by decide : 6 + 5 ≤ sizeLine), fun p10 hp10 => ?_⟩
      walk_at "rr"
      refine ⟨(by decide : 11 ≤ sizeLine), fun p11 hp11 => ?_⟩
      have h1011 := (same_new (o := .lst [V.bl true, .bl false, .bl false, .bl true, .bl true, .bl false, .bl true, .bl false, .bl true, .bl false, .bl false]) hp11) p10 _ upd_same
      walk_at "rr"
      refine ⟨_, _, .lst (SqL.of h1011) (.cons (.bl _) (.cons (.bl _) (.cons (.bl _) (.cons (.bl _) (.cons (.bl _) (.cons (.bl _) (.cons (.bl _) (.cons (.bl _) (.cons (.bl _) (.cons (.bl _) (.cons (.bl _) .nil))))))))))),
        .lst (SqL.of upd_same) (.cons (.bl _) (.cons (.bl _) (.cons (.bl _) (.cons (.bl _) (.cons (.bl _) (.cons (.bl _) (.cons (.bl _) (.cons (.bl _) (.cons (.bl _) (.cons (.bl _) (.cons (.bl _) .nil))))))))))), by decide +kernel, by decide +kernel, _, rfl, ifT (by decide +kernel) ?_⟩
      walk_at "rr"
      refine ⟨(by decide : 2 ≤ sizeLine), fun p12 hp12 => ?_⟩
      walk_at "rr"
      refine ⟨(by decide : 2 ≤ sizeLine), fun p13 hp13 => ?_⟩
      have h1213 := (same_new (o := .lst [V.int 8, .int 60]) hp13) p12 _ upd_same
      refine ⟨_, _, .lst (SqL.of h1213) (.cons (.int _) (.cons (.int _) .nil)), .lst (SqL.of upd_same) (.cons (.int _) (.cons (.int _) .nil)), by decide +kernel, by decide +kernel, ?_⟩
      exact q_bl (Q := Q) (by decide +kernel) (k _)
end
theorem all_mk {l : PySem.W.OpenLaw} {w : World} {K : PySem.W.Frag} {h : Heap} {mg : Str → Option Value} {fa f0 f1 f2 f3 f4 f5 f6 f7 f8 f9 f10 f11 : Addr} (X : K.In h) (G : h.Ns mainGlobals mg) (hfa : mg "law" = some (.ref fa))
    {od0 an0 od1 an1 od2 an2 od3 an3 od4 an4 od5 an5 od6 an6 od7 an7 od8 an8 od9 an9 od10 an10 od11 an11 : Option Addr} {sl0 sl1 sl2 sl3 sl4 sl5 sl6 sl7 sl8 sl9 sl10 sl11 : Array (Option Value)} {oc0 kV0 dc0 pm0 cd0 ct0 oc1 kV1 dc1 pm1 cd1 ct1 oc2 kV2 dc2 pm2 cd2 ct2 oc3 kV3 dc3 pm3 cd3 ct3 oc4 kV4 dc4 pm4 cd4 ct4 oc5 kV5 dc5 pm5 cd5 ct5 oc6 kV6 dc6 pm6 cd6 ct6 oc7 kV7 dc7 pm7 cd7 ct7 oc8 kV8 dc8 pm8 cd8 ct8 oc9 kV9 dc9 pm9 cd9 ct9 oc10 kV10 dc10 pm10 cd10 ct10 oc11 kV11 dc11 pm11 cd11 ct11 : Value} {t_MAX_LETTERS t_MAX_FIGURES : Tok}
    (a0 : PySem.W.nsIn K mainGlobals "is_integer" = some (some (.ref f0))) (l0 : K.lookup f0 = some ⟨oc0, od0, .func (PySem.W.fnOf "is_integer" "is_integer" (defArgs s_is_integer) (defBody s_is_integer) (defScope s_is_integer) .none kV0 dc0 pm0 an0 cd0 ct0), sl0⟩) (c0 : PySem.W.codeIn K cd0 "is_integer" = true) (k0 : PySem.W.keepIn K (.ref f0) = true)
    (a1 : PySem.W.nsIn K mainGlobals "is_count" = some (some (.ref f1))) (l1 : K.lookup f1 = some ⟨oc1, od1, .func (PySem.W.fnOf "is_count" "is_count" (defArgs s_is_count) (defBody s_is_count) (defScope s_is_count) .none kV1 dc1 pm1 an1 cd1 ct1), sl1⟩) (c1 : PySem.W.codeIn K cd1 "is_count" = true) (k1 : PySem.W.keepIn K (.ref f1) = true)
    (a2 : PySem.W.nsIn K mainGlobals "is_name" = some (some (.ref f2))) (l2 : K.lookup f2 = some ⟨oc2, od2, .func (PySem.W.fnOf "is_name" "is_name" (defArgs s_is_name) (defBody s_is_name) (defScope s_is_name) .none kV2 dc2 pm2 an2 cd2 ct2), sl2⟩) (c2 : PySem.W.codeIn K cd2 "is_name" = true) (k2 : PySem.W.keepIn K (.ref f2) = true)
    (a3 : PySem.W.nsIn K mainGlobals "are_names" = some (some (.ref f3))) (l3 : K.lookup f3 = some ⟨oc3, od3, .func (PySem.W.fnOf "are_names" "are_names" (defArgs s_are_names) (defBody s_are_names) (defScope s_are_names) .none kV3 dc3 pm3 an3 cd3 ct3), sl3⟩) (c3 : PySem.W.codeIn K cd3 "are_names" = true) (k3 : PySem.W.keepIn K (.ref f3) = true)
    (a4 : PySem.W.nsIn K mainGlobals "_law_dice" = some (some (.ref f4))) (l4 : K.lookup f4 = some ⟨oc4, od4, .func (PySem.W.fnOf "_law_dice" "_law_dice" (defArgs s_law_dice) (defBody s_law_dice) (defScope s_law_dice) .none kV4 dc4 pm4 an4 cd4 ct4), sl4⟩) (c4 : PySem.W.codeIn K cd4 "_law_dice" = true) (k4 : PySem.W.keepIn K (.ref f4) = true)
    (a5 : PySem.W.nsIn K mainGlobals "_law_roll" = some (some (.ref f5))) (l5 : K.lookup f5 = some ⟨oc5, od5, .func (PySem.W.fnOf "_law_roll" "_law_roll" (defArgs s_law_roll) (defBody s_law_roll) (defScope s_law_roll) .none kV5 dc5 pm5 an5 cd5 ct5), sl5⟩) (c5 : PySem.W.codeIn K cd5 "_law_roll" = true) (k5 : PySem.W.keepIn K (.ref f5) = true)
    (a6 : PySem.W.nsIn K mainGlobals "_law_pick" = some (some (.ref f6))) (l6 : K.lookup f6 = some ⟨oc6, od6, .func (PySem.W.fnOf "_law_pick" "_law_pick" (defArgs s_law_pick) (defBody s_law_pick) (defScope s_law_pick) .none kV6 dc6 pm6 an6 cd6 ct6), sl6⟩) (c6 : PySem.W.codeIn K cd6 "_law_pick" = true) (k6 : PySem.W.keepIn K (.ref f6) = true)
    (a7 : PySem.W.nsIn K mainGlobals "_law_drawn_integer" = some (some (.ref f7))) (l7 : K.lookup f7 = some ⟨oc7, od7, .func (PySem.W.fnOf "_law_drawn_integer" "_law_drawn_integer" (defArgs s_law_drawn_integer) (defBody s_law_drawn_integer) (defScope s_law_drawn_integer) .none kV7 dc7 pm7 an7 cd7 ct7), sl7⟩) (c7 : PySem.W.codeIn K cd7 "_law_drawn_integer" = true) (k7 : PySem.W.keepIn K (.ref f7) = true)
    (a8 : PySem.W.nsIn K mainGlobals "_law_drawn_string" = some (some (.ref f8))) (l8 : K.lookup f8 = some ⟨oc8, od8, .func (PySem.W.fnOf "_law_drawn_string" "_law_drawn_string" (defArgs s_law_drawn_string) (defBody s_law_drawn_string) (defScope s_law_drawn_string) .none kV8 dc8 pm8 an8 cd8 ct8), sl8⟩) (c8 : PySem.W.codeIn K cd8 "_law_drawn_string" = true) (k8 : PySem.W.keepIn K (.ref f8) = true)
    (a9 : PySem.W.nsIn K mainGlobals "_law_is_word" = some (some (.ref f9))) (l9 : K.lookup f9 = some ⟨oc9, od9, .func (PySem.W.fnOf "_law_is_word" "_law_is_word" (defArgs s_law_is_word) (defBody s_law_is_word) (defScope s_law_is_word) .none kV9 dc9 pm9 an9 cd9 ct9), sl9⟩) (c9 : PySem.W.codeIn K cd9 "_law_is_word" = true) (k9 : PySem.W.keepIn K (.ref f9) = true)
    (a10 : PySem.W.nsIn K mainGlobals "_law_right" = some (some (.ref f10))) (l10 : K.lookup f10 = some ⟨oc10, od10, .func (PySem.W.fnOf "_law_right" "_law_right" (defArgs s_law_right) (defBody s_law_right) (defScope s_law_right) .none kV10 dc10 pm10 an10 cd10 ct10), sl10⟩) (c10 : PySem.W.codeIn K cd10 "_law_right" = true) (k10 : PySem.W.keepIn K (.ref f10) = true)
    (a11 : PySem.W.nsIn K mainGlobals "law" = some (some (.ref f11))) (l11 : K.lookup f11 = some ⟨oc11, od11, .func (PySem.W.fnOf "law" "law" (defArgs s_law) (defBody s_law) (defScope s_law) .none kV11 dc11 pm11 an11 cd11 ct11), sl11⟩) (c11 : PySem.W.codeIn K cd11 "law" = true) (k11 : PySem.W.keepIn K (.ref f11) = true)
    (z_isinstance : PySem.W.nsIn K mainGlobals "isinstance" = some none)
    (z_int : PySem.W.nsIn K mainGlobals "int" = some none)
    (z_bool : PySem.W.nsIn K mainGlobals "bool" = some none)
    (z_str : PySem.W.nsIn K mainGlobals "str" = some none)
    (z_abs : PySem.W.nsIn K mainGlobals "abs" = some none)
    (z_all : PySem.W.nsIn K mainGlobals "all" = some none)
    (z_len : PySem.W.nsIn K mainGlobals "len" = some none)
    (z_tuple : PySem.W.nsIn K mainGlobals "tuple" = some none)
    (z_max : PySem.W.nsIn K mainGlobals "max" = some none)
    (z_min : PySem.W.nsIn K mainGlobals "min" = some none)
    (z_range : PySem.W.nsIn K mainGlobals "range" = some none)
    (y_MAX_LETTERS : PySem.W.nsIn K mainGlobals "MAX_LETTERS" = some (some (.int 8 t_MAX_LETTERS)))
    (y_MAX_FIGURES : PySem.W.nsIn K mainGlobals "MAX_FIGURES" = some (some (.int 60 t_MAX_FIGURES)))
    : ∃ fd : FuncData, (∀ (s : Shared) (v : Value), BindsTo s fd ⟨[v], []⟩ [("script", v)]) ∧ ∀ base : Heap, K.In base → base.Ns mainGlobals mg → FnOk l.prog w K mg base CX0 5 fa fd ["script"] (spLaw K) := by
  have e := hfa.symm.trans (PySem.W.mg_of X G a11)
  cases e
  have T : Txt K mg := { n_isinstance := PySem.W.mg_none_of X G z_isinstance, n_int := PySem.W.mg_none_of X G z_int, n_bool := PySem.W.mg_none_of X G z_bool, n_str := PySem.W.mg_none_of X G z_str, n_abs := PySem.W.mg_none_of X G z_abs, n_all := PySem.W.mg_none_of X G z_all, n_len := PySem.W.mg_none_of X G z_len, n_tuple := PySem.W.mg_none_of X G z_tuple, n_max := PySem.W.mg_none_of X G z_max, n_min := PySem.W.mg_none_of X G z_min, n_range := PySem.W.mg_none_of X G z_range, c_MAX_LETTERS := ⟨_, PySem.W.mg_of X G y_MAX_LETTERS⟩, c_MAX_FIGURES := ⟨_, PySem.W.mg_of X G y_MAX_FIGURES⟩ }
  have F0 := fun_mk (st := s_is_integer) l0 c0 k0
  have b0 := F0.binds (ps := ["value"]) fun _ _ _ _ _ _ us hl => match us, hl with | [_], _ => rfl
  have F1 := fun_mk (st := s_is_count) l1 c1 k1
  have b1 := F1.binds (ps := ["value"]) fun _ _ _ _ _ _ us hl => match us, hl with | [_], _ => rfl
  have F2 := fun_mk (st := s_is_name) l2 c2 k2
  have b2 := F2.binds (ps := ["value"]) fun _ _ _ _ _ _ us hl => match us, hl with | [_], _ => rfl
  have F3 := fun_mk (st := s_are_names) l3 c3 k3
  have b3 := F3.binds (ps := ["value"]) fun _ _ _ _ _ _ us hl => match us, hl with | [_], _ => rfl
  have F4 := fun_mk (st := s_law_dice) l4 c4 k4
  have b4 := F4.binds (ps := ["script", "spot"]) fun _ _ _ _ _ _ us hl => match us, hl with | [_, _], _ => rfl
  have F5 := fun_mk (st := s_law_roll) l5 c5 k5
  have b5 := F5.binds (ps := ["dice", "total"]) fun _ _ _ _ _ _ us hl => match us, hl with | [_, _], _ => rfl
  have F6 := fun_mk (st := s_law_pick) l6 c6 k6
  have b6 := F6.binds (ps := ["dice", "items"]) fun _ _ _ _ _ _ us hl => match us, hl with | [_, _], _ => rfl
  have F7 := fun_mk (st := s_law_drawn_integer) l7 c7 k7
  have b7 := F7.binds (ps := ["dice"]) fun _ _ _ _ _ _ us hl => match us, hl with | [_], _ => rfl
  have F8 := fun_mk (st := s_law_drawn_string) l8 c8 k8
  have b8 := F8.binds (ps := ["dice"]) fun _ _ _ _ _ _ us hl => match us, hl with | [_], _ => rfl
  have F9 := fun_mk (st := s_law_is_word) l9 c9 k9
  have b9 := F9.binds (ps := ["text"]) fun _ _ _ _ _ _ us hl => match us, hl with | [_], _ => rfl
  have F10 := fun_mk (st := s_law_right) l10 c10 k10
  have b10 := F10.binds (ps := ["dice"]) fun _ _ _ _ _ _ us hl => match us, hl with | [_], _ => rfl
  have F11 := fun_mk (st := s_law) l11 c11 k11
  refine ⟨PySem.W.fnOf "law" "law" (defArgs s_law) (defBody s_law) (defScope s_law) .none kV11 dc11 pm11 an11 cd11 ct11, fun s v => .of_eq rfl, fun base _ _ => ?_⟩
  have D0 := Dfn.mk (PySem.W.mg_of X G a0) k0 b0 (ok_is_integer (P := l.prog) (w := w) (base := base) F0 T )
  have D1 := Dfn.mk (PySem.W.mg_of X G a1) k1 b1 (ok_is_count (P := l.prog) (w := w) (base := base) F1 T D0)
  have D2 := Dfn.mk (PySem.W.mg_of X G a2) k2 b2 (ok_is_name (P := l.prog) (w := w) (base := base) F2 T )
  have D3 := Dfn.mk (PySem.W.mg_of X G a3) k3 b3 (ok_are_names (P := l.prog) (w := w) (base := base) F3 T D2)
  have D4 := Dfn.mk (PySem.W.mg_of X G a4) k4 b4 (ok_law_dice (P := l.prog) (w := w) (base := base) F4 T )
  have D5 := Dfn.mk (PySem.W.mg_of X G a5) k5 b5 (ok_law_roll (P := l.prog) (w := w) (base := base) F5 T )
  have D6 := Dfn.mk (PySem.W.mg_of X G a6) k6 b6 (ok_law_pick (P := l.prog) (w := w) (base := base) F6 T D5)
  have D7 := Dfn.mk (PySem.W.mg_of X G a7) k7 b7 (ok_law_drawn_integer (P := l.prog) (w := w) (base := base) F7 T D5 D6)
  have D8 := Dfn.mk (PySem.W.mg_of X G a8) k8 b8 (ok_law_drawn_string (P := l.prog) (w := w) (base := base) F8 T D5 D6)
  have D9 := Dfn.mk (PySem.W.mg_of X G a9) k9 b9 (ok_law_is_word (P := l.prog) (w := w) (base := base) F9 T )
  have D10 := Dfn.mk (PySem.W.mg_of X G a10) k10 b10 (ok_law_right (P := l.prog) (w := w) (base := base) F10 T D0 D1 D2 D3 D5 D6 D7 D8 D9)
  exact ok_law F11 T D0 D1 D2 D3 D4 D10
theorem walk {l : PySem.W.OpenLaw} {q : Program} {loose : List Str} {XP : (Str → Option Value) → Heap → Prop} {YP : World → Heap → Prop} {d : DefRec} {K : Params → PySem.W.Frag} (hn : l.most = some 63) (hdf : d.params.defaults = [])
    (hY : ∀ (w : World) (h : Heap), YP w h → (K w.params).In h)
    (F : ∀ (w : World) (mg : Str → Option Value) (fa : Addr) (h : Heap), (K w.params).In h → h.Ns mainGlobals mg → mg d.name = some (.ref fa) →
      ∃ fd : FuncData, (∀ (s : Shared) (u : Value), BindsTo s fd ⟨[u], []⟩ [("script", u)]) ∧ ∀ base : Heap, (K w.params).In base → base.Ns mainGlobals mg → FnOk l.prog w (K w.params) mg base CX0 5 fa fd ["script"] (spLaw (K w.params))) :
    PySem.W.WalkO q loose XP YP l.row.toRowW d [] (fun f vs => PySem.call f vs) :=
  L2.walk_of (n := 63) (k := 5) (x := "script") (CX := fun _ => CX0) (sp := fun w => spLaw (K w.params)) hn (by decide) hdf ⟨rfl, by decide, by decide⟩ hY F (fun _ _ a ns hl _ hS => ⟨a, ns, hS, rfl, hl, fun _ => rfl⟩) fun _ _ _ _ _ z => z
end K1
open PySem PySem.W PyProof.Rows
set_option maxRecDepth 100000 in
set_option maxHeartbeats 0 in
theorem PySem.Challenge.cw_wheelgrown_k01_whole_integers_and_names_holds : PySem.Challenge.rw_wheelgrown_k01_whole_integers_and_names.Holds := by
  w_on; o_law; k_head; (case hw => w_witness2)
  k_fill
  refine K1.walk (l := PySem.Challenge.rw_wheelgrown_k01_whole_integers_and_names) rfl rfl (fun w h Y => PySem.W.kIn_of Y) ?F
  case F =>
    intro w mg fa h KX G hmg
    refine' K1.all_mk KX G hmg ?h_a0 ?h_l0 ?h_c0 ?h_k0 ?h_a1 ?h_l1 ?h_c1 ?h_k1 ?h_a2 ?h_l2 ?h_c2 ?h_k2 ?h_a3 ?h_l3 ?h_c3 ?h_k3 ?h_a4 ?h_l4 ?h_c4 ?h_k4 ?h_a5 ?h_l5 ?h_c5 ?h_k5 ?h_a6 ?h_l6 ?h_c6 ?h_k6 ?h_a7 ?h_l7 ?h_c7 ?h_k7 ?h_a8 ?h_l8 ?h_c8 ?h_k8 ?h_a9 ?h_l9 ?h_c9 ?h_k9 ?h_a10 ?h_l10 ?h_c10 ?h_k10 ?h_a11 ?h_l11 ?h_c11 ?h_k11 ?h_z_isinstance ?h_z_int ?h_z_bool ?h_z_str ?h_z_abs ?h_z_all ?h_z_len ?h_z_tuple ?h_z_max ?h_z_min ?h_z_range ?h_y_MAX_LETTERS ?h_y_MAX_FIGURES
    (case h_a0 => k_is)
    (case h_l0 => k_is)
    (case h_c0 => k_is)
    (case h_k0 => k_is)
    (case h_a1 => k_is)
    (case h_l1 => k_is)
    (case h_c1 => k_is)
    (case h_k1 => k_is)
    (case h_a2 => k_is)
    (case h_l2 => k_is)
    (case h_c2 => k_is)
    (case h_k2 => k_is)
    (case h_a3 => k_is)
    (case h_l3 => k_is)
    (case h_c3 => k_is)
    (case h_k3 => k_is)
    (case h_a4 => k_is)
    (case h_l4 => k_is)
    (case h_c4 => k_is)
    (case h_k4 => k_is)
    (case h_a5 => k_is)
    (case h_l5 => k_is)
    (case h_c5 => k_is)
    (case h_k5 => k_is)
    (case h_a6 => k_is)
    (case h_l6 => k_is)
    (case h_c6 => k_is)
    (case h_k6 => k_is)
    (case h_a7 => k_is)
    (case h_l7 => k_is)
    (case h_c7 => k_is)
    (case h_k7 => k_is)
    (case h_a8 => k_is)
    (case h_l8 => k_is)
    (case h_c8 => k_is)
    (case h_k8 => k_is)
    (case h_a9 => k_is)
    (case h_l9 => k_is)
    (case h_c9 => k_is)
    (case h_k9 => k_is)
    (case h_a10 => k_is)
    (case h_l10 => k_is)
    (case h_c10 => k_is)
    (case h_k10 => k_is)
    (case h_a11 => k_is)
    (case h_l11 => k_is)
    (case h_c11 => k_is)
    (case h_k11 => k_is)
    (case h_z_isinstance => k_is)
    (case h_z_int => k_is)
    (case h_z_bool => k_is)
    (case h_z_str => k_is)
    (case h_z_abs => k_is)
    (case h_z_all => k_is)
    (case h_z_len => k_is)
    (case h_z_tuple => k_is)
    (case h_z_max => k_is)
    (case h_z_min => k_is)
    (case h_z_range => k_is)
    (case h_y_MAX_LETTERS => k_is)
    (case h_y_MAX_FIGURES => k_is)

#print axioms PySem.Challenge.cw_wheelgrown_k01_whole_integers_and_names_holds
