import PyProof.Rows.All
import Wide.All
import OpenK.AllK
import Wide.FinOn
import HandS.ForMost
import HandS.ExcInit
import HandS.Exc
import KE.KExcInit
import HandS.ExcValue
import HandS.IsInst
import KE.KExcIs
import HandS.Wide
import HandS.Walk
import PySem.Challenge.RW_pushalike_k00_errors
set_option Elab.async false
set_option linter.all false
set_option maxRecDepth 100000
set_option maxHeartbeats 4000000
/-! An own exception class whose base's new and init come from two built-in classes (KeyError has LookupError's new and an init of its own); also all that have both from one. -/
namespace Ek
open PySem PySem.W PySem.Calls PyProof.Rows PySem.HandSPX
open PySem.Builtin PySem.Builtin.ObjectAttr
/-- the init of the built-in class B -/
structure InitF (B initId : String) : Prop where
  slot : Slot B "__init__" initId
  entry : entryFor table initId = some Builtin.«BaseException.__init__»
  split : splitId initId = some (B, "__init__")
  kind : builtinKind initId = some .slot
  row : Manifest.signature? initId = some ⟨.positional, "*", B, .self, [⟨"args", .varPos, false⟩]⟩
  star : (B != "*") = true
theorem InitF.of {B n i : String} (F : ExcCallFacts B n i) : InitF B i :=
  ⟨F.init, F.initEntry, F.initSplit, F.initKind, F.initRow, F.noStar⟩
theorem initKey : InitF "KeyError" "KeyError.__init__" where
  slot := .of (owner := "KeyError") (n := "__init__")
    (by rw [typeLookup_type, builtinLookup_eq_fast]; kernel_rfl)
    (by decide +kernel) (by decide +kernel) (by decide +kernel)
    (by first | exact .inr (by decide +kernel) | exact .inl (by decide +kernel))
    (by rw [isSubtype_type]; kernel_rfl)
  entry := entryFor_alias (id' := "BaseException.__init__")
    (by rw [fastTable_eq_tree]; kernel_rfl)
    (by first | rfl | decide +kernel) (by decide +kernel)
    (by rw [fastTable_eq_tree]; kernel_rfl)
  split := by kernel_rfl
  kind := by kernel_rfl
  row := by kernel_rfl
  star := by decide +kernel
abbrev kTail : List Value := [.type "KeyError", .type "LookupError", .type "Exception", .type "BaseException", .type "object"]
theorem storeKey : StoreFacts "KeyError" kTail "object.__setattr__" "object" where
  mro := by kernel_rfl
  slot := .of (owner := "object") (n := "__setattr__")
    (by rw [typeLookup_type, builtinLookup_eq_fast]; kernel_rfl)
    (by decide +kernel) (by decide +kernel) (by decide +kernel)
    (by first | exact .inr (by decide +kernel) | exact .inl (by decide +kernel))
    (by rw [isSubtype_type]; kernel_rfl)
  entry := F.entry_object_sa
  kind := by decide +kernel
  split := by decide +kernel
  hasOwner := by decide +kernel
  args := fun a b c => by unfold argsOk; kernel_rfl
  passes := fun _ => by kernel_rfl
/-- what the bases of the class are: one has the new, one the init; none is of the two that ask for more -/
structure Above (bm : List Value) (BN BI : String) : Prop where
  n : bm.contains (.type BN) = true
  i : bm.contains (.type BI) = true
  a : bm.contains (.type "AttributeError") = false
  u : bm.contains (.type "NameError") = false
section
variable {M : Model} {A : Around} {E : Value → Shared → Prop} {hp : Heap} {gs : Array GenState} {dr : Drawn} {tk : Nat} {os : OsState}
variable {nm qn : Str} {C N : Addr} {bs bm bmB : List Value} {hd : Bool} {sn : List Str} {sub : List Value} {ab : Bool} {col : Option Bool} {dd : Option Addr}
variable {s0 s1 s2 s3 s5 : Option Value} {B B' newId initId initId' : String}

theorem seesNew (F : ExcBaseFacts B newId initId bmB) (hb : bm.contains (.type B) = true) {us : List Value} {Q : Unit → Shared → Prop}
    (at_ : hp.get? C = some (excClassObj nm qn C N bs bm hd sn sub ab col dd s0 s1 s2 s3 s5 newId)) (q : Q () ⟨hp, gs, dr, tk, os⟩) :
    wpAny M A (checkBuiltinCall newId ⟨.ref C :: us, []⟩) Q E ⟨hp, gs, dr, tk, os⟩ := by
  have in_ : (Value.ref C :: bm).contains (.type B) = true := by rw [List.contains_cons, hb, Bool.or_true]
  have star := F.noStar
  simp only [checkBuiltinCall, F.newKind, F.newSplit, F.newRow]
  repeat (first
    | refine wpAny_loadPart_at at_ ?_
    | (refine wpAny_isSubtype_exc at_ ?_; rw [in_])
    | refine wpAny_staticBase_exc at_ ?_
    | refine wpAny_madeBy_exc at_ ?_
    | simp only [bne_self_eq_false, Bool.false_eq_true, if_false]
    | wp_step)
  exact q
theorem seesInit (F : InitF B' initId') (hb : bm.contains (.type B') = true) {e : Addr} {oe : Obj} {us : List Value} {Q : Unit → Shared → Prop}
    (at_ : hp.get? C = some (excClassObj nm qn C N bs bm hd sn sub ab col dd s0 s1 s2 s3 s5 newId)) (ate : hp.get? e = some oe) (hc : oe.cls = .ref C)
    (q : Q () ⟨hp, gs, dr, tk, os⟩) : wpAny M A (checkBuiltinCall initId' ⟨.ref e :: us, []⟩) Q E ⟨hp, gs, dr, tk, os⟩ := by
  have in_ : (Value.ref C :: bm).contains (.type B') = true := by rw [List.contains_cons, hb, Bool.or_true]
  have star := F.star
  simp only [checkBuiltinCall, F.kind, F.split, F.row]
  repeat (first
    | (with_reducible refine wpAny_loadPart_at ate ?_; rw [hc])
    | with_reducible refine wpAny_loadPart_at at_ ?_
    | (with_reducible refine wpAny_isSubtype_exc at_ ?_; rw [in_])
    | wp_step)
  refine wpAny_onRaise ?_
  have z : ∀ (a b : String) (n : Nat), Bind.check ⟨.positional, "*", B', .self, [⟨"args", .varPos, false⟩]⟩ a b n
      (List.map (fun x => x.fst) ({ pos := Value.ref e :: us } : Args).kw) = pure () := fun a b n => check_star_args _ _ _ _ _ _
  rw [z]
  exact wpAny_pure q
end
section
variable {prog : Program} {w : World} {A : Around} {E : Value → Shared → Prop} {R : Result → Shared → Prop} {hp : Heap} {gs : Array GenState} {dr : Drawn} {tk : Nat} {os : OsState}
variable {nm qn : Str} {C N : Addr} {bs bm bmB : List Value} {hd : Bool} {sn : List Str} {sub : List Value} {ab : Bool} {col : Option Bool} {dd : Option Addr}
variable {s0 s1 s2 s3 s5 : Option Value} {B B' newId initId initId' : String}
theorem runsNew (F : ExcBaseFacts B newId initId bmB) (U : Above bm B B') {us : List Value}
    (at_ : hp.get? C = some (excClassObj nm qn C N bs bm hd sn sub ab col dd s0 s1 s2 s3 s5 newId)) (hl : us.length ≤ sizeLine)
    (q : R (.ok (.ret (.ref (hp.objs.size + 1)))) ⟨(hp.push (kdv_tup us)).push (excO C hp.objs.size), gs, dr, tk, os⟩) :
    codeAny (model prog w) A (.builtin newId ⟨.ref C :: us, []⟩) R ⟨hp, gs, dr, tk, os⟩ := by
  have ends := F.ends
  have inB : (Value.ref C :: bm).contains (.type B) = true := by rw [List.contains_cons, U.n, Bool.or_true]
  have inA : (Value.ref C :: bm).contains (.type "AttributeError") = false := by rw [List.contains_cons, U.a]; rfl
  have inN : (Value.ref C :: bm).contains (.type "NameError") = false := by rw [List.contains_cons, U.u]; rfl
  refine codeAny_builtinAt F.entry ?_
  unfold Builtin.«BaseException.__new__»
  refine PySem.wpAt_bind ?_
  show PySem.wpAt _ _ _ (stack >>= _) _ _ _
  refine PySem.wpAt_bind (PySem.wpAt_stack fun p below => PySem.wpAt_of_wpAny ?_)
  wp_walk
  refine PySem.wpAt_of_wpAny ?_
  rw [F.owner]
  repeat (first
    | with_reducible refine wpAny_madeHere_exc F.canon at_ ?_
    | with_reducible refine wpAny_loadPart_at at_ ?_
    | (with_reducible refine wpAny_isSubtype_exc at_ ?_; first | rw [inB] | rw [inA] | rw [inN])
    | wp_step)
  show R _ _
  rw [Heap.size_push]
  exact q
theorem typeCalls (F : ExcBaseFacts B newId initId bmB) (U : Above bm B B') {us : List Value} {fI : Addr} {Q : Fin → Shared → Prop}
    (at_ : hp.get? C = some (excClassObj nm qn C N bs bm hd sn sub ab col dd s0 s1 s2 s3 s5 newId))
    (li : Looks (model prog w) hp (typeLookup (.ref C) "__init__") (some (.ref fI))) (lb : ∀ self, Looks (model prog w) hp (bindSpecial (.ref fI) self) (.ref fI, [self]))
    (hl : us.length ≤ sizeLine)
    (q : codeAny (model prog w) A (.call (.ref fI) ⟨.ref (hp.objs.size + 1) :: us, []⟩)
      (fun r s' => match r with | .ok (.ret v) => v = .none ∧ Q (.done (.ret (.ref (hp.objs.size + 1)))) s' | .ok _ => False | .error x => E x s')
      ⟨(hp.push (kdv_tup us)).push (excO C hp.objs.size), gs, dr, tk, os⟩) :
    wpAny (model prog w) A (Builtin.«type.__call__» ⟨.ref C :: us, []⟩) Q E ⟨hp, gs, dr, tk, os⟩ := by
  repeat (first
    | with_reducible refine wpAny_loadPart_at at_ ?_
    | with_reducible refine wpAny_madeBy_exc at_ ?_
    | wp_step)
  refine codeAny_call_builtin_code (Code.quiet_builtin _ F.quiet) (seesNew F U.n at_ (runsNew F U at_ hl ?_))
  show wpAny _ _ _ _ _ _
  have kp : ∀ b o, hp.get? b = some o → ((hp.push (kdv_tup us)).push (excO C hp.objs.size)).get? b = some o :=
    fun b o e => Heap.get?_push_of_some _ (Heap.get?_push_of_some _ e)
  have at1 := kp _ _ at_
  have atE : ((hp.push (kdv_tup us)).push (excO C hp.objs.size)).get? (hp.objs.size + 1) = some (excO C hp.objs.size) := by heap_get
  have inC : (Value.ref C :: bm).contains (.ref C) = true := by simp
  have li1 := li.keeps kp
  have lb1 := (lb (.ref (hp.objs.size + 1))).keeps kp
  unfold isInstance
  repeat (first
    | with_reducible refine wpAny_loadPart_at atE ?_
    | (with_reducible refine wpAny_isSubtype_exc at1 ?_; rw [inC])
    | wp_step)
  show wpAny _ _ (typeLookup (.ref C) _) _ _ _
  refine li1.at (wpAny_holding (wpAny_bind (lb1.at (wpAny_bind (wpAny_call (codeAny_mono q fun r s' z => ?_))))))
  rcases r with x | (v | _ | _ | _) <;> first | exact z | exact z.elim | skip
  obtain ⟨rfl, z⟩ := z
  first
    | exact wpAny_pure (wpAny_pure z)
    | (wp_walk; exact z)
theorem clsCalls (F : ExcBaseFacts B newId initId bmB) (U : Above bm B B') {us : List Value} {fI : Addr}
    (at_ : hp.get? C = some (excClassObj nm qn C N bs bm hd sn sub ab col dd s0 s1 s2 s3 s5 newId))
    (li : Looks (model prog w) hp (typeLookup (.ref C) "__init__") (some (.ref fI))) (lb : ∀ self, Looks (model prog w) hp (bindSpecial (.ref fI) self) (.ref fI, [self]))
    (hl : us.length ≤ sizeLine)
    (q : codeAny (model prog w) (A.under (.builtin "type.__call__" ⟨.ref C :: us, []⟩)) (.call (.ref fI) ⟨.ref (hp.objs.size + 1) :: us, []⟩)
      (InitBack (hp.objs.size + 1) R) ⟨(hp.push (kdv_tup us)).push (excO C hp.objs.size), gs, dr, tk, os⟩) :
    codeAny (model prog w) A (.call (.ref C) ⟨us, []⟩) R ⟨hp, gs, dr, tk, os⟩ := by
  have l1 := tc_lookup
  have l2 := tc_bind (.ref C)
  have ty : (⟨hp, gs, dr, tk, os⟩ : Shared).TypeIs (.ref C) "type" := ⟨_, at_, rfl⟩
  refine codeAny_of_tree ?_
  show wpAny _ _ (callAny (.ref C) _) _ _ _
  repeat (any_goals (first
    | assumption
    | with_reducible refine wpAny_loadPart_at at_ ?_
    | wp_step))
  refine ⟨rfl, codeAny_call_builtin_at (Code.quiet_builtin _ (by decide +kernel)) entry_typeCall
    (wpAny_check_type_call_sub at_ (typeCalls F U at_ li lb hl (codeAny_mono q fun r s' z => ?_)))⟩
  rcases r with x | (v | _ | _ | _) <;> exact z
theorem runsInit (F : InitF B' initId') (hb : bm.contains (.type B') = true) {e t0 : Addr} {us : List Value}
    (at_ : hp.get? C = some (excClassObj nm qn C N bs bm hd sn sub ab col dd s0 s1 s2 s3 s5 newId)) (ate : hp.get? e = some (excO C t0)) (hl : us.length ≤ sizeLine)
    (q : ∀ h' t1, (∀ b o, b ≠ e → hp.get? b = some o → h'.get? b = some o) → h'.get? e = some (excO C t1) → R (.ok (.ret .none)) ⟨h', gs, dr, tk, os⟩) :
    codeAny (model prog w) A (.call (.builtin initId') ⟨.ref e :: us, []⟩) R ⟨hp, gs, dr, tk, os⟩ := by
  refine codeAny_call_builtin F.slot.plain F.entry (seesInit F hb at_ ate rfl ?_)
  wp_walk
  refine q _ hp.objs.size (fun b o hne ho => ?_) ?_
  · rw [Heap.get?_update_other _ _ (Ne.symm hne)]
    exact Heap.get?_push_of_some _ ho
  · rw [Heap.get?_update_self _ (Heap.get?_push_of_some _ ate) rfl] <;> rfl
end
end Ek

set_option Elab.async false
set_option linter.all false
set_option maxRecDepth 100000
set_option maxHeartbeats 4000000
namespace Ek
open PySem PySem.Spec PyProof.Rows L2
open PySem.W (Frag findIn subIn mroIn keepIn hasDictIn clsIn takerIn specialIn takesIn readsIn findCls kitOne excInitIn excOver)
/-- an own exception class at C whose mro behind itself ends with bmB -/
structure EC (K : Frag) (C : Addr) (bmB : List Value) (newId : String) : Prop where
  q : excInitIn K C bmB newId = true
  ov : excOver K C bmB = true
  hd : hasDictIn K C = true
  kC : keepIn K (.ref C) = true
  sa : findIn K (.ref C) "__setattr__" = some (some (.builtin "object.__setattr__"))
/-- how an instance of it is read, and what isinstance asks -/
structure ER (K : Frag) (C : Addr) : Prop where
  hd : hasDictIn K C = true
  ga : findIn K (.ref C) "__getattribute__" = some (some (.builtin "BaseException.__getattribute__"))
  gt : findIn K (.ref C) "__getattr__" = some none
  ex : subIn K (.ref C) (.type "BaseException") = some true
  ca : findIn K (.ref C) "__class__" = some (some (.builtin "object.__class__"))
  ob : mroIn K C (.type "object") = some true
structure ObC (K : Frag) : Prop where
  gn : specialIn K (.builtin "object.__class__") "__get__" = some (some (.builtin "getset_descriptor.__get__"))
  tk : takesIn K (.builtin "object.__class__") = some true
theorem ER.ic {K : Frag} {C : Addr} (R : ER K C) : (clsIn K C).isSome = true := by
  obtain ⟨cd, e, _⟩ := PySem.W.any_some R.hd
  rw [e]
  rfl
section
variable {X : Cx} {pins : List (Addr × Obj)} {σ : L2.St} {H : Hp} {s : Shared} {a C : Addr} {f : Str} {y : V} {u : Value} {bmB : List Value} {B newId : String}
variable {Q : Unit → Shared → Prop} {E : Value → Shared → Prop} {A : Around}
/-- the first attribute of an exception without a dict -/
theorem putFirst (SF : StoreFacts B bmB "object.__setattr__" "object") (T : EC X.K C bmB newId) (I : L2.Inv X pins σ H s) (e : H a = some (exo a C none))
    (nt : takerIn X.K C f = some none) (ry : RelV y u)
    (h : ∀ d s', H d = none → d ≠ a → L2.Inv X pins σ (upd (upd H a (exo a C (some d))) d (exd d [(f, y)])) s' → Q () s') :
    wpAny (model X.prog X.w) A (setAttr (.ref a) f u) Q E s := by
  obtain ⟨t1, ho⟩ := exo_at I.hok e
  obtain ⟨cd, hc, hdct⟩ := PySem.W.any_some T.hd
  obtain ⟨hp, g, dr, t, os⟩ := s
  have lc : ∀ M h, X.K.In h → PySem.W.Looks M h (classData C) cd := fun M h Y => PySem.W.looks_clsIn Y hc
  have lt : a ≠ hp.objs.size := Nat.ne_of_lt (Heap.lt_size ho)
  refine PySem.W.set_plain I.kIn (ox := { cls := .ref C, dict := none, data := .fields #[.ref t1, .none, .none, .none, .bool false, .none] }) (od := none) ⟨ho, rfl, rfl, trivial⟩ T.sa ?_
  refine PySem.W.osa_openX (od := none) SF I.kIn ⟨ho, rfl, rfl, trivial⟩ T.ov nt fun b => ?_
  have hcls := lc (model X.prog X.w) hp I.kIn
  show wpAny _ _ (Builtin.ObjectAttr.storeInOwnDict (.ref a) (.ref C) (.str f t) f u b) _ _ _
  obtain ⟨nm, bs, mro, ns, qn, hd, sn, sb, ab, col, del⟩ := cd
  dsimp only at hdct
  subst hdct
  unfold Builtin.ObjectAttr.storeInOwnDict Builtin.ObjectAttr.ownDictForStores
  repeat (first
    | with_reducible refine PySem.HandSPX.store_in_new ?_ ?_
    | with_reducible refine wpAny_loadPart_at ho ?_
    | with_reducible refine hcls.at ?_
    | wp_step)
  · refine ⟨_, #[], _, (Heap.get?_update_ne _ _ _ _ lt.symm).trans (Heap.get?_push_at rfl rfl), rfl, fun z hz => ?_, fun _ => rfl⟩
    exact absurd hz (by simp)
  · intro h' tk' hn hs
    have ha0 : (hp.push { cls := .type "dict", data := .dict #[] }).get? a = some { cls := .ref C, data := .fields #[.ref t1, .none, .none, .none, .bool false, .none] } := Heap.get?_push_of_some _ ho
    have ha : h'.get? a = some { cls := .ref C, dict := some hp.objs.size, data := .fields #[.ref t1, .none, .none, .none, .bool false, .none] } := by
      rw [hs.2 a lt, Heap.get?_update_self _ ha0 rfl] <;> rfl
    have kp : ∀ b o, b ≠ a → hp.get? b = some o → h'.get? b = some o := fun b o hb ho' => by
      have nb : b ≠ hp.objs.size := Nat.ne_of_lt (Heap.lt_size ho')
      rw [hs.2 b nb, Heap.get?_update_other _ _ (Ne.symm hb)]
      exact Heap.get?_push_of_some _ ho'
    obtain ⟨G, g1, g2⟩ := L2.restrict h' fun b => decide (b ≠ hp.objs.size)
    have gk : ∀ b, b ≠ hp.objs.size → G.get? b = h'.get? b := fun b hb => g1 b (decide_eq_true hb)
    have gd : G.get? hp.objs.size = none := g2 _ (by simp)
    have hn0 : H hp.objs.size = none := I.hok.fresh (Nat.le_refl _)
    have J := I.write (h' := G) (t' := tk') (x := a) (e := a) (o := exo a C (some hp.objs.size)) (by rw [e]; exact True.intro) (.inl rfl)
      (fun b o hb ho' => by rw [gk b (Nat.ne_of_lt (Heap.lt_size ho'))]; exact kp b o hb ho') ⟨_, (gk a lt).trans ha⟩ (exo_ok ((gk a lt).trans ha))
    have nd : (upd H a (exo a C (some hp.objs.size))) hp.objs.size = none := by rw [upd_ne (Ne.symm lt)]; exact hn0
    refine h _ _ hn0 (Ne.symm lt) (J.laidN (h' := h') (t' := tk') (a := hp.objs.size) (fun b o q => ?_) gd nd (exd_ok hn (relO_put (fs := []) ry fun g => True.intro)))
    have q' : G.get? b = some o := q
    by_cases hb : b = hp.objs.size
    · rw [hb, gd] at q'
      cases q'
    · rw [← gk b hb]
      exact q'
/-- the init of a built-in base: nothing of it is told -/
theorem baseInit {B' initId : String} {us : List Value} {Q : Value → Shared → Prop} (F : InitF B' initId) (hB : bmB.contains (.type B') = true) (T : EC X.K C bmB newId) (I : L2.Inv X pins σ H s)
    (e : H a = some (exo a C none)) (hl : us.length ≤ sizeLine) (h : ∀ s', L2.Inv X pins σ H s' → Q .none s') :
    wpAny (model X.prog X.w) A (call (.builtin initId) (.ref a :: us)) Q E s := by
  obtain ⟨nm, N, qn, bs, bm, hd, sn, sub, ab, col, dd, k0, k1, k2, k3, k5, hC, hT⟩ := PySem.W.excInit_of I.kIn T.q
  obtain ⟨t1, ho⟩ := exo_at I.hok e
  obtain ⟨hp, g, dr, t, os⟩ := s
  refine wpAny_call (runsInit F ((hT B').trans hB) hC ho hl fun h' t2 kp hx => ?_)
  have same : upd H a (exo a C none) = H := funext fun b => by
    by_cases hb : b = a
    · rw [hb, upd_same, e]
    · exact upd_ne hb
  have J := I.write (h' := h') (t' := t) (x := a) (e := a) (o := exo a C none) (by rw [e]; exact True.intro) (.inl rfl) kp ⟨_, hx⟩ (exo_ok hx)
  rw [same] at J
  exact h _ J
end

/-- Base.__init__(self, ..) -/
def tBaseI (K : Frag) (bmB : List Value) (newId : String) (ta : TA) : TE := fun σ H Q => ta σ H fun vs H1 =>
  ∃ (a C : Addr) (ws : List V), vs = .ref a :: ws ∧ ws.length ≤ 1000 ∧ EC K C bmB newId ∧ H1 a = some (exo a C none) ∧ Q .non H1
/-- self.f = e, the first -/
def tPut (K : Frag) (bmB : List Value) (newId : String) (f : Str) (to te : TE) : TS := fun D σ H => te σ H fun y H1 => to σ H1 fun x H2 =>
  ∃ a C : Addr, x = .ref a ∧ EC K C bmB newId ∧ takerIn K C f = some none ∧ H2 a = some (exo a C none) ∧
    ∀ d, H2 d = none → d ≠ a → D.nx σ (upd (upd H2 a (exo a C (some d))) d (exd d [(f, y)]))
/-- C(e, ..) by its own __init__ -/
def tMkE (C : Addr) (sp : Sp) (ta : TA) : TE := fun σ H Q => ta σ H fun vs H1 => vs.length ≤ 1000 ∧ ∀ a, H1 a = none →
  sp (.ref a :: vs) (upd H1 a (exo a C none)) (fun v H2 => v = .non ∧ Q (.ref a) H2) fun _ _ _ => False
/-- e.f, f held by the exception's own dict -/
def tAtE (K : Frag) (f : Str) (te : TE) : TE := fun σ H Q => te σ H fun x H1 => ∃ (a C d : Addr) (fs : List (Str × V)) (v : V),
  x = .ref a ∧ ER K C ∧ findIn K (.ref C) f = some none ∧ H1 a = some (exo a C (some d)) ∧ H1 d = some (exd d fs) ∧ fs.lookup f = some v ∧ Q v H1
/-- at a stands an exception of the class at C -/
def ErrAt (H : Hp) (a C : Addr) : Prop := H a = some (ExO (.ref C) a) ∨ ∃ d fs, H a = some (exo a C (some d)) ∧ H d = some (exd d fs)
def rIsX (K : Frag) : List V → Hp → VK → Prop := fun xs H Q => ∃ (a C : Addr) (c : V) (u : Value) (b : Bool), xs = [.ref a, c] ∧ ClsV c u ∧ ErrAt H a C ∧ ER K C ∧ ObC K ∧ kitOne K (.ref C) u = some b ∧ Q (.bl b) H
section
variable {X : Cx} {o e : Expr} {es : List Expr} {to te : TE} {ta : TA} {f : Str} {p p' p1 p2 pos : Pos} {bmB : List Value} {B newId : String}
theorem pe_baseT {B' initId : String} {x : Str} {pl : Sem Bool} (F : InitF B' initId) (hB : bmB.contains (.type B') = true) (hg : Gl X x) (hm : X.mg x = none) (hbt : bootBuiltins x = some (.type B'))
    (typ : typeOf (.type B') = pure (.type "type")) (stub : Manifest.isStub B' = false) (vV : findCls X.K (.type B') (.type "type") "__init__" = some (.val (.builtin initId))) (ha : PA X (e :: es) ta) (hh : PySem.W.handedIn (.builtin initId) = true := by decide +kernel)
    (hn : x ≠ "__name__" := by decide) (hdb : (x == ("__debug__" : Str)) = false := by decide)
    (hc : eval (.Call (.Attribute (.Name x p1) "__init__" p2) (e :: es) [] pos) X.env = (do
      let ov ← eval (.Name x p1) X.env
      standAt p2.atName
      let (f, first) ← holding [ov] (getMethod ov "__init__" pl)
      callWith pos f first (backTo pos (starEach (e :: es) X.env)) (backToKw pos (keywordEach [] X.env))) := by rfl)
    (he : starEach (e :: es) X.env = (false, eval e X.env) :: starEach es X.env := by rfl) (hpl : (backTo pos (starEach es X.env)).any (·.1) = false := by rfl) :
    PE X (.Call (.Attribute (.Name x p1) "__init__" p2) (e :: es) [] pos) (tBaseI X.K bmB newId ta) := by
  refine ⟨fun pins s σ H Q I h => PySem.W.methodCall_KW (ld_blt I hg hm hbt ?_ hn hdb) hc⟩
  obtain ⟨m, fr⟩ := I.fr
  refine PySem.W.method_type fr I.ok.mod.kin typ stub vV hh ?_
  show wpAny _ _ (callWith pos (Value.builtin initId) [] (backTo pos (starEach (e :: es) X.env)) []) _ _ _
  refine PyProof.Rows.callWith_method1 (thn (ha.run pos pins _ σ H _ (I.tok _) h) fun us s1 ⟨vs, H1, I1, r1, a, C, ws, ev, hl, T, ea, q⟩ => ?_) he hpl
  subst ev
  cases r1 with
  | @cons _ u0 _ ur ra rw' =>
    obtain rfl : u0 = Value.ref a := ra
    have hl2 : ur.length ≤ sizeLine := by
      rw [← Paired.length rw', sizeLine_eq]
      omega
    exact baseInit F hB T I1 ea hl2 fun s' J => ⟨.non, H1, J, rfl, q⟩
theorem pe_baseC {B' initId : String} {x : Str} {CB : Addr} {pl : Sem Bool} (F : InitF B' initId) (hB : bmB.contains (.type B') = true) (hg : Gl X x) (hm : X.mg x = some (.ref CB))
    (gg : specialIn X.K (.ref CB) "__getattribute__" = some (some (.builtin "type.__getattribute__"))) (rd : readsIn X.K CB (.type "type") = true)
    (vV : findCls X.K (.ref CB) (.type "type") "__init__" = some (.val (.builtin initId))) (ha : PA X (e :: es) ta) (hh : PySem.W.handedIn (.builtin initId) = true := by decide +kernel)
    (hdb : (x == ("__debug__" : Str)) = false := by decide)
    (hc : eval (.Call (.Attribute (.Name x p1) "__init__" p2) (e :: es) [] pos) X.env = (do
      let ov ← eval (.Name x p1) X.env
      standAt p2.atName
      let (f, first) ← holding [ov] (getMethod ov "__init__" pl)
      callWith pos f first (backTo pos (starEach (e :: es) X.env)) (backToKw pos (keywordEach [] X.env))) := by rfl)
    (he : starEach (e :: es) X.env = (false, eval e X.env) :: starEach es X.env := by rfl) (hpl : (backTo pos (starEach es X.env)).any (·.1) = false := by rfl) :
    PE X (.Call (.Attribute (.Name x p1) "__init__" p2) (e :: es) [] pos) (tBaseI X.K bmB newId ta) := by
  refine ⟨fun pins s σ H Q I h => PySem.W.methodCall_KW (ld_glob I hg hm ?_ hdb) hc⟩
  refine PySem.W.method_cls I.kIn gg (PySem.W.cls_value I.kIn rd vV hh ?_)
  show wpAny _ _ (callWith pos (Value.builtin initId) [] (backTo pos (starEach (e :: es) X.env)) []) _ _ _
  refine PyProof.Rows.callWith_method1 (thn (ha.run pos pins _ σ H _ (I.tok _) h) fun us s1 ⟨vs, H1, I1, r1, a, C, ws, ev, hl, T, ea, q⟩ => ?_) he hpl
  subst ev
  cases r1 with
  | @cons _ u0 _ ur ra rw' =>
    obtain rfl : u0 = Value.ref a := ra
    have hl2 : ur.length ≤ sizeLine := by
      rw [← Paired.length rw', sizeLine_eq]
      omega
    exact baseInit F hB T I1 ea hl2 fun s' J => ⟨.non, H1, J, rfl, q⟩
theorem ps_put (SF : StoreFacts B bmB "object.__setattr__" "object") (ho : PE X o to) (he : PE X e te) (hs : swapsWith e (some (.Attribute o f p')) pos.line X.env = pure false := by rfl) :
    PS X (.Assign [.Attribute o f p'] e pos) (tPut X.K bmB newId f to te) := by
  refine ⟨fun pins s σ H D I h => ?_⟩
  refine plainObj_wpAny_Assign_Attribute (thn (he.run pins s σ H _ I h) fun v s1 ⟨y, H1, I1, r1, q1⟩ => thn (ho.run pins s1 σ H1 _ I1 q1) fun u s2 ⟨x, H2, I2, r2, a, C, ex, T, nt, ea, q⟩ => ?_) hs
  subst ex
  obtain rfl : u = Value.ref a := r2
  exact putFirst SF T I2 ea nt r1 fun d s' n ne J => ⟨σ, _, J, q d n ne⟩
theorem pe_mkE {CX : CXT} {x : Str} {C fI : Addr} {k : Nat} {fd : FuncData} {ps : List Str} {sp : Sp} {BN BI initId : String} {bN : List Value} (FN : ExcBaseFacts BN newId initId bN)
    (U : Above bmB BN BI) (T : EC X.K C bmB newId) (iC : findIn X.K (.ref C) "__init__" = some (some (.ref fI))) (tI : PySem.W.typeIn X.K (.ref fI) = some (.type "function"))
    (F1 : FnOk X.prog X.w X.K X.mg X.base CX k fI fd ps sp) (hr : Room (k + 1) X.A) (hb : Binds X.K fd ps []) (hx : Passes CX X (fun _ _ _ => False)) (hg : Gl X x) (hm : X.mg x = some (.ref C)) (ha : PA X (e :: es) ta)
    (hdb : (x == ("__debug__" : Str)) = false := by decide) (he : starEach (e :: es) X.env = (false, eval e X.env) :: starEach es X.env := by rfl) (hpl : (backTo pos (starEach es X.env)).any (·.1) = false := by rfl) :
    PE X (.Call (.Name x p) (e :: es) [] pos) (tMkE C sp ta) := by
  refine ⟨fun pins s σ H Q I h => ?_⟩
  refine wpAny_Call_Name_kw (ld_glob I hg hm ?_ hdb)
  refine PySem.W.callWith_K (h₀ := X.base) I.ok.mod.kin T.kC (thn (ha.run pos pins s σ H _ I h) fun us s1 ⟨vs, H1, I1, r1, hz, q1⟩ => ⟨I1.kIn, ?_⟩) he hpl
  show wpAny _ _ (call (.ref C) us) _ _ _
  obtain ⟨nm, N, qn, bs, bm, hd, sn, sub, ab, col, dd, k0, k1, k2, k3, k5, hC, hT⟩ := PySem.W.excInit_of I1.kIn T.q
  have U' : Above bm BN BI := ⟨(hT _).trans U.n, (hT _).trans U.i, (hT _).trans U.a, (hT _).trans U.u⟩
  obtain ⟨hp, g, dr, tk, os⟩ := s1
  have up : hp.objs.size ≤ hp.objs.size + 1 := Nat.le_succ _
  have hn : H1 (hp.objs.size + 1) = none := I1.hok.fresh up
  have hq := q1 (hp.objs.size + 1) hn
  have kk : ∀ b o, hp.get? b = some o → ((hp.push (PySem.W.kdv_tup us)).push (PySem.HandSPX.excO C hp.objs.size)).get? b = some o := fun b o e => Heap.get?_push_of_some _ (Heap.get?_push_of_some _ e)
  have hget : ((hp.push (PySem.W.kdv_tup us)).push (PySem.HandSPX.excO C hp.objs.size)).get? (hp.objs.size + 1) = some (PySem.HandSPX.excO C hp.objs.size) := by heap_get
  have I2 := I1.laid (t' := tk) (a := hp.objs.size + 1) (o := exo (hp.objs.size + 1) C none) (h' := (hp.push (PySem.W.kdv_tup us)).push (PySem.HandSPX.excO C hp.objs.size)) kk up (exo_ok hget)
  have r2 : Vals (V.ref (hp.objs.size + 1) :: vs) (Value.ref (hp.objs.size + 1) :: us) := .cons rfl r1
  have r3 : Vals (V.ref (hp.objs.size + 1) :: vs) (Value.ref (hp.objs.size + 1) :: us ++ []) := by rw [List.append_nil]; exact r2
  have hl : (Value.ref (hp.objs.size + 1) :: us ++ []).length = ps.length := r3.length.symm.trans (F1.len _ _ _ _ hq)
  have hus : us.length ≤ sizeLine := by
    rw [← Paired.length r1, sizeLine_eq]
    omega
  refine wpAny_call (clsCalls FN U' hC (PySem.W.looks_findIn I1.kIn iC) (fun self => PySem.W.bind_fn I1.kIn self tI) hus
    (codeAny_mono (F1.run _ X.stack _ _ ⟨Value.ref (hp.objs.size + 1) :: us, []⟩ (Value.ref (hp.objs.size + 1) :: us ++ []) _ _ (fun _ _ _ => False) (hr.make C us []) (I2.env0.make C us [])
      (hb _ (Value.ref (hp.objs.size + 1) :: us) I2.kIn hl) r3 hq) fun r s' hq' => ?_))
  cases r with
  | error er => exact hx pins σ _ _ er s' I2 hq'
  | ok fl =>
    cases fl with
    | ret u =>
      obtain ⟨v, H2, I3, rv, ev, q2⟩ := I2.after hq'
      subst ev
      exact ⟨rv, ⟨V.ref (hp.objs.size + 1), H2, I3, rfl, q2⟩⟩
    | next => exact False.elim hq'
    | brk => exact False.elim hq'
    | cont => exact False.elim hq'
theorem pe_atE (he : PE X e te) (hb : attributeBase e f X.env (eval e X.env) = eval e X.env := by rfl) : PE X (.Attribute e f pos) (tAtE X.K f te) := by
  refine ⟨fun pins s σ H Q I h => attr_of hb (thn (he.run pins s σ H _ I h) fun u s1 hh => ?_)⟩
  obtain ⟨x, H1, I1, rx, a, C, d, fs, v, ex, R, no, ea, ed, hl, q⟩ := hh
  subst ex
  obtain rfl : u = Value.ref a := rx
  obtain ⟨t1, ho⟩ := exo_at I1.hok ea
  obtain ⟨mA, hns, rel⟩ := exd_at I1.hok ed
  obtain ⟨od, hod, lk⟩ := lookIn_ns hns
  obtain ⟨u, hu, ru⟩ := RelO.some_of (v := v) (o := mA f) (by rw [← hl]; exact rel f)
  refine PySem.HandSPX.exc_get I1.kIn (od := some od) ⟨ho, rfl, rfl, hod⟩ R.ga R.gt R.ex (PySem.W.findObj_own R.hd no rfl (by rw [lk, hu])) (handed_of ru) ?_
  exact ⟨v, H1, I1.tok _, ru, q⟩
theorem call_isX : CallR X (.builtin "isinstance") (rIsX X.K) := by
  intro pins s σ H xs us Q I r h
  obtain ⟨a, C, c, u, b, rfl, kc, ea, R, O, kb, q⟩ := h
  obtain ⟨u1, u2, rfl, r1, r2⟩ := vals2 r
  obtain rfl : u1 = Value.ref a := r1
  obtain rfl := kc.eq r2
  rcases ea with ea | ⟨d, fs, ea, ed⟩
  · have z : ObjOk X.prog X.w H s.heap a (ExO (.ref C) a) := I.hok a _ ea
    obtain ⟨⟨oe, vs, ho, hz, hv, _⟩, _⟩ := z
    have J : PySem.W.InstAt s.heap a oe C none := ⟨ho, hz.1, by unfold PySem.W.notCls; rw [hv] <;> rfl, by rw [hz.2]; exact trivial⟩
    exact PySem.W.kia_one (PySem.W.kitx_exc R.ic R.ga R.gt R.ex R.ca O.gn O.tk R.ob) I.kIn J kb (fun z => nomatch z) fun tk => ⟨.bl b, H, I.tok tk, rfl, q⟩
  · obtain ⟨t1, ho⟩ := exo_at I.hok ea
    obtain ⟨mA, hns, rel⟩ := exd_at I.hok ed
    obtain ⟨od, hod, lk⟩ := lookIn_ns hns
    have J : PySem.W.InstAt s.heap a { cls := .ref C, dict := some d, data := .fields #[.ref t1, .none, .none, .none, .bool false, .none] } C (some od) := ⟨ho, rfl, rfl, hod⟩
    exact PySem.W.kia_one (PySem.W.kitx_exc R.ic R.ga R.gt R.ex R.ca O.gn O.tk R.ob) I.kIn J kb (fun z => nomatch z) fun tk => ⟨.bl b, H, I.tok tk, rfl, q⟩
end
end Ek

set_option Elab.async false
set_option linter.all false
set_option maxRecDepth 100000
set_option maxHeartbeats 4000000
namespace K00
open PySem L2
def topS (i : Nat) : Stmt := PySem.Challenge.pw_pushalike_k00_errors.main.body.getD i (.Pass ⟨0, 0, 0, 0⟩)
abbrev sStart : Stmt := topS 18
abbrev sThrow : Stmt := topS 19
abbrev sPick : Stmt := topS 20
abbrev sWords : Stmt := topS 21
abbrev sName : Stmt := topS 22
abbrev sValue : Stmt := topS 23
abbrev sAny : Stmt := topS 24
abbrev sSame : Stmt := topS 25
abbrev sClasses : Stmt := topS 26
abbrev sLaw : Stmt := topS 27
/-! ### numbers -/
theorem op_powB {X : Cx} : OpR X (binaryOp .Pow) (rI (fun i j => 0 ≤ j ∧ (Builtin.Int.intBits i : Int) * j ≤ 2 ^ 27) fun i j => .int (i ^ j.toNat)) :=
  opI fun _ _ _ _ _ _ _ hc q => PyProof.Rows.pow_int hc.1 hc.2 q
abbrev ten60 : Int := 10 ^ 60
theorem ten60_pos : (0 : Int) < ten60 := by decide +kernel
theorem ten60_log : ten60.natAbs.log2 < 9000 := by decide +kernel
theorem great_pos : (0 : Int) < (10 ^ (60 : Int).toNat) ^ (10 : Int).toNat := by decide +kernel
theorem great_bits : (Builtin.Int.intBits (10 ^ (60 : Int).toNat) : Int) * 10 ≤ 2 ^ 27 := by decide +kernel
theorem log_of {t : Int} (h0 : 0 < t) (h : t ≤ ten60) : t.natAbs.log2 < 9000 := by
  have e : t.natAbs ≤ ten60.natAbs := by omega
  have z : t.natAbs ≠ 0 := by omega
  refine Nat.lt_of_le_of_lt ?_ ten60_log
  exact (Nat.le_log2 (by decide +kernel)).mpr (Nat.le_trans (Nat.log2_self_le z) e)
theorem modA (i : Int) : -(2 ^ 64) < i % 2305843009213693951 ∧ i % 2305843009213693951 < 2 ^ 64 := by omega
theorem modB (i : Int) : -(2 ^ 64) < i % 2305843009213693921 ∧ i % 2305843009213693921 < 2 ^ 64 := by omega
/-! ### the bag -/
/-- all but the object at B is as it was -/
def SB (B : Addr) (H H' : Hp) : Prop := ∀ b o, b ≠ B → H b = some o → H' b = some o
def BagAt (H : Hp) (B : Addr) : Prop := ∃ x y z : Int, H B = some (.lst [.int x, .int y, .int z])
theorem SB.refl (B : Addr) (H : Hp) : SB B H H := fun _ _ _ h => h
theorem SB.trans {B : Addr} {H H1 H2 : Hp} (a : SB B H H1) (b : SB B H1 H2) : SB B H H2 := fun c o n h => b c o n (a c o n h)
theorem SB.upd {B : Addr} {H H1 : Hp} {o : HO} (a : SB B H H1) : SB B H (upd H1 B o) := fun c u n h => by
  rw [upd_ne n]
  exact a c u n h
theorem SB.new {B p : Addr} {H H1 : Hp} {o : HO} (a : SB B H H1) (hp : H1 p = none) : SB B H (L2.upd H1 p o) := fun c u n h => by
  have z := a c u n h
  rw [upd_ne (ne_of_none z hp)]
  exact z
theorem SB.of {B : Addr} {H H' : Hp} (a : Same H H') : SB B H H' := fun b o _ h => a b o h
/-- the object p, new since H, is changed -/
theorem SB.own {B p : Addr} {H H1 : Hp} {o : HO} (a : SB B H H1) (hp : H p = none) : SB B H (L2.upd H1 p o) := fun c u n h => by
  rw [upd_ne (ne_of_none h hp)]
  exact a c u n h
theorem BagAt.new {B p : Addr} {H : Hp} {o : HO} (a : BagAt H B) (hp : H p = none) : BagAt (upd H p o) B := by
  obtain ⟨x, y, z, h⟩ := a
  exact ⟨x, y, z, by rw [upd_ne (ne_of_none h hp)]; exact h⟩
theorem BagAt.other {B p : Addr} {H : Hp} {o : HO} (a : BagAt H B) (hp : B ≠ p) : BagAt (upd H p o) B := by
  obtain ⟨x, y, z, h⟩ := a
  exact ⟨x, y, z, by rw [upd_ne hp]; exact h⟩
theorem BagAt.nn {B : Addr} {H : Hp} (a : BagAt H B) : H B ≠ none := by
  obtain ⟨x, y, z, h⟩ := a
  rw [h]
  exact fun q => nomatch q
theorem BagAt.ne {B p : Addr} {H : Hp} (a : BagAt H B) (hp : H p = none) : p ≠ B := fun e => a.nn (by rw [← e]; exact hp)
theorem at_nn {α : Type} {xs : List α} {r : Int} {v : α} (h0 : 0 ≤ r) (h : xs[r.toNat]? = some v) : atI xs r = some v := by
  obtain ⟨n, rfl⟩ := Int.eq_ofNat_of_zero_le h0
  exact atI_nat (by simpa using h)
/-! ### promises -/
def spStart (K : PySem.W.Frag) : Sp := fun vs H Q _ => ∃ (a : Addr) (ns : List Int), vs = [.ref a, .int 0] ∧ SqL K H a (ns.map V.int) ∧
  ∀ H' B, Same H H' → H B = none → BagAt H' B → Q (.ref B) H'
def spThrow : Sp := fun vs H Q _ => ∃ (B : Addr) (t : Int), vs = [.ref B, .int t] ∧ BagAt H B ∧ 0 < t ∧ t ≤ ten60 ∧
  ∀ r H', 0 ≤ r → r < t → SB B H H' → BagAt H' B → Q (.int r) H'
def spPickS : Sp := fun vs H Q _ => ∃ (B : Addr) (z : Str), vs = [.ref B, .str z] ∧ BagAt H B ∧ 0 < z.length ∧ z.length ≤ 100 ∧
  ∀ c H', SB B H H' → BagAt H' B → Q (.str ⟨#[c]⟩) H'
def spPickL : Sp := fun vs H Q _ => ∃ (B L : Addr) (ys : List Str), vs = [.ref B, .ref L] ∧ BagAt H B ∧ B ≠ L ∧ H L = some (.lst (ys.map V.str)) ∧ 0 < ys.length ∧ ys.length ≤ 100 ∧
  ∀ y H', y ∈ ys → SB B H H' → BagAt H' B → Q (.str y) H'
def spWords : Sp := fun vs H Q _ => vs = [] ∧ ∀ H' (L : Addr) (ys : List Str), Same H H' → H' L = some (.lst (ys.map V.str)) → Q (.ref L) H'
def spValue : Sp := fun vs H Q _ => ∃ B : Addr, vs = [.ref B] ∧ BagAt H B ∧ ∀ i H', SB B H H' → BagAt H' B → Q (.int i) H'
structure TxtA (mg : Str → Option Value) (fT : Addr) : Prop where
  len : mg "len" = none
  int : mg "int" = none
  abs : mg "abs" = none
  max : mg "max" = none
  thr : mg "_law_throw" = some (.ref fT)
section
variable {P : Program} {w : World} {K : PySem.W.Frag} {mg : Str → Option Value} {base : Heap} {fT : Addr}
theorem scStart : FnScope ["script", "at", "cell", "great", "mixed"] ["script", "at"] (defScope sStart) := ⟨rfl, rfl, rfl, by decide +kernel, rfl, by decide +kernel, by decide +kernel⟩
theorem ok_start {f : Addr} {fd : FuncData} (F : Fun K "_law_start" "_law_start" sStart f fd) (T : TxtA mg fT) : FnOk P w K mg base CX0 1 f fd ["script", "at"] (spStart K) := by
  refine F.ok scStart (fun vs H Q E h => ?_) (fun cdv A outer s H vs Q E hr h => ?_)
  · obtain ⟨a, ns, rfl, _⟩ := h
    rfl
  · obtain ⟨a, ns, rfl, hS, k⟩ := h
    refine ⟨_, pss_cons (ps_set (i := 2) scStart.nd rfl (Or.inl rfl) (pe_ifExp (pt_cmpR op_lt (pv 1) (pe_callB call_len_seq (by rfl) T.len PySem.boot_len (pa_cons (pv 0) pa_nil)) (nomark _))
        (pe_ix ix_list (pv 0) (pv 1) (fun _ _ => rfl)) (pe_op op_add (pe_op op_mul pe_int (pv 1)) pe_int)))
      (pss_cons (ps_set (i := 3) scStart.nd rfl (Or.inl rfl) (pe_op op_mod (pe_callTy call_int1 (by rfl) T.int (by decide +kernel) (pa_cons (pe_callB call_abs (by rfl) T.abs (by decide +kernel) (pa_cons (pv 2) pa_nil)) pa_nil))
        (pe_op op_powB (pe_op op_pow pe_int pe_int) pe_int)))
      (pss_cons (ps_set (i := 4) scStart.nd rfl (Or.inl rfl) (pe_op op_add (pe_op op_mul (pe_op op_mod (pe_callTy call_int1 (by rfl) T.int (by decide +kernel) (pa_cons (pv 3) pa_nil)) pe_int) pe_int)
        (pe_callTy call_int1 (by rfl) T.int (by decide +kernel) (pa_cons (pe_cmpR op_lt (pv 2) pe_int (nomark _)) pa_nil))))
      (pss_one (ps_ret (pe_lst (pa_cons (pe_callB (call_max2 rfl) (by rfl) T.max (by decide +kernel) (pa_cons pe_int (pa_cons (pe_op op_sub (pv 3) (pe_op op_pow pe_int pe_int)) pa_nil)))
        (pa_cons (pe_op op_mod (pe_callTy call_int1 (by rfl) T.int (by decide +kernel) (pa_cons (pe_op op_add (pe_op op_add (pe_op op_mul (pv 4) pe_int) (pe_op op_mul pe_int (pv 1))) pe_int) pa_nil)) pe_int)
        (pa_cons pe_int pa_nil)))))))), ?_⟩
    refine ⟨_, rfl, _, rfl, a, _, rfl, .inl hS, _, _, rfl, rfl, _, rfl, ?_⟩
    refine ite2 (fun c => ?_) (fun _ => ?_)
    · obtain ⟨n0, hn⟩ : ∃ n0 : Int, (ns.map V.int)[0]? = some (V.int n0) := by
        cases ns with
        | nil => exact absurd (of_decide_eq_true c) (by decide)
        | cons n r => exact ⟨n, rfl⟩
      refine ⟨_, rfl, _, rfl, a, _, _, _, rfl, rfl, hS, atI_nat (j := 0) hn, ?_⟩
      refine ⟨_, rfl, _, rfl, .inl ⟨_, rfl, _, _, rfl, rfl, ⟨by decide, by decide, by decide⟩, _, _, rfl, rfl, ⟨by decide, great_bits⟩, _, _, rfl, rfl, great_pos, ?_⟩⟩
      refine ⟨_, rfl, .inl ⟨_, rfl, _, _, rfl, rfl, (by show (0 : Int) < _; decide), _, _, rfl, rfl, .inr ⟨by decide, by decide⟩, _, rfl, _, _, rfl, rfl, .inr ⟨_, rfl, _, _, rfl, rfl, ?_⟩⟩⟩
      refine ⟨_, rfl, _, _, rfl, rfl, ⟨by decide, by decide, by decide⟩, _, _, rfl, rfl, _, _, rfl, _, rfl, _, _, rfl, rfl, .inr ⟨by decide, by decide⟩, _, rfl, _, _, rfl, rfl, .inl ⟨by decide, by decide⟩, _, _, rfl, rfl, _, _, rfl, rfl,
        .inl ⟨_, rfl, _, _, rfl, rfl, (by show (0 : Int) < _; decide), (by show 3 ≤ sizeLine; decide), fun l hl => ?_⟩⟩
      exact k _ l (fun b o e => by rw [upd_ne (ne_of_none e hl)]; exact e) hl ⟨_, _, _, upd_same⟩
    · refine ⟨_, rfl, _, _, rfl, rfl, .inl ⟨by decide, by decide⟩, _, _, rfl, rfl, ?_⟩
      refine ⟨_, rfl, _, rfl, .inl ⟨_, rfl, _, _, rfl, rfl, ⟨by decide, by decide, by decide⟩, _, _, rfl, rfl, ⟨by decide, great_bits⟩, _, _, rfl, rfl, great_pos, ?_⟩⟩
      refine ⟨_, rfl, .inl ⟨_, rfl, _, _, rfl, rfl, (by show (0 : Int) < _; decide), _, _, rfl, rfl, .inr ⟨by decide, by decide⟩, _, rfl, _, _, rfl, rfl, .inr ⟨_, rfl, _, _, rfl, rfl, ?_⟩⟩⟩
      refine ⟨_, rfl, _, _, rfl, rfl, ⟨by decide, by decide, by decide⟩, _, _, rfl, rfl, _, _, rfl, _, rfl, _, _, rfl, rfl, .inr ⟨by decide, by decide⟩, _, rfl, _, _, rfl, rfl, .inl ⟨by decide, by decide⟩, _, _, rfl, rfl, _, _, rfl, rfl,
        .inl ⟨_, rfl, _, _, rfl, rfl, (by show (0 : Int) < _; decide), (by show 3 ≤ sizeLine; decide), fun l hl => ?_⟩⟩
      exact k _ l (fun b o e => by rw [upd_ne (ne_of_none e hl)]; exact e) hl ⟨_, _, _, upd_same⟩
theorem scThrow : FnScope ["bag", "total", "found", "one", "two", "three"] ["bag", "total"] (defScope sThrow) := ⟨rfl, rfl, rfl, by decide +kernel, rfl, by decide +kernel, by decide +kernel⟩
theorem ok_throw {f : Addr} {fd : FuncData} (F : Fun K "_law_throw" "_law_throw" sThrow f fd) (T : TxtA mg fT) : FnOk P w K mg base CX0 1 f fd ["bag", "total"] spThrow := by
  refine F.ok scThrow (fun vs H Q E h => ?_) (fun cdv A outer s H vs Q E hr h => ?_)
  · obtain ⟨B, t, rfl, _⟩ := h
    rfl
  · obtain ⟨B, t, rfl, ⟨x, y, z, hB⟩, h0, ht, k⟩ := h
    refine ⟨_, pss_cons (ps_if (pt_cmpR op_gt (pe_ix ix_list (pv 0) pe_int (fun _ _ => rfl)) pe_int (nomark _))
        (pss_cons (ps_set (i := 2) scThrow.nd rfl (Or.inl rfl) (pe_op op_mod (pe_callTy call_int1 (by rfl) T.int (by decide +kernel) (pa_cons (pe_ix ix_list (pv 0) pe_int (fun _ _ => rfl)) pa_nil)) (pv 1)))
        (pss_cons (ps_asg (pe_op op_fdivW (pe_ix ix_list (pv 0) pe_int (fun _ _ => rfl)) (pv 1)) (pg_sub (pv 0) pe_int set_list))
        (pss_one (ps_ret (pv 2))))) pss_nil)
      (pss_cons (ps_asg (pe_op op_add (pe_ix ix_list (pv 0) pe_int (fun _ _ => rfl)) pe_int) (pg_sub (pv 0) pe_int set_list))
      (pss_cons (ps_set (i := 3) scThrow.nd rfl (Or.inl rfl) (pe_op op_mod (pe_callTy call_int1 (by rfl) T.int (by decide +kernel) (pa_cons (pe_op op_add (pe_ix ix_list (pv 0) pe_int (fun _ _ => rfl)) (pe_op op_mul pe_int (pe_ix ix_list (pv 0) pe_int (fun _ _ => rfl)))) pa_nil)) pe_int))
      (pss_cons (ps_set (i := 4) scThrow.nd rfl (Or.inl rfl) (pe_op op_mod (pe_callTy call_int1 (by rfl) T.int (by decide +kernel) (pa_cons (pe_op op_add (pe_op op_mul (pv 3) (pv 3)) (pe_op op_mul pe_int (pe_ix ix_list (pv 0) pe_int (fun _ _ => rfl)))) pa_nil)) pe_int))
      (pss_cons (ps_set (i := 5) scThrow.nd rfl (Or.inl rfl) (pe_op op_mod (pe_callTy call_int1 (by rfl) T.int (by decide +kernel) (pa_cons (pe_op op_add (pe_op op_mul (pv 4) (pv 3)) pe_int) pa_nil)) pe_int))
      (pss_one (ps_ret (pe_op op_mod (pe_callTy call_int1 (by rfl) T.int (by decide +kernel) (pa_cons (pe_op op_fdiv (pv 5) pe_int) pa_nil)) (pv 1)))))))), ?_⟩
    refine ⟨_, rfl, B, _, _, _, rfl, rfl, SqL.of hB, atI_nat (j := 0) rfl, _, _, rfl, rfl, _, rfl, ?_⟩
    refine ite2 (fun c => ?_) (fun _ => ?_)
    · refine ⟨_, rfl, B, _, _, _, rfl, rfl, SqL.of hB, atI_nat (j := 0) rfl, .inl ⟨_, rfl, _, rfl, _, _, rfl, rfl, h0, ?_⟩⟩
      refine ⟨_, rfl, B, _, _, _, rfl, rfl, SqL.of hB, atI_nat (j := 0) rfl, _, rfl, _, _, rfl, rfl, ⟨h0, log_of h0 ht⟩, _, rfl, B, _, _, 0, rfl, rfl, hB, rfl, ?_⟩
      refine ⟨_, rfl, ?_⟩
      exact k _ _ (Int.emod_nonneg _ (by omega)) (Int.emod_lt_of_pos _ h0) (SB.refl _ _).upd ⟨_, _, _, upd_same⟩
    · refine ⟨_, rfl, B, _, _, _, rfl, rfl, SqL.of hB, atI_nat (j := 2) rfl, _, _, rfl, rfl, _, rfl, B, _, _, 2, rfl, rfl, hB, rfl, ?_⟩
      refine ⟨_, rfl, B, _, _, _, rfl, rfl, SqL.of upd_same, atI_nat (j := 1) rfl, _, rfl, B, _, _, _, rfl, rfl, SqL.of upd_same, atI_nat (j := 2) rfl, _, _, rfl, rfl, .inl ⟨by decide, by decide⟩, _, _, rfl, rfl,
        .inl ⟨_, rfl, _, _, rfl, rfl, (by show (0 : Int) < _; decide), ?_⟩⟩
      refine ⟨_, rfl, _, rfl, _, _, rfl, rfl, .inl (modA _), _, rfl, B, _, _, _, rfl, rfl, SqL.of upd_same, atI_nat (j := 2) rfl, _, _, rfl, rfl, .inl ⟨by decide, by decide⟩, _, _, rfl, rfl,
        .inl ⟨_, rfl, _, _, rfl, rfl, (by show (0 : Int) < _; decide), ?_⟩⟩
      refine ⟨_, rfl, _, rfl, _, _, rfl, rfl, .inl (modB _), _, _, rfl, rfl, .inl ⟨_, rfl, _, _, rfl, rfl, (by show (0 : Int) < _; decide), ?_⟩⟩
      refine ⟨_, rfl, _, _, rfl, rfl, ⟨by decide, by decide⟩, .inl ⟨_, rfl, _, rfl, _, _, rfl, rfl, h0, ?_⟩⟩
      exact k _ _ (Int.emod_nonneg _ (by omega)) (Int.emod_lt_of_pos _ h0) (SB.refl _ _).upd ⟨_, _, _, upd_same⟩
theorem scPick : FnScope ["bag", "items"] ["bag", "items"] (defScope sPick) := ⟨rfl, rfl, rfl, by decide +kernel, rfl, by decide +kernel, by decide +kernel⟩
theorem ok_pickS {f : Addr} {fd fdT : FuncData} (F : Fun K "_law_pick" "_law_pick" sPick f fd) (T : TxtA mg fT) (FT : Fun K "_law_throw" "_law_throw" sThrow fT fdT) (bT : Binds K fdT ["bag", "total"] []) :
    FnOk P w K mg base CX0 2 f fd ["bag", "items"] spPickS := by
  have G : FnOk P w K mg base CX0 1 fT fdT ["bag", "total"] spThrow := ok_throw FT T
  refine F.ok scPick (fun vs H Q E h => ?_) (fun cdv A outer s H vs Q E hr h => ?_)
  · obtain ⟨B, z, rfl, _⟩ := h
    rfl
  · obtain ⟨B, z, rfl, hB, h0, h1, k⟩ := h
    have hz : z.length ≤ sizeLine := Nat.le_of_lt (small1000 (by omega))
    refine ⟨_, pss_one (ps_ret (pe_ix ix_str (pv 1) (pe_call G hr rfl T.thr FT.kp bT .nil pass0 (pa_cons (pv 0) (pa_cons (pe_callB call_len_str (by rfl) T.len PySem.boot_len (pa_cons (pv 1) pa_nil)) pa_nil))) (fun _ _ => rfl))), ?_⟩
    refine ⟨_, rfl, _, rfl, _, rfl, z, rfl, hz, B, _, rfl, hB, by omega, ?_, fun r H' r0 r1 sb hB' => ?_⟩
    · exact Int.le_trans (by omega : (z.length : Int) ≤ 100) (by decide +kernel)
    · have hlt : r.toNat < z.cps.toList.length := by
        have e : z.cps.toList.length = z.length := by simp [Str.length]
        omega
      refine ⟨z, r, _, rfl, rfl, hz, ?_, k (z.cps.toList[r.toNat]'hlt) H' sb hB'⟩
      exact at_nn r0 (by simp [hlt])
theorem ok_pickL {f : Addr} {fd fdT : FuncData} (F : Fun K "_law_pick" "_law_pick" sPick f fd) (T : TxtA mg fT) (FT : Fun K "_law_throw" "_law_throw" sThrow fT fdT) (bT : Binds K fdT ["bag", "total"] []) :
    FnOk P w K mg base CX0 2 f fd ["bag", "items"] spPickL := by
  have G : FnOk P w K mg base CX0 1 fT fdT ["bag", "total"] spThrow := ok_throw FT T
  refine F.ok scPick (fun vs H Q E h => ?_) (fun cdv A outer s H vs Q E hr h => ?_)
  · obtain ⟨B, L, ys, rfl, _⟩ := h
    rfl
  · obtain ⟨B, L, ys, rfl, hB, nBL, hL, h0, h1, k⟩ := h
    refine ⟨_, pss_one (ps_ret (pe_ix ix_list (pv 1) (pe_call G hr rfl T.thr FT.kp bT .nil pass0 (pa_cons (pv 0) (pa_cons (pe_callB call_len_seq (by rfl) T.len PySem.boot_len (pa_cons (pv 1) pa_nil)) pa_nil))) (fun _ _ => rfl))), ?_⟩
    have el : (ys.map V.str).length = ys.length := List.length_map _
    refine ⟨_, rfl, _, rfl, _, rfl, L, _, rfl, .inl (SqL.of hL), B, _, rfl, hB, by omega, ?_, fun r H' r0 r1 sb hB' => ?_⟩
    · exact Int.le_trans (by omega : ((ys.map V.str).length : Int) ≤ 100) (by decide +kernel)
    · have hlt : r.toNat < ys.length := by omega
      refine ⟨L, _, r, _, rfl, rfl, SqL.of (sb _ _ nBL.symm hL), ?_, k (ys[r.toNat]'hlt) H' (List.getElem_mem _) sb hB'⟩
      exact at_nn r0 (by simp [hlt])
theorem scWords : FnScope ["words"] [] (defScope sWords) := ⟨rfl, rfl, rfl, by decide +kernel, rfl, by decide +kernel, by decide +kernel⟩
theorem ok_words {f : Addr} {fd : FuncData} (F : Fun K "_law_words" "_law_words" sWords f fd) : FnOk P w K mg base CX0 1 f fd [] spWords := by
  refine F.ok scWords (fun vs H Q E h => ?_) (fun cdv A outer s H vs Q E hr h => ?_)
  · obtain ⟨rfl, _⟩ := h
    rfl
  · obtain ⟨rfl, k⟩ := h
    refine ⟨_, pss_cons (ps_set (i := 0) scWords.nd rfl (Or.inl rfl) (pe_lst (pa_cons pe_str (pa_cons pe_str (pa_cons pe_str (pa_cons pe_str (pa_cons pe_str (pa_cons pe_str (pa_cons pe_str (pa_cons pe_str (pa_cons pe_str (pa_cons pe_str (pa_cons pe_str (pa_cons pe_str (pa_cons pe_str pa_nil))))))))))))))) (pss_one (ps_ret (pe_op op_cat (pv 0) (pe_lst (pa_cons pe_str (pa_cons pe_str (pa_cons pe_str (pa_cons pe_str (pa_cons pe_str (pa_cons pe_str (pa_cons pe_str (pa_cons pe_str (pa_cons pe_str (pa_cons pe_str pa_nil)))))))))))))), ?_⟩
    refine ⟨by show 13 ≤ sizeLine; decide, fun l hl => ?_⟩
    refine ⟨_, rfl, by show 10 ≤ sizeLine; decide, fun m hm => ?_⟩
    have hlm : l ≠ m := fun e => by
      rw [e] at hm
      rw [← e, upd_same] at hm
      cases hm
    refine ⟨l, m, _, _, rfl, rfl, (upd_ne hlm).trans upd_same, upd_same, ?_, fun p hp => ?_⟩
    · show 13 + 10 ≤ sizeLine
      decide
    · refine k _ p [_, _, _, _, _, _, _, _, _, _, _, _, _, _, _, _, _, _, _, _, _, _, _] (fun b o e => ?_) upd_same
      have hm' : H m = none := by
        rw [upd_ne (Ne.symm hlm)] at hm
        exact hm
      have hpl : p ≠ l := fun z => by
        rw [z, upd_ne hlm, upd_same] at hp
        cases hp
      have hpm : p ≠ m := fun z => by
        rw [z, upd_same] at hp
        cases hp
      have hp' : H p = none := by
        rw [upd_ne hpm, upd_ne hpl] at hp
        exact hp
      rw [upd_ne (ne_of_none e hp'), upd_ne (ne_of_none e hm'), upd_ne (ne_of_none e hl)]
      exact e
theorem scValue : FnScope ["bag", "way"] ["bag"] (defScope sValue) := ⟨rfl, rfl, rfl, by decide +kernel, rfl, by decide +kernel, by decide +kernel⟩
theorem ok_value {f : Addr} {fd fdT : FuncData} (F : Fun K "_law_value" "_law_value" sValue f fd) (T : TxtA mg fT) (FT : Fun K "_law_throw" "_law_throw" sThrow fT fdT) (bT : Binds K fdT ["bag", "total"] []) :
    FnOk P w K mg base CX0 2 f fd ["bag"] spValue := by
  have G : FnOk P w K mg base CX0 1 fT fdT ["bag", "total"] spThrow := ok_throw FT T
  refine F.ok scValue (fun vs H Q E h => ?_) (fun cdv A outer s H vs Q E hr h => ?_)
  · obtain ⟨B, rfl, _⟩ := h
    rfl
  · obtain ⟨B, rfl, hB, k⟩ := h
    refine ⟨_, pss_cons (ps_set (i := 1) scValue.nd rfl (Or.inl rfl) (pe_call G hr rfl T.thr FT.kp bT .nil pass0 (pa_cons (pv 0) (pa_cons pe_int pa_nil))))
      (pss_cons (ps_if (pt_cmpR op_lt (pv 1) pe_int (nomark _)) (pss_one (ps_ret (pe_call G hr rfl T.thr FT.kp bT .nil pass0 (pa_cons (pv 0) (pa_cons pe_int pa_nil))))) pss_nil)
      (pss_cons (ps_if (pt_cmpR op_eq (pv 1) pe_int (nomark _)) (pss_one (ps_ret (pe_op op_sub (pe_un un_neg pe_int) (pe_call G hr rfl T.thr FT.kp bT .nil pass0 (pa_cons (pv 0) (pa_cons pe_int pa_nil)))))) pss_nil)
      (pss_one (ps_ret (pe_op op_mul (pe_call G hr rfl T.thr FT.kp bT .nil pass0 (pa_cons (pv 0) (pa_cons (pe_op op_pow pe_int pe_int) pa_nil))) (pe_op op_sub pe_int (pe_op op_mul pe_int (pv 1)))))))), ?_⟩
    refine ⟨_, rfl, B, _, rfl, hB, by decide, by decide +kernel, fun r H1 r0 r1 s1 b1 => ?_⟩
    refine ⟨_, rfl, _, _, rfl, rfl, _, rfl, ?_⟩
    refine ite2 (fun _ => ?_) (fun _ => ?_)
    · exact ⟨_, rfl, B, _, rfl, b1, by decide, by decide +kernel, fun q H2 _ _ s2 b2 => k _ _ (s1.trans s2) b2⟩
    · refine ⟨_, rfl, rfl, _, rfl, ?_⟩
      refine ite2 (fun _ => ?_) (fun _ => ?_)
      · exact ⟨_, rfl, _, rfl, B, _, rfl, b1, by decide, by decide +kernel, fun q H2 _ _ s2 b2 => ⟨_, _, rfl, rfl, k _ _ (s1.trans s2) b2⟩⟩
      · refine ⟨_, rfl, _, _, rfl, rfl, ⟨by decide, by decide, by decide⟩, B, _, rfl, b1, by decide +kernel, by decide +kernel, fun q H2 _ _ s2 b2 => ?_⟩
        refine ⟨_, rfl, _, _, rfl, rfl, .inl ⟨by decide, by decide⟩, _, _, rfl, rfl, _, _, rfl, rfl, .inr ⟨by omega, by omega⟩, k _ _ (s1.trans s2) b2⟩
end
end K00

set_option Elab.async false
set_option linter.all false
set_option maxRecDepth 100000
set_option maxHeartbeats 4000000
namespace K00
open PySem L2
def spName : Sp := fun vs H Q _ => ∃ B L : Addr, vs = [.ref B, .ref L] ∧ BagAt H B ∧ H L = some (.lst []) ∧ ∀ z H', SB B H H' → BagAt H' B → Q (.str z) H'
structure TxtB (mg : Str → Option Value) (fT fP fW : Addr) : Prop extends TxtA mg fT where
  range : mg "range" = none
  pick : mg "_law_pick" = some (.ref fP)
  wrds : mg "_law_words" = some (.ref fW)
theorem bag_ne {B L : Addr} {H : Hp} {ys : List Str} (b : BagAt H B) (h : H L = some (.lst (ys.map V.str))) : B ≠ L := by
  obtain ⟨x, y, z, hb⟩ := b
  intro e
  rw [← e, hb] at h
  cases ys with
  | nil => cases h
  | cons a r => cases h
theorem flat_strs (ys : List Str) : (ys.map V.str).all flatV = true := by
  rw [List.all_eq_true]
  intro v hv
  obtain ⟨y, _, rfl⟩ := List.mem_map.mp hv
  rfl
theorem sum_ones : ∀ {ys : List Str}, (∀ y ∈ ys, y.length = 1) → (ys.map (·.length)).sum = ys.length
  | [], _ => rfl
  | a :: r, h => by
    rw [List.map_cons, List.sum_cons, List.length_cons, sum_ones (fun y hy => h y (List.mem_cons_of_mem _ hy)), h a (List.mem_cons_self ..)]
    omega
theorem join_len : ∀ {ys : List Str}, (∀ y ∈ ys, y.length = 1) → (Txt.join (Str.ofString "") ys).length = ys.length := by
  intro ys h
  rw [show Txt.join (Str.ofString "") ys = Str.join (Str.ofString "") ys from StrLaws.glued_eq_join _ _]
  induction ys with
  | nil => rfl
  | cons a r ih =>
    have ha := h a (List.mem_cons_self ..)
    have ih' := ih fun y hy => h y (List.mem_cons_of_mem _ hy)
    cases r with
    | nil => exact ha
    | cons b r =>
      show (a ++ Str.ofString "" ++ Str.join (Str.ofString "") (b :: r)).length = _
      rw [Str.length_append, Str.length_append, ih', ha]
      show 1 + 0 + (b :: r).length = (b :: r).length + 1
      omega
section
variable {P : Program} {w : World} {K : PySem.W.Frag} {mg : Str → Option Value} {base : Heap} {fT fP fW : Addr}
abbrev nName : List Str := ["bag", "known", "alphabet", "signs", "text", "name", "turn", "sign"]
theorem scName : FnScope nName ["bag", "known"] (defScope sName) := ⟨rfl, rfl, rfl, by decide +kernel, rfl, by decide +kernel, by decide +kernel⟩
theorem ok_name {f : Addr} {fd fdT fdP fdW : FuncData} (F : Fun K "_law_name" "_law_name" sName f fd) (T : TxtB mg fT fP fW) (FT : Fun K "_law_throw" "_law_throw" sThrow fT fdT) (bT : Binds K fdT ["bag", "total"] [])
    (FP : Fun K "_law_pick" "_law_pick" sPick fP fdP) (bP : Binds K fdP ["bag", "items"] []) (FW : Fun K "_law_words" "_law_words" sWords fW fdW) (bW : Binds K fdW [] []) :
    FnOk P w K mg base CX0 3 f fd ["bag", "known"] spName := by
  have GT : FnOk P w K mg base CX0 1 fT fdT ["bag", "total"] spThrow := ok_throw FT T.toTxtA
  have GS : FnOk P w K mg base CX0 2 fP fdP ["bag", "items"] spPickS := ok_pickS FP T.toTxtA FT bT
  have GL : FnOk P w K mg base CX0 2 fP fdP ["bag", "items"] spPickL := ok_pickL FP T.toTxtA FT bT
  have GW : FnOk P w K mg base CX0 1 fW fdW [] spWords := ok_words FW
  refine F.ok scName (fun vs H Q E h => ?_) (fun cdv A outer s H vs Q E hr h => ?_)
  · obtain ⟨B, L, rfl, _⟩ := h
    rfl
  · obtain ⟨B, L, rfl, hB, hL, k⟩ := h
    have hr1 : Room 1 _ := hr.mono (by decide)
    refine ⟨_, pss_cons (ps_set (i := 2) scName.nd rfl (Or.inl rfl) pe_str)
      (pss_cons (ps_set (i := 3) scName.nd rfl (Or.inr rfl) (pe_call GL hr rfl T.pick FP.kp bP .nil pass0 (pa_cons (pv 0) (pa_cons (pe_lst (pa_cons (pv 2) (pa_cons pe_str (pa_cons pe_str pa_nil)))) pa_nil))))
      (pss_cons (ps_set (i := 4) scName.nd rfl (Or.inr rfl) (pe_join pe_str (pe_lc (own := [("turn", 6)]) (g := gName 6) (tt := tYes) rfl scName.nd
          (pi_range1 rfl T.range (pa_cons (pe_op op_add pe_int (pe_call GT hr1 rfl T.thr FT.kp bT .nil pass0 (pa_cons (pv 0) (pa_cons pe_int pa_nil)))) pa_nil))
          (blkOk_by (N := nName) (sc := defScope sName) (by decide +kernel)) (fun _ _ _ _ _ => pg_name (i := 6) scName.nd rfl (Or.inl rfl)) (fun _ _ _ _ _ => pts_nil)
          (fun _ _ _ _ _ => pe_call GS hr rfl T.pick FP.kp bP .nil pass0 (pa_cons (pv 0) (pa_cons (pv 3) pa_nil))))))
      (pss_cons (ps_for PassesOwn.never rfl (pi_list (pe_op op_cat (pe_lst (pa_cons (pv 4) pa_nil)) (pe_lc (own := [("sign", 7)]) (g := gName 7) (tt := tYes) rfl scName.nd (pi_str (pv 2))
          (blkOk_by (N := nName) (sc := defScope sName) (by decide +kernel)) (fun _ _ _ _ _ => pg_name (i := 7) scName.nd rfl (Or.inl rfl)) (fun _ _ _ _ _ => pts_nil)
          (fun _ _ _ _ _ => pe_op op_add_str (pe_slice sl_str (pv 4) po_none (po_some pe_int)) (pv 7))))) (pg_name (i := 5) scName.nd rfl (Or.inl rfl))
        (pss_one (ps_if (PW.pt (pw_and (pt_cmpR op_notIn_seq (pv 5) (pv 1) (by rfl)) (pw_and1 (pt_cmpR op_notIn_seq (pv 5) (pe_call0 GW hr1 rfl T.wrds FW.kp bW .nil pass0) (by rfl))))) (pss_one (ps_ret (pv 5))) pss_nil)))
      (pss_one (ps_ret pe_str))))), ?_⟩
    -- signs
    refine ⟨_, rfl, _, rfl, by show 3 ≤ sizeLine; decide, fun l hl => ?_⟩
    refine ⟨B, l, [_, _, _], rfl, hB.new hl, (hB.ne hl).symm, upd_same, by decide, by decide, fun y H1 hy s1 b1 => ?_⟩
    have hy2 : 0 < y.length ∧ y.length ≤ 100 := by
      simp only [List.mem_cons, List.not_mem_nil, or_false] at hy
      rcases hy with rfl | rfl | rfl <;> decide
    have s1' : SB B H H1 := fun b o n e => s1 b o n (by rw [upd_ne (ne_of_none e hl)]; exact e)
    -- text
    refine ⟨⟨_, rfl⟩, _, rfl, B, _, rfl, b1, by decide, by decide +kernel, fun r H2 r0 r1 s2 b2 => ?_⟩
    refine ⟨_, _, rfl, rfl, _, rfl, by omega, by omega, fun D hD => ?_⟩
    refine lc_range (lo := 0) (n := _) (fun i H' => SB B H2 H' ∧ BagAt H' B ∧ ∃ ys : List Str, ys.length = i ∧ (∀ z ∈ ys, z.length = 1) ∧ H' D = some (.lst (ys.map V.str)))
      ⟨(SB.refl B H2).new hD, b2.new hD, [], rfl, (fun z h => by cases h), upd_same⟩ ?_ ?_
    · rintro i H' hi ⟨sb, bg, ys, el, e1, hD'⟩
      refine ⟨rfl, ?_⟩
      refine ⟨_, rfl, _, rfl, B, y, rfl, bg, hy2.1, hy2.2, fun c H3 s3 b3 => ?_⟩
      have nDB : D ≠ B := (b2.ne hD)
      refine ⟨_, s3 _ _ nDB hD', ?_, ?_⟩
      · rw [List.length_map, el]
        exact small1000 (by omega)
      · refine ⟨(sb.trans s3).own hD, b3.other nDB.symm, ys ++ [⟨#[c]⟩], by simp [el], fun z hz => ?_, ?_⟩
        · rcases List.mem_append.mp hz with q | q
          · exact e1 z q
          · rw [List.mem_singleton.mp q] <;> rfl
        · rw [upd_same, List.map_append] <;> rfl
    · rintro H3 ⟨s3, b3, ys, el, e1, hD3⟩
      have el9 : ys.length ≤ 9 := by omega
      have zl : (ys.map (·.length)).sum + ys.length * (Str.ofString "").length ≤ 16777216 := by
        rw [sum_ones e1]
        show ys.length + ys.length * 0 ≤ 16777216
        omega
      refine ⟨_, D, ys, rfl, rfl, .inl (SqL.of hD3), zl, ?_⟩
      have tl : (Txt.join (Str.ofString "") ys).length ≤ 9 := by
        rw [join_len e1]
        exact el9
      generalize ht : Txt.join (Str.ofString "") ys = text at tl
      have tz : text.length ≤ sizeLine := Nat.le_of_lt (small1000 (by omega))
      -- the words tried
      refine ⟨_, rfl, by show 1 ≤ sizeLine; decide, fun m hm => ?_⟩
      refine ⟨_, rfl, _, rfl, fun D2 hD2 => ?_⟩
      have nm2 : m ≠ D2 := fun e => by
        rw [← e, upd_same] at hD2
        cases hD2
      have hD2' : H3 D2 = none := by
        rw [upd_ne nm2.symm] at hD2
        exact hD2
      refine lc_it walk_str (fun i H' => ∃ zs : List Str, zs.length = i ∧ H' = upd (upd H3 m (.lst [.str text])) D2 (.lst (zs.map V.str))) ⟨[], rfl, rfl⟩ (fun _ _ _ _ => trivial) ?_ ?_
      · rintro i x H4 H5 hi ⟨zs, el, rfl⟩ ⟨rfl, c, hc, rfl⟩
        have hi26 : i < 26 := hi
        refine ⟨rfl, ?_⟩
        refine ⟨_, rfl, _, rfl, text, rfl, tz, _, rfl, _, _, rfl, rfl, ?_, _, upd_same, ?_, ?_⟩
        · refine Nat.le_trans (Nat.add_le_add_right (cutS_length _ _ _) _) ?_
          exact Nat.le_of_lt (small1000 (by show text.length + 1 ≤ 1000; omega))
        · rw [List.length_map, el]
          exact small1000 (by omega)
        · refine ⟨zs ++ [cutS text none (some 7) ++ ⟨#[c]⟩], by simp [el], ?_⟩
          rw [upd_upd, List.map_append]
          rfl
      · rintro H4 ⟨zs, el, rfl⟩
        have elz : zs.length = 26 := el
        refine ⟨m, D2, _, _, rfl, rfl, (upd_ne nm2).trans upd_same, upd_same, ?_, fun p hp => ?_⟩
        · rw [List.length_map, elz]
          show 1 + 26 ≤ sizeLine
          decide
        have npD : p ≠ D2 := fun e => by
          rw [e, upd_same] at hp
          cases hp
        have npm : p ≠ m := fun e => by
          rw [upd_ne npD, e, upd_same] at hp
          cases hp
        have hp3 : H3 p = none := by
          rw [upd_ne npD, upd_ne npm] at hp
          exact hp
        have nBm := b3.ne hm
        have nBD := b3.ne hD2'
        have nBp := b3.ne hp3
        have nL : B ≠ L := bag_ne (ys := []) hB hL
        have sAll : SB B H3 (upd (upd (upd H3 m (.lst [.str text])) D2 (.lst (zs.map V.str))) p (.lst ([V.str text] ++ zs.map V.str))) :=
          (((SB.refl B H3).new hm).new hD2).new hp
        have s3' : SB B H H3 := s1'.trans (s2.trans s3)
        have bAll : BagAt (upd (upd (upd H3 m (.lst [.str text])) D2 (.lst (zs.map V.str))) p (.lst ([V.str text] ++ zs.map V.str))) B :=
          ((b3.new hm).new hD2).new hp
        generalize hH : upd (upd (upd H3 m (.lst [.str text])) D2 (.lst (zs.map V.str))) p (.lst ([V.str text] ++ zs.map V.str)) = H9 at sAll bAll
        have hp9 : H9 p = some (.lst ((text :: zs).map V.str)) := by
          rw [← hH, upd_same]
          rfl
        refine ⟨p, rfl, ⟨_, SqL.of hp9⟩, ?_⟩
        refine for_list (K := K) (a := p) (xs := (text :: zs).map V.str) (fun i σ H' => ∃ v : Option V, σ = [some (.ref B), some (.ref L), some (.str _), some (.str y), some (.str text), v, none, none] ∧ SB B H9 H' ∧ BagAt H' B)
          ⟨none, rfl, SB.refl B H9, bAll⟩ (fun i σ H' _ ⟨_, _, sb, _⟩ => SqL.of (sb _ _ nBp hp9)) ?_ ?_
        · rintro i x σ H' hi ⟨v, rfl, sb, bg⟩
          obtain ⟨z, rfl⟩ : ∃ z : Str, x = V.str z := by
            rw [List.getElem?_map] at hi
            cases e : (text :: zs)[i]? with
            | none =>
              rw [e] at hi
              cases hi
            | some z =>
              rw [e] at hi
              exact ⟨z, (Option.some.inj hi).symm⟩
          have hL' : H' L = some (.lst []) := (s3'.trans (sAll.trans sb)) _ _ nL.symm hL
          refine ⟨_, rfl, _, rfl, L, [], rfl, .inl (SqL.of hL'), rfl, rfl, _, rfl, ?_⟩
          refine ⟨_, rfl, rfl, fun H7 l7 ys7 same hl7 => ⟨l7, _, rfl, .inl (SqL.of hl7), rfl, flat_strs _, _, rfl, ?_⟩⟩
          refine ite2 (fun _ => ?_) (fun _ => ?_)
          · refine ⟨_, rfl, k _ _ (s3'.trans (sAll.trans (sb.trans (SB.of same)))) ?_⟩
            obtain ⟨a1, a2, a3, q⟩ := bg
            exact ⟨a1, a2, a3, same _ _ q⟩
          · refine ⟨_, rfl, sb.trans (SB.of same), ?_⟩
            obtain ⟨a1, a2, a3, q⟩ := bg
            exact ⟨a1, a2, a3, same _ _ q⟩
        · rintro σ H' ⟨v, rfl, sb, bg⟩
          exact k _ _ (s3'.trans (sAll.trans sb)) bg
end
end K00

set_option Elab.async false
set_option linter.all false
set_option maxRecDepth 100000
set_option maxHeartbeats 4000000
namespace K00
open PySem L2
/-- None, a truth, an integer, a text, () -/
def Flat (H : Hp) (x : V) : Prop := x = .non ∨ (∃ b, x = .bl b) ∨ (∃ i, x = .int i) ∨ (∃ z, x = .str z) ∨ ∃ t, x = .ref t ∧ H t = some (.tup [])
/-- .. or a pair of such, d deep -/
def Shape : Nat → Hp → V → Prop
  | 0, H, x => Flat H x
  | d + 1, H, x => Flat H x ∨ ∃ t u v, x = .ref t ∧ H t = some (.tup [u, v]) ∧ Shape d H u ∧ Shape d H v
theorem Flat.mono {H H' : Hp} (k : ∀ t xs, H t = some (.tup xs) → H' t = some (.tup xs)) {x : V} (h : Flat H x) : Flat H' x := by
  rcases h with h | h | h | h | ⟨t, e, h⟩
  · exact .inl h
  · exact .inr (.inl h)
  · exact .inr (.inr (.inl h))
  · exact .inr (.inr (.inr (.inl h)))
  · exact .inr (.inr (.inr (.inr ⟨t, e, k _ _ h⟩)))
theorem Shape.mono {H H' : Hp} (k : ∀ t xs, H t = some (.tup xs) → H' t = some (.tup xs)) : ∀ {d : Nat} {x : V}, Shape d H x → Shape d H' x
  | 0, _, h => Flat.mono k h
  | d + 1, _, h => by
    rcases h with h | ⟨t, u, v, e, h, hu, hv⟩
    · exact .inl (h.mono k)
    · exact .inr ⟨t, u, v, e, k _ _ h, Shape.mono k hu, Shape.mono k hv⟩
theorem Shape.flat {H : Hp} {x : V} (h : Flat H x) : ∀ d, Shape d H x
  | 0 => h
  | _ + 1 => .inl h
theorem SB.tups {B : Addr} {H H' : Hp} (s : SB B H H') (b : BagAt H B) : ∀ t xs, H t = some (.tup xs) → H' t = some (.tup xs) := fun t xs e => by
  obtain ⟨x, y, z, hb⟩ := b
  exact s _ _ (ne_of e hb (by intro q; cases q)) e
def spAny (d : Nat) : Sp := fun vs H Q _ => ∃ (B : Addr) (n : Int), vs = [.ref B, .int n] ∧ n = (d : Int) ∧ BagAt H B ∧ ∀ v H', SB B H H' → BagAt H' B → Shape d H' v → Q v H'
structure TxtC (mg : Str → Option Value) (fT fP fW fN fV fA fS : Addr) : Prop extends TxtB mg fT fP fW where
  name : mg "_law_name" = some (.ref fN)
  valu : mg "_law_value" = some (.ref fV)
  any : mg "_law_any" = some (.ref fA)
  same : mg "_law_same" = some (.ref fS)
  isin : mg "isinstance" = none
  tup : mg "tuple" = none
  all : mg "all" = none
  bool : mg "bool" = none
  str : mg "str" = none
section
variable {P : Program} {w : World} {K : PySem.W.Frag} {mg : Str → Option Value} {base : Heap} {fT fP fW fN fV fA fS : Addr}
/-- the defs that they call, as they stand -/
structure Defs (K : PySem.W.Frag) (fT fP fW fN fV fA : Addr) (dT dP dW dN dV dA : FuncData) : Prop where
  T : Fun K "_law_throw" "_law_throw" sThrow fT dT
  bT : Binds K dT ["bag", "total"] []
  P : Fun K "_law_pick" "_law_pick" sPick fP dP
  bP : Binds K dP ["bag", "items"] []
  W : Fun K "_law_words" "_law_words" sWords fW dW
  bW : Binds K dW [] []
  N : Fun K "_law_name" "_law_name" sName fN dN
  bN : Binds K dN ["bag", "known"] []
  V : Fun K "_law_value" "_law_value" sValue fV dV
  bV : Binds K dV ["bag"] []
  A : Fun K "_law_any" "_law_any" sAny fA dA
  bA : Binds K dA ["bag", "depth"] []
theorem scAny : FnScope ["bag", "depth", "way"] ["bag", "depth"] (defScope sAny) := ⟨rfl, rfl, rfl, by decide +kernel, rfl, by decide +kernel, by decide +kernel⟩
/-- one of the six -/
theorem six {r : Int} (h0 : 0 ≤ r) (h : r < 6) {i : Int} {z : Str} {t : Addr} {H : Hp} (ht : H t = some (.tup [])) :
    ∃ v, atI [V.non, .bl true, .bl false, .int i, .str z, .ref t] r = some v ∧ Flat H v := by
  have e : r = 0 ∨ r = 1 ∨ r = 2 ∨ r = 3 ∨ r = 4 ∨ r = 5 := by omega
  rcases e with rfl | rfl | rfl | rfl | rfl | rfl
  · exact ⟨_, rfl, .inl rfl⟩
  · exact ⟨_, rfl, .inr (.inl ⟨_, rfl⟩)⟩
  · exact ⟨_, rfl, .inr (.inl ⟨_, rfl⟩)⟩
  · exact ⟨_, rfl, .inr (.inr (.inl ⟨_, rfl⟩))⟩
  · exact ⟨_, rfl, .inr (.inr (.inr (.inl ⟨_, rfl⟩)))⟩
  · exact ⟨_, rfl, .inr (.inr (.inr (.inr ⟨t, rfl, ht⟩)))⟩
/-- the last return: one of the six -/
theorem any_tail {B : Addr} {n r : Int} {H H1 : Hp} {Q : VK} {d : Nat} (r0 : 0 ≤ r) (r1 : r < 6) (s1 : SB B H H1) (b1 : BagAt H1 B) (k : ∀ v H', SB B H H' → BagAt H' B → Shape d H' v → Q v H') :
    tRet (tOp (rIxL K) (tLst (tCons (tC .non) (tCons (tC (.bl true)) (tCons (tC (.bl false)) (tCons (tCall spValue [] E0 (tCons (tVar 0) tNil))
      (tCons (tCall spName [] E0 (tCons (tVar 0) (tCons (tLst tNil) tNil))) (tCons (tTup tNil) tNil))))))) (tVar 2)) { nx := fun _ H' => Q .non H', rt := Q } [some (.ref B), some (.int n), some (.int r)] H1 := by
  refine ⟨_, rfl, B, rfl, b1, fun i H2 s2 b2 => ?_⟩
  refine ⟨_, rfl, Nat.zero_le _, fun l hl => ⟨B, l, rfl, b2.new hl, upd_same, fun z H3 s3 b3 => ?_⟩⟩
  refine ⟨Nat.zero_le _, fun t ht => ⟨by show 6 ≤ sizeLine; decide, fun m hm => ?_⟩⟩
  have ntm : t ≠ m := fun e => by
    rw [← e, upd_same] at hm
    cases hm
  have hm3 : H3 m = none := by
    rw [upd_ne ntm.symm] at hm
    exact hm
  obtain ⟨v, hv, fv⟩ := six (i := i) (z := z) r0 r1 (H := upd (upd H3 t (.tup [])) m (.lst [V.non, .bl true, .bl false, .int i, .str z, .ref t])) ((upd_ne ntm).trans upd_same)
  refine ⟨_, rfl, m, _, r, v, rfl, rfl, SqL.of upd_same, hv, k v _ ?_ ((b3.new ht).new hm) (Shape.flat fv _)⟩
  have s23 : SB B H2 H3 := fun b o nb e => s3 b o nb (by rw [upd_ne (ne_of_none e hl)]; exact e)
  exact s1.trans (s2.trans (((s23).new ht).new hm))
theorem ok_any {dT dP dW dN dV dA : FuncData} (D : Defs K fT fP fW fN fV fA dT dP dW dN dV dA) (T : TxtC mg fT fP fW fN fV fA fS) : ∀ d : Nat, FnOk P w K mg base CX0 (4 + d) fA dA ["bag", "depth"] (spAny d) := by
  have GT : FnOk P w K mg base CX0 1 fT dT ["bag", "total"] spThrow := ok_throw D.T T.toTxtA
  have GV : FnOk P w K mg base CX0 2 fV dV ["bag"] spValue := ok_value D.V T.toTxtA D.T D.bT
  have GN : FnOk P w K mg base CX0 3 fN dN ["bag", "known"] spName := ok_name D.N T.toTxtB D.T D.bT D.P D.bP D.W D.bW
  intro d
  induction d with
  | zero =>
    refine D.A.ok scAny (fun vs H Q E h => ?_) (fun cdv A outer s H vs Q E hr h => ?_)
    · obtain ⟨B, n, rfl, _⟩ := h
      rfl
    · obtain ⟨B, n, rfl, hn, hB, k⟩ := h
      have hr1 : Room 1 _ := hr.mono (by decide)
      have hr2 : Room 2 _ := hr.mono (by decide)
      have hr3 : Room 3 _ := hr.mono (by decide)
      refine ⟨_, pss_cons (ps_set (i := 2) scAny.nd rfl (Or.inl rfl) (pe_call GT hr1 rfl T.thr D.T.kp D.bT .nil pass0 (pa_cons (pv 0) (pa_cons pe_int pa_nil))))
        (pss_cons (ps_if (PW.pt (pw_and (pt_cmpR op_eq (pv 2) pe_int (nomark _)) (pw_and1 (pt_cmpR op_gt (pv 1) pe_int (nomark _))))) (pss_one ps_never) pss_nil)
        (pss_one (ps_ret (pe_ix ix_list (pe_lst (pa_cons pe_non (pa_cons pe_bl (pa_cons pe_bl (pa_cons (pe_call GV hr2 rfl T.valu D.V.kp D.bV .nil pass0 (pa_cons (pv 0) pa_nil))
          (pa_cons (pe_call GN hr3 rfl T.name D.N.kp D.bN .nil pass0 (pa_cons (pv 0) (pa_cons (pe_lst pa_nil) pa_nil))) (pa_cons (pe_tup pa_nil) pa_nil))))))) (pv 2) (fun _ _ => rfl))))), ?_⟩
      refine ⟨_, rfl, B, _, rfl, hB, by decide, by decide +kernel, fun r H1 r0 r1 s1 b1 => ?_⟩
      refine ⟨_, rfl, rfl, _, rfl, ?_⟩
      have tail := any_tail (K := K) (n := n) r0 r1 s1 b1 k
      by_cases c : r = 5
      · have dc : decide (V.int r = V.int 5) = true := decide_eq_true (by rw [c])
        rw [dc]
        refine ⟨_, rfl, _, _, rfl, rfl, _, rfl, ?_⟩
        have dd : decide ((0 : Int) < n) = false := decide_eq_false (by omega)
        rw [dd]
        exact tail
      · have dc : decide (V.int r = V.int 5) = false := decide_eq_false (fun e => c (V.int.inj e))
        rw [dc]
        exact tail
  | succ d ih =>
    refine (show FnOk P w K mg base CX0 (4 + d + 1) fA dA ["bag", "depth"] (spAny (d + 1)) from ?_)
    refine D.A.ok scAny (fun vs H Q E h => ?_) (fun cdv A outer s H vs Q E hr h => ?_)
    · obtain ⟨B, n, rfl, _⟩ := h
      rfl
    · obtain ⟨B, n, rfl, hn, hB, k⟩ := h
      have hr1 : Room 1 _ := hr.mono (by omega)
      have hr2 : Room 2 _ := hr.mono (by omega)
      have hr3 : Room 3 _ := hr.mono (by omega)
      refine ⟨_, pss_cons (ps_set (i := 2) scAny.nd rfl (Or.inl rfl) (pe_call GT hr1 rfl T.thr D.T.kp D.bT .nil pass0 (pa_cons (pv 0) (pa_cons pe_int pa_nil))))
        (pss_cons (ps_if (PW.pt (pw_and (pt_cmpR op_eq (pv 2) pe_int (nomark _)) (pw_and1 (pt_cmpR op_gt (pv 1) pe_int (nomark _)))))
          (pss_one (ps_ret (pe_tup (pa_cons (pe_call ih hr rfl T.any D.A.kp D.bA .nil pass0 (pa_cons (pv 0) (pa_cons (pe_op op_sub (pv 1) pe_int) pa_nil)))
            (pa_cons (pe_call ih hr rfl T.any D.A.kp D.bA .nil pass0 (pa_cons (pv 0) (pa_cons (pe_op op_sub (pv 1) pe_int) pa_nil))) pa_nil))))) pss_nil)
        (pss_one (ps_ret (pe_ix ix_list (pe_lst (pa_cons pe_non (pa_cons pe_bl (pa_cons pe_bl (pa_cons (pe_call GV hr2 rfl T.valu D.V.kp D.bV .nil pass0 (pa_cons (pv 0) pa_nil))
          (pa_cons (pe_call GN hr3 rfl T.name D.N.kp D.bN .nil pass0 (pa_cons (pv 0) (pa_cons (pe_lst pa_nil) pa_nil))) (pa_cons (pe_tup pa_nil) pa_nil))))))) (pv 2) (fun _ _ => rfl))))), ?_⟩
      refine ⟨_, rfl, B, _, rfl, hB, by decide, by decide +kernel, fun r H1 r0 r1 s1 b1 => ?_⟩
      refine ⟨_, rfl, rfl, _, rfl, ?_⟩
      have tail := any_tail (K := K) (n := n) r0 r1 s1 b1 k
      by_cases c : r = 5
      · have dc : decide (V.int r = V.int 5) = true := decide_eq_true (by rw [c])
        rw [dc]
        refine ⟨_, rfl, _, _, rfl, rfl, _, rfl, ?_⟩
        have dd : decide ((0 : Int) < n) = true := decide_eq_true (by omega)
        rw [dd]
        refine ⟨_, rfl, _, rfl, _, _, rfl, rfl, B, _, rfl, by omega, b1, fun u H2 s2 b2 hu => ?_⟩
        refine ⟨_, rfl, _, rfl, _, _, rfl, rfl, B, _, rfl, by omega, b2, fun v H3 s3 b3 hv => ?_⟩
        refine ⟨by show 2 ≤ sizeLine; decide, fun t ht => ?_⟩
        have up : ∀ q xs, H3 q = some (.tup xs) → upd H3 t (.tup [u, v]) q = some (.tup xs) := fun q xs e => by
          rw [upd_ne (ne_of_none e ht)]
          exact e
        refine k _ _ (s1.trans (s2.trans (s3.new ht))) (b3.new ht) (.inr ⟨t, u, v, rfl, upd_same, ?_, hv.mono up⟩)
        exact (hu.mono (s3.tups b2)).mono up
      · have dc : decide (V.int r = V.int 5) = false := decide_eq_false (fun e => c (V.int.inj e))
        rw [dc]
        exact tail
/-- an expression that is never reached -/
theorem pe_not_here {X : Cx} {e : Expr} : PE X e (fun _ _ _ => False) := ⟨fun _ _ _ _ _ _ h => h.elim⟩
/-! ### _law_same, asked of a value and itself -/
def spSame (d : Nat) : Sp := fun vs H Q _ => ∃ x, vs = [x, x] ∧ Shape d H x ∧ ∀ H', Same H H' → Q (.bl true) H'
abbrev nSame : List Str := ["one", "other", "k"]
theorem scSame : FnScope nSame ["one", "other"] (defScope sSame) := ⟨rfl, rfl, rfl, by decide +kernel, rfl, by decide +kernel, by decide +kernel⟩

def spPrev : Nat → Sp
  | 0 => fun _ _ _ _ => False
  | d + 1 => spSame d
theorem Shape.cases : ∀ {d : Nat} {H : Hp} {x : V}, Shape d H x → (∃ t xs, x = .ref t ∧ H t = some (.tup xs) ∧ xs.length ≤ 2 ∧ ∀ (i : Nat) (v : V), xs[i]? = some v → ∃ e, d = e + 1 ∧ Shape e H v) ∨
    (x = .non ∨ (∃ b, x = .bl b) ∨ (∃ i, x = .int i) ∨ ∃ z, x = .str z) := by
  have fl : ∀ {d : Nat} {H : Hp} {x : V}, Flat H x → (∃ t xs, x = .ref t ∧ H t = some (.tup xs) ∧ xs.length ≤ 2 ∧ ∀ (i : Nat) (v : V), xs[i]? = some v → ∃ e, d = e + 1 ∧ Shape e H v) ∨
      (x = .non ∨ (∃ b, x = .bl b) ∨ (∃ i, x = .int i) ∨ ∃ z, x = .str z) := by
    intro d H x h
    rcases h with h | h | h | h | ⟨t, e, h⟩
    · exact .inr (.inl h)
    · exact .inr (.inr (.inl h))
    · exact .inr (.inr (.inr (.inl h)))
    · exact .inr (.inr (.inr (.inr h)))
    · exact .inl ⟨t, [], e, h, Nat.zero_le _, fun i v q => by simp at q⟩
  intro d H x h
  cases d with
  | zero => exact fl h
  | succ d =>
    rcases h with h | ⟨t, u, v, e, h, hu, hv⟩
    · exact fl h
    · refine .inl ⟨t, [u, v], e, h, Nat.le_refl _, fun i z q => ⟨d, rfl, ?_⟩⟩
      cases i with
      | zero =>
        have e : u = z := Option.some.inj q
        rw [← e]
        exact hu
      | succ i =>
        cases i with
        | zero =>
          have e : v = z := Option.some.inj q
          rw [← e]
          exact hv
        | succ i => simp at q
theorem same_step {fd : FuncData} {lv d : Nat} (F : Fun K "_law_same" "_law_same" sSame fS fd) (T : TxtC mg fT fP fW fN fV fA fS) (b : Binds K fd ["one", "other"] []) (G : FnOk P w K mg base CX0 lv fS fd ["one", "other"] (spPrev d)) :
    FnOk P w K mg base CX0 (lv + 1) fS fd ["one", "other"] (spSame d) := by
  refine F.ok scSame (fun vs H Q E h => ?_) (fun cdv A outer s H vs Q E hr h => ?_)
  · obtain ⟨x, rfl, _⟩ := h
    rfl
  · obtain ⟨x, rfl, hx, k⟩ := h
    refine ⟨_, pss_cons (ps_if (pt_val (pe_callB call_isi (by rfl) T.isin (by decide +kernel) (pa_cons (pv 0) (pa_cons (pe_bltn (v := .ty "tuple") (by rfl) T.tup (by decide +kernel) rfl) pa_nil))))
        (pss_cons (ps_if (PW.pt (pw_or (pt_not (pt_val (pe_callB call_isi (by rfl) T.isin (by decide +kernel) (pa_cons (pv 1) (pa_cons (pe_bltn (v := .ty "tuple") (by rfl) T.tup (by decide +kernel) rfl) pa_nil))))) (pw_or1 (pt_cmpR op_ne (pe_callB call_len_seq (by rfl) T.len PySem.boot_len (pa_cons (pv 0) pa_nil)) (pe_callB call_len_seq (by rfl) T.len PySem.boot_len (pa_cons (pv 1) pa_nil)) (nomark _))))) (pss_one (ps_ret pe_bl)) pss_nil)
        (pss_one (ps_ret (pe_callB (cr_all rfl) (by rfl) T.all (by decide +kernel) (pa_cons (pe_lc (own := [("k", 2)]) (g := gName 2) (tt := tYes) rfl scSame.nd
          (pi_range1 rfl T.range (pa_cons (pe_callB call_len_seq (by rfl) T.len PySem.boot_len (pa_cons (pv 0) pa_nil)) pa_nil)) (blkOk_by (N := nSame) (sc := defScope sSame) (by decide +kernel)) (fun _ _ _ _ _ => pg_name (i := 2) scSame.nd rfl (Or.inl rfl)) (fun _ _ _ _ _ => pts_nil)
          (fun _ _ _ _ _ => pe_call G hr rfl T.same F.kp b .nil pass0 (pa_cons (pe_ix (r := rIxT K) ix_tup (pv 0) (pv 2) (fun _ _ => rfl)) (pa_cons (pe_ix (r := rIxT K) ix_tup (pv 1) (pv 2) (fun _ _ => rfl)) pa_nil)))) pa_nil))))) pss_nil)
      (pss_cons (ps_if (PW.pt (pw_or (pt_cmp (pc_isN (pv 0)) rfl) (pw_or1 (pt_cmp (pc_isN (pv 1)) rfl)))) (pss_one (ps_ret (pe_and (pe_cmp (pc_isN (pv 0)) rfl) (pe_one (pe_cmp (pc_isN (pv 1)) rfl))))) pss_nil)
      (pss_cons (ps_if (PW.pt (pw_or (pt_cmpR op_ne (pe_callB call_isi (by rfl) T.isin (by decide +kernel) (pa_cons (pv 0) (pa_cons (pe_bltn (v := .ty "bool") (by rfl) T.bool (by decide +kernel) rfl) pa_nil))) (pe_callB call_isi (by rfl) T.isin (by decide +kernel) (pa_cons (pv 1) (pa_cons (pe_bltn (v := .ty "bool") (by rfl) T.bool (by decide +kernel) rfl) pa_nil))) (nomark _)) (pw_or1 (pt_cmpR op_ne (pe_callB call_isi (by rfl) T.isin (by decide +kernel) (pa_cons (pv 0) (pa_cons (pe_bltn (v := .ty "str") (by rfl) T.str (by decide +kernel) rfl) pa_nil))) (pe_callB call_isi (by rfl) T.isin (by decide +kernel) (pa_cons (pv 1) (pa_cons (pe_bltn (v := .ty "str") (by rfl) T.str (by decide +kernel) rfl) pa_nil))) (nomark _))))) (pss_one (ps_ret pe_bl)) pss_nil)
      (pss_one (ps_ret (pe_and (pe_not (pe_callB call_isi (by rfl) T.isin (by decide +kernel) (pa_cons (pv 1) (pa_cons (pe_bltn (v := .ty "tuple") (by rfl) T.tup (by decide +kernel) rfl) pa_nil)))) (pe_one (pe_cmpR op_eq (pv 0) (pv 1) (nomark _)))))))), ?_⟩
    rcases hx.cases with ⟨t, xs, rfl, ht, hl, sub⟩ | sc
    · have isT : ∀ H', Same H H' → TyX K H' (.ref t) (.type "tuple") := fun H' sm => .base (.tup (sm _ _ ht))
      refine ⟨_, rfl, _, _, _, _, true, rfl, .ty "tuple", isT H (Same.refl H), kit_ty (by decide +kernel), _, rfl, ?_⟩
      refine ⟨_, rfl, _, _, _, _, true, rfl, .ty "tuple", isT H (Same.refl H), kit_ty (by decide +kernel), _, rfl, ?_⟩
      refine ⟨_, rfl, t, _, rfl, .inr (SqT.of ht), _, rfl, t, _, rfl, .inr (SqT.of ht), rfl, _, rfl, ?_⟩
      have ed : (!decide (V.int (xs.length : Int) = V.int (xs.length : Int))) = false := by rw [decide_eq_true rfl] <;> rfl
      rw [ed]
      refine ⟨_, rfl, t, _, rfl, .inr (SqT.of ht), _, rfl, by omega, by omega, fun D hD => ?_⟩
      refine lc_range (lo := 0) (n := _) (fun i H' => Same H H' ∧ H' D = some (.lst ((List.replicate i true).map V.bl))) ⟨fun b o e => by rw [upd_ne (ne_of_none e hD)]; exact e, upd_same⟩ ?_ ?_
      · rintro i H' hi ⟨sm, hD'⟩
        have hi2 : i < xs.length := by omega
        have ex : xs[i]? = some (xs[i]'hi2) := by simp [hi2]
        obtain ⟨e, rfl, se⟩ := sub i _ ex
        have at_ : atI xs (0 + (i : Int)) = some (xs[i]'hi2) := by
          rw [Int.zero_add]
          exact atI_nat ex
        refine ⟨rfl, ?_⟩
        refine ⟨_, rfl, _, rfl, t, xs, _, _, rfl, rfl, SqT.of (sm _ _ ht), at_, _, rfl, _, rfl, t, xs, _, _, rfl, rfl, SqT.of (sm _ _ ht), at_, ?_⟩
        refine ⟨_, rfl, se.mono (fun q ys z => sm _ _ z), fun H2 sm2 => ⟨_, sm2 _ _ hD', ?_, fun b o e => ?_, ?_⟩⟩
        · rw [List.length_map, List.length_replicate]
          exact small1000 (by omega)
        · rw [upd_ne (ne_of_none e hD)]
          exact sm2 _ _ (sm _ _ e)
        · rw [upd_same, List.replicate_succ', List.map_append]
          rfl
      · rintro H' ⟨sm, hD'⟩
        refine ⟨D, _, rfl, SqL.of hD', ?_⟩
        have ea : ∀ n, (List.replicate n true).all id = true := fun n => by simp
        rw [ea]
        exact k _ sm
    · have e1 : ∀ y : V, decide (y = y) = true := fun y => decide_eq_true rfl
      rcases sc with rfl | ⟨b', rfl⟩ | ⟨i, rfl⟩ | ⟨z, rfl⟩
      · refine ⟨_, rfl, _, _, _, _, false, rfl, .ty "tuple", .base .non, kit_ty (by decide +kernel), _, rfl, ?_⟩
        refine ⟨_, rfl, _, rfl, ?_⟩
        refine ⟨_, rfl, _, rfl, _, rfl, k _ (Same.refl H)⟩
      · refine ⟨_, rfl, _, _, _, _, false, rfl, .ty "tuple", .base (.bl _), kit_ty (by decide +kernel), _, rfl, ?_⟩
        refine ⟨_, rfl, _, rfl, _, rfl, _, rfl, ?_⟩
        refine ⟨_, rfl, _, _, _, _, true, rfl, .ty "bool", .base (.bl _), kit_ty (by decide +kernel), _, rfl, _, _, _, _, true, rfl, .ty "bool", .base (.bl _), kit_ty (by decide +kernel), rfl, _, rfl, ?_⟩
        refine ⟨_, rfl, _, _, _, _, false, rfl, .ty "str", .base (.bl _), kit_ty (by decide +kernel), _, rfl, _, _, _, _, false, rfl, .ty "str", .base (.bl _), kit_ty (by decide +kernel), rfl, _, rfl, ?_⟩
        refine ⟨_, rfl, _, _, _, _, false, rfl, .ty "tuple", .base (.bl _), kit_ty (by decide +kernel), _, rfl, _, rfl, _, rfl, _, rfl, rfl, ?_⟩
        rw [e1]
        exact k _ (Same.refl H)
      · refine ⟨_, rfl, _, _, _, _, false, rfl, .ty "tuple", .base (.int _), kit_ty (by decide +kernel), _, rfl, ?_⟩
        refine ⟨_, rfl, _, rfl, _, rfl, _, rfl, ?_⟩
        refine ⟨_, rfl, _, _, _, _, false, rfl, .ty "bool", .base (.int _), kit_ty (by decide +kernel), _, rfl, _, _, _, _, false, rfl, .ty "bool", .base (.int _), kit_ty (by decide +kernel), rfl, _, rfl, ?_⟩
        refine ⟨_, rfl, _, _, _, _, false, rfl, .ty "str", .base (.int _), kit_ty (by decide +kernel), _, rfl, _, _, _, _, false, rfl, .ty "str", .base (.int _), kit_ty (by decide +kernel), rfl, _, rfl, ?_⟩
        refine ⟨_, rfl, _, _, _, _, false, rfl, .ty "tuple", .base (.int _), kit_ty (by decide +kernel), _, rfl, _, rfl, _, rfl, _, rfl, rfl, ?_⟩
        rw [e1]
        exact k _ (Same.refl H)
      · refine ⟨_, rfl, _, _, _, _, false, rfl, .ty "tuple", .base (.str _), kit_ty (by decide +kernel), _, rfl, ?_⟩
        refine ⟨_, rfl, _, rfl, _, rfl, _, rfl, ?_⟩
        refine ⟨_, rfl, _, _, _, _, false, rfl, .ty "bool", .base (.str _), kit_ty (by decide +kernel), _, rfl, _, _, _, _, false, rfl, .ty "bool", .base (.str _), kit_ty (by decide +kernel), rfl, _, rfl, ?_⟩
        refine ⟨_, rfl, _, _, _, _, true, rfl, .ty "str", .base (.str _), kit_ty (by decide +kernel), _, rfl, _, _, _, _, true, rfl, .ty "str", .base (.str _), kit_ty (by decide +kernel), rfl, _, rfl, ?_⟩
        refine ⟨_, rfl, _, _, _, _, false, rfl, .ty "tuple", .base (.str _), kit_ty (by decide +kernel), _, rfl, _, rfl, _, rfl, _, rfl, rfl, ?_⟩
        rw [e1]
        exact k _ (Same.refl H)
theorem ok_same {fd : FuncData} (F : Fun K "_law_same" "_law_same" sSame fS fd) (T : TxtC mg fT fP fW fN fV fA fS) (b : Binds K fd ["one", "other"] []) : ∀ d : Nat, FnOk P w K mg base CX0 (1 + d) fS fd ["one", "other"] (spSame d) := by
  intro d
  induction d with
  | zero => exact (same_step (lv := 0) F T b ⟨fun _ _ _ _ h => h.elim, fun _ _ _ _ _ _ _ _ _ _ _ _ _ h => h.elim⟩)
  | succ d ih => exact same_step (d := d + 1) F T b ih
end
end K00

set_option Elab.async false
set_option linter.all false
set_option maxRecDepth 100000
set_option maxHeartbeats 4000000
namespace K00
open PySem L2 Ek
open PySem.W (findIn subIn mroIn keepIn hasDictIn clsIn takerIn specialIn takesIn readsIn findCls kitOne excInitIn excOver excIn)
/-! ### the classes, by their number -/
abbrev vTail : List Value := [.type "ValueError", .type "Exception", .type "BaseException", .type "object"]
abbrev iTail : List Value := [.type "IndexError", .type "LookupError", .type "Exception", .type "BaseException", .type "object"]
abbrev lTail : List Value := [.type "LookupError", .type "Exception", .type "BaseException", .type "object"]
abbrev oTail : List Value := [.type "OverflowError", .type "ArithmeticError", .type "Exception", .type "BaseException", .type "object"]
abbrev rTail : List Value := [.type "RuntimeError", .type "Exception", .type "BaseException", .type "object"]
/-- whether an error of the k-th class belongs to the j-th -/
def rowB (k j : Nat) : Bool := j == k || (j == 0 && decide (k < 11))
/-- at a stands an error of the class at C whose own dict holds v under f -/
def AttrAt (H : Hp) (a C : Addr) (f : Str) (v : V) : Prop := ∃ d, H a = some (exo a C (some d)) ∧ H d = some (exd d [(f, v)])
theorem AttrAt.err {H : Hp} {a C : Addr} {f : Str} {v : V} (h : AttrAt H a C f v) : ErrAt H a C := by
  obtain ⟨d, h1, h2⟩ := h
  exact .inr ⟨d, _, h1, h2⟩
theorem AttrAt.mono {H H' : Hp} {a C : Addr} {f : Str} {v : V} (h : AttrAt H a C f v) (s : Same H H') : AttrAt H' a C f v := by
  obtain ⟨d, h1, h2⟩ := h
  exact ⟨d, s _ _ h1, s _ _ h2⟩
theorem err_mono {H H' : Hp} {a C : Addr} (h : ErrAt H a C) (s : Same H H') : ErrAt H' a C := by
  rcases h with h | ⟨d, fs, h1, h2⟩
  · exact .inl (s _ _ h)
  · exact .inr ⟨d, fs, s _ _ h1, s _ _ h2⟩
theorem same_new {H : Hp} {p : Addr} {o : HO} (h : H p = none) : Same H (upd H p o) := fun b u e => by
  rw [upd_ne (ne_of_none e h)]
  exact e
def spInit (C : Addr) (f : Str) : Sp := fun vs H Q _ => ∃ (a : Addr) (y : V) (H0 : Hp), vs = [.ref a, y] ∧ H = upd H0 a (exo a C none) ∧ H0 a = none ∧ ∀ H', Same H0 H' → AttrAt H' a C f y → Q .non H'
theorem init_end {H0 : Hp} {a C d : Addr} {f : Str} {y : V} (h0 : H0 a = none) (hd : (upd H0 a (exo a C none)) d = none) (ne : d ≠ a) :
    Same H0 (upd (upd (upd H0 a (exo a C none)) a (exo a C (some d))) d (exd d [(f, y)])) ∧ AttrAt (upd (upd (upd H0 a (exo a C none)) a (exo a C (some d))) d (exd d [(f, y)])) a C f y := by
  have hd0 : H0 d = none := by
    rw [upd_ne ne] at hd
    exact hd
  refine ⟨fun b o e => ?_, d, ?_, upd_same⟩
  · rw [upd_ne (ne_of_none e hd0), upd_ne (ne_of_none e h0), upd_ne (ne_of_none e h0)]
    exact e
  · rw [upd_ne (Ne.symm ne)]
    exact upd_same
theorem storeVal : StoreFacts "ValueError" vTail "object.__setattr__" "object" := F.store_ValueError
section
variable {P : Program} {w : World} {K : PySem.W.Frag} {mg : Str → Option Value} {base : Heap}
abbrev sInit10 : Stmt := inClass (topS 11) 0
theorem scInit10 : FnScope ["self", "index"] ["self", "index"] (defScope sInit10) := ⟨rfl, rfl, rfl, by decide +kernel, rfl, by decide +kernel, by decide +kernel⟩
abbrev sInit11 : Stmt := inClass (topS 12) 0
theorem scInit11 : FnScope ["self", "name"] ["self", "name"] (defScope sInit11) := ⟨rfl, rfl, rfl, by decide +kernel, rfl, by decide +kernel, by decide +kernel⟩
abbrev sInit12 : Stmt := inClass (topS 13) 0
theorem scInit12 : FnScope ["self", "index"] ["self", "index"] (defScope sInit12) := ⟨rfl, rfl, rfl, by decide +kernel, rfl, by decide +kernel, by decide +kernel⟩
abbrev sInit13 : Stmt := inClass (topS 14) 0
theorem scInit13 : FnScope ["self", "many"] ["self", "many"] (defScope sInit13) := ⟨rfl, rfl, rfl, by decide +kernel, rfl, by decide +kernel, by decide +kernel⟩
abbrev sInit14 : Stmt := inClass (topS 15) 0
theorem scInit14 : FnScope ["self", "limit"] ["self", "limit"] (defScope sInit14) := ⟨rfl, rfl, rfl, by decide +kernel, rfl, by decide +kernel, by decide +kernel⟩
abbrev sInit15 : Stmt := inClass (topS 16) 0
theorem scInit15 : FnScope ["self", "value"] ["self", "value"] (defScope sInit15) := ⟨rfl, rfl, rfl, by decide +kernel, rfl, by decide +kernel, by decide +kernel⟩
structure PushF (K : PySem.W.Frag) (mg : Str → Option Value) (CB : Addr) : Prop where
  g : mg "PushError" = some (.ref CB)
  gg : specialIn K (.ref CB) "__getattribute__" = some (some (.builtin "type.__getattribute__"))
  rd : readsIn K CB (.type "type") = true
  vv : findCls K (.ref CB) (.type "type") "__init__" = some (.val (.builtin "ValueError.__init__"))
theorem ok_init10 {f C CB : Addr} {fd : FuncData} (F1 : Fun K "__init__" "ParseError.__init__" sInit10 f fd) (E1 : EC K C vTail "ValueError.__new__") (nt : takerIn K C "index" = some none) (PF : PushF K mg CB) :
    FnOk P w K mg base CX0 1 f fd ["self", "index"] (spInit C "index") := by
  refine F1.ok scInit10 (fun vs H Q E h => ?_) (fun cdv A outer s H vs Q E hr h => ?_)
  · obtain ⟨a, y, H0, rfl, _⟩ := h
    rfl
  · obtain ⟨a, y, H0, rfl, rfl, h0, k⟩ := h
    refine ⟨_, pss_cons (ps_expr (pe_baseC (pl := _) (bmB := vTail) (newId := "ValueError.__new__") (InitF.of F.excBase_ValueError.toExcCallFacts) (by decide +kernel) (by rfl) PF.g PF.gg PF.rd PF.vv (pa_cons (pv 0) (pa_cons pe_str pa_nil))))
      (pss_one (ps_put (bmB := vTail) (newId := "ValueError.__new__") storeVal (pv 0) (pv 1))), ?_⟩
    refine ⟨_, rfl, a, C, _, rfl, by show 1 ≤ 1000; decide, E1, upd_same, ?_⟩
    refine ⟨_, rfl, _, rfl, a, C, rfl, E1, nt, upd_same, fun d hd ne => ?_⟩
    obtain ⟨z1, z2⟩ := init_end (f := "index") (y := y) h0 hd ne
    exact k _ z1 z2
theorem typKey : typeOf (.type "KeyError") = pure (.type "type") := by kernel_rfl
theorem ok_init11 {f C : Addr} {fd : FuncData} (F1 : Fun K "__init__" "UnknownName.__init__" sInit11 f fd) (E1 : EC K C kTail "LookupError.__new__") (nt : takerIn K C "name" = some none) (hm : mg "KeyError" = none)
    (vv : findCls K (.type "KeyError") (.type "type") "__init__" = some (.val (.builtin "KeyError.__init__"))) : FnOk P w K mg base CX0 1 f fd ["self", "name"] (spInit C "name") := by
  refine F1.ok scInit11 (fun vs H Q E h => ?_) (fun cdv A outer s H vs Q E hr h => ?_)
  · obtain ⟨a, y, H0, rfl, _⟩ := h
    rfl
  · obtain ⟨a, y, H0, rfl, rfl, h0, k⟩ := h
    refine ⟨_, pss_cons (ps_expr (pe_baseT (pl := _) (bmB := kTail) (newId := "LookupError.__new__") initKey (by decide +kernel) (by rfl) hm (by decide +kernel) typKey (by decide +kernel) vv (pa_cons (pv 0) (pa_cons pe_str pa_nil))))
      (pss_one (ps_put (bmB := kTail) (newId := "LookupError.__new__") storeKey (pv 0) (pv 1))), ?_⟩
    refine ⟨_, rfl, a, C, _, rfl, by show 1 ≤ 1000; decide, E1, upd_same, ?_⟩
    refine ⟨_, rfl, _, rfl, a, C, rfl, E1, nt, upd_same, fun d hd ne => ?_⟩
    obtain ⟨z1, z2⟩ := init_end (f := "name") (y := y) h0 hd ne
    exact k _ z1 z2
theorem typIdx : typeOf (.type "IndexError") = pure (.type "type") := by kernel_rfl
theorem ok_init12 {f C : Addr} {fd : FuncData} (F1 : Fun K "__init__" "UnknownIndex.__init__" sInit12 f fd) (E1 : EC K C iTail "IndexError.__new__") (nt : takerIn K C "index" = some none) (hm : mg "IndexError" = none)
    (vv : findCls K (.type "IndexError") (.type "type") "__init__" = some (.val (.builtin "IndexError.__init__"))) : FnOk P w K mg base CX0 1 f fd ["self", "index"] (spInit C "index") := by
  refine F1.ok scInit12 (fun vs H Q E h => ?_) (fun cdv A outer s H vs Q E hr h => ?_)
  · obtain ⟨a, y, H0, rfl, _⟩ := h
    rfl
  · obtain ⟨a, y, H0, rfl, rfl, h0, k⟩ := h
    refine ⟨_, pss_cons (ps_expr (pe_baseT (pl := _) (bmB := iTail) (newId := "IndexError.__new__") (InitF.of F.excBase_IndexError.toExcCallFacts) (by decide +kernel) (by rfl) hm (by decide +kernel) typIdx (by decide +kernel) vv (pa_cons (pv 0) (pa_cons pe_str pa_nil))))
      (pss_one (ps_put (bmB := iTail) (newId := "IndexError.__new__") F.store_IndexError (pv 0) (pv 1))), ?_⟩
    refine ⟨_, rfl, a, C, _, rfl, by show 1 ≤ 1000; decide, E1, upd_same, ?_⟩
    refine ⟨_, rfl, _, rfl, a, C, rfl, E1, nt, upd_same, fun d hd ne => ?_⟩
    obtain ⟨z1, z2⟩ := init_end (f := "index") (y := y) h0 hd ne
    exact k _ z1 z2
theorem typLkp : typeOf (.type "LookupError") = pure (.type "type") := by kernel_rfl
theorem ok_init13 {f C : Addr} {fd : FuncData} (F1 : Fun K "__init__" "NothingToUndo.__init__" sInit13 f fd) (E1 : EC K C lTail "LookupError.__new__") (nt : takerIn K C "many" = some none) (hm : mg "LookupError" = none)
    (vv : findCls K (.type "LookupError") (.type "type") "__init__" = some (.val (.builtin "LookupError.__init__"))) : FnOk P w K mg base CX0 1 f fd ["self", "many"] (spInit C "many") := by
  refine F1.ok scInit13 (fun vs H Q E h => ?_) (fun cdv A outer s H vs Q E hr h => ?_)
  · obtain ⟨a, y, H0, rfl, _⟩ := h
    rfl
  · obtain ⟨a, y, H0, rfl, rfl, h0, k⟩ := h
    refine ⟨_, pss_cons (ps_expr (pe_baseT (pl := _) (bmB := lTail) (newId := "LookupError.__new__") (InitF.of F.excBase_LookupError.toExcCallFacts) (by decide +kernel) (by rfl) hm (by decide +kernel) typLkp (by decide +kernel) vv (pa_cons (pv 0) (pa_cons pe_str pa_nil))))
      (pss_one (ps_put (bmB := lTail) (newId := "LookupError.__new__") F.store_LookupError (pv 0) (pv 1))), ?_⟩
    refine ⟨_, rfl, a, C, _, rfl, by show 1 ≤ 1000; decide, E1, upd_same, ?_⟩
    refine ⟨_, rfl, _, rfl, a, C, rfl, E1, nt, upd_same, fun d hd ne => ?_⟩
    obtain ⟨z1, z2⟩ := init_end (f := "many") (y := y) h0 hd ne
    exact k _ z1 z2
theorem typOvf : typeOf (.type "OverflowError") = pure (.type "type") := by kernel_rfl
theorem ok_init14 {f C : Addr} {fd : FuncData} (F1 : Fun K "__init__" "TooMany.__init__" sInit14 f fd) (E1 : EC K C oTail "OverflowError.__new__") (nt : takerIn K C "limit" = some none) (hm : mg "OverflowError" = none)
    (vv : findCls K (.type "OverflowError") (.type "type") "__init__" = some (.val (.builtin "OverflowError.__init__"))) : FnOk P w K mg base CX0 1 f fd ["self", "limit"] (spInit C "limit") := by
  refine F1.ok scInit14 (fun vs H Q E h => ?_) (fun cdv A outer s H vs Q E hr h => ?_)
  · obtain ⟨a, y, H0, rfl, _⟩ := h
    rfl
  · obtain ⟨a, y, H0, rfl, rfl, h0, k⟩ := h
    refine ⟨_, pss_cons (ps_expr (pe_baseT (pl := _) (bmB := oTail) (newId := "OverflowError.__new__") (InitF.of F.excBase_OverflowError.toExcCallFacts) (by decide +kernel) (by rfl) hm (by decide +kernel) typOvf (by decide +kernel) vv (pa_cons (pv 0) (pa_cons pe_str pa_nil))))
      (pss_one (ps_put (bmB := oTail) (newId := "OverflowError.__new__") F.store_OverflowError (pv 0) (pv 1))), ?_⟩
    refine ⟨_, rfl, a, C, _, rfl, by show 1 ≤ 1000; decide, E1, upd_same, ?_⟩
    refine ⟨_, rfl, _, rfl, a, C, rfl, E1, nt, upd_same, fun d hd ne => ?_⟩
    obtain ⟨z1, z2⟩ := init_end (f := "limit") (y := y) h0 hd ne
    exact k _ z1 z2
theorem typRun : typeOf (.type "RuntimeError") = pure (.type "type") := by kernel_rfl
theorem ok_init15 {f C : Addr} {fd : FuncData} (F1 : Fun K "__init__" "InvalidNumber.__init__" sInit15 f fd) (E1 : EC K C rTail "RuntimeError.__new__") (nt : takerIn K C "value" = some none) (hm : mg "RuntimeError" = none)
    (vv : findCls K (.type "RuntimeError") (.type "type") "__init__" = some (.val (.builtin "RuntimeError.__init__"))) : FnOk P w K mg base CX0 1 f fd ["self", "value"] (spInit C "value") := by
  refine F1.ok scInit15 (fun vs H Q E h => ?_) (fun cdv A outer s H vs Q E hr h => ?_)
  · obtain ⟨a, y, H0, rfl, _⟩ := h
    rfl
  · obtain ⟨a, y, H0, rfl, rfl, h0, k⟩ := h
    refine ⟨_, pss_cons (ps_expr (pe_baseT (pl := _) (bmB := rTail) (newId := "RuntimeError.__new__") (InitF.of F.excBase_RuntimeError.toExcCallFacts) (by decide +kernel) (by rfl) hm (by decide +kernel) typRun (by decide +kernel) vv (pa_cons (pv 0) (pa_cons pe_str pa_nil))))
      (pss_one (ps_put (bmB := rTail) (newId := "RuntimeError.__new__") F.store_RuntimeError (pv 0) (pv 1))), ?_⟩
    refine ⟨_, rfl, a, C, _, rfl, by show 1 ≤ 1000; decide, E1, upd_same, ?_⟩
    refine ⟨_, rfl, _, rfl, a, C, rfl, E1, nt, upd_same, fun d hd ne => ?_⟩
    obtain ⟨z1, z2⟩ := init_end (f := "value") (y := y) h0 hd ne
    exact k _ z1 z2
end
end K00

set_option Elab.async false
set_option linter.all false
set_option maxRecDepth 100000
set_option maxHeartbeats 4000000
namespace K00
open PySem L2 Ek
open PySem.W (findIn subIn mroIn keepIn hasDictIn clsIn takerIn specialIn takesIn readsIn findCls kitOne excInitIn excOver excIn)
/-- the classes: the k-th stands at cs k -/
structure TxtE (K : PySem.W.Frag) (mg : Str → Option Value) (cs : Nat → Addr) : Prop where
  g0 : mg "PushError" = some (.ref (cs 0))
  g1 : mg "InvalidLayout" = some (.ref (cs 1))
  g2 : mg "InvalidTape" = some (.ref (cs 2))
  g3 : mg "InvalidPipeline" = some (.ref (cs 3))
  g4 : mg "InvalidState" = some (.ref (cs 4))
  g5 : mg "InvalidBounds" = some (.ref (cs 5))
  g6 : mg "InvalidStand" = some (.ref (cs 6))
  g7 : mg "InvalidPaper" = some (.ref (cs 7))
  g8 : mg "InvalidChain" = some (.ref (cs 8))
  g9 : mg "InvalidOperation" = some (.ref (cs 9))
  g10 : mg "ParseError" = some (.ref (cs 10))
  g11 : mg "UnknownName" = some (.ref (cs 11))
  g12 : mg "UnknownIndex" = some (.ref (cs 12))
  g13 : mg "NothingToUndo" = some (.ref (cs 13))
  g14 : mg "TooMany" = some (.ref (cs 14))
  g15 : mg "InvalidNumber" = some (.ref (cs 15))
  isin : mg "isinstance" = none
  er : ∀ k, k < 16 → ER K (cs k)
  ob : ObC K
  kit : ∀ k, k < 16 → ∀ j, j < 16 → kitOne K (.ref (cs k)) (.ref (cs j)) = some (rowB k j)
def row (k : Nat) : List Bool := (List.range 16).map (rowB k)
def spClasses (cs : Nat → Addr) : Sp := fun vs H Q _ => ∃ (a : Addr) (k : Nat), vs = [.ref a] ∧ k < 16 ∧ ErrAt H a (cs k) ∧ ∀ H' L, Same H H' → H' L = some (.lst ((row k).map V.bl)) → Q (.ref L) H'
section
variable {P : Program} {w : World} {K : PySem.W.Frag} {mg : Str → Option Value} {base : Heap} {cs : Nat → Addr}
theorem scClasses : FnScope ["error", "found"] ["error"] (defScope sClasses) := ⟨rfl, rfl, rfl, by decide +kernel, rfl, by decide +kernel, by decide +kernel⟩
theorem ok_classes {f : Addr} {fd : FuncData} (F : Fun K "_law_classes" "_law_classes" sClasses f fd) (T : TxtE K mg cs) : FnOk P w K mg base CX0 1 f fd ["error"] (spClasses cs) := by
  refine F.ok scClasses (fun vs H Q E h => ?_) (fun cdv A outer s H vs Q E hr h => ?_)
  · obtain ⟨a, k, rfl, _⟩ := h
    rfl
  · obtain ⟨a, n, rfl, hn, he, k⟩ := h
    refine ⟨_, pss_cons (ps_set (i := 1) scClasses.nd rfl (Or.inl rfl) (pe_lst (pa_cons (pe_callB call_isX (by rfl) T.isin (by decide +kernel) (pa_cons (pv 0) (pa_cons (pe_glob (v := .ref (cs 0)) rfl T.g0 rfl) pa_nil))) (pa_cons (pe_callB call_isX (by rfl) T.isin (by decide +kernel) (pa_cons (pv 0) (pa_cons (pe_glob (v := .ref (cs 1)) rfl T.g1 rfl) pa_nil))) (pa_cons (pe_callB call_isX (by rfl) T.isin (by decide +kernel) (pa_cons (pv 0) (pa_cons (pe_glob (v := .ref (cs 2)) rfl T.g2 rfl) pa_nil))) pa_nil)))))
      (pss_cons (ps_set (i := 1) scClasses.nd rfl (Or.inl rfl) (pe_op op_cat (pv 1) (pe_lst (pa_cons (pe_callB call_isX (by rfl) T.isin (by decide +kernel) (pa_cons (pv 0) (pa_cons (pe_glob (v := .ref (cs 3)) rfl T.g3 rfl) pa_nil))) (pa_cons (pe_callB call_isX (by rfl) T.isin (by decide +kernel) (pa_cons (pv 0) (pa_cons (pe_glob (v := .ref (cs 4)) rfl T.g4 rfl) pa_nil))) pa_nil)))))
      (pss_cons (ps_set (i := 1) scClasses.nd rfl (Or.inl rfl) (pe_op op_cat (pv 1) (pe_lst (pa_cons (pe_callB call_isX (by rfl) T.isin (by decide +kernel) (pa_cons (pv 0) (pa_cons (pe_glob (v := .ref (cs 5)) rfl T.g5 rfl) pa_nil))) (pa_cons (pe_callB call_isX (by rfl) T.isin (by decide +kernel) (pa_cons (pv 0) (pa_cons (pe_glob (v := .ref (cs 6)) rfl T.g6 rfl) pa_nil))) pa_nil)))))
      (pss_cons (ps_set (i := 1) scClasses.nd rfl (Or.inl rfl) (pe_op op_cat (pv 1) (pe_lst (pa_cons (pe_callB call_isX (by rfl) T.isin (by decide +kernel) (pa_cons (pv 0) (pa_cons (pe_glob (v := .ref (cs 7)) rfl T.g7 rfl) pa_nil))) (pa_cons (pe_callB call_isX (by rfl) T.isin (by decide +kernel) (pa_cons (pv 0) (pa_cons (pe_glob (v := .ref (cs 8)) rfl T.g8 rfl) pa_nil))) pa_nil)))))
      (pss_cons (ps_set (i := 1) scClasses.nd rfl (Or.inl rfl) (pe_op op_cat (pv 1) (pe_lst (pa_cons (pe_callB call_isX (by rfl) T.isin (by decide +kernel) (pa_cons (pv 0) (pa_cons (pe_glob (v := .ref (cs 9)) rfl T.g9 rfl) pa_nil))) pa_nil))))
      (pss_cons (ps_set (i := 1) scClasses.nd rfl (Or.inl rfl) (pe_op op_cat (pv 1) (pe_lst (pa_cons (pe_callB call_isX (by rfl) T.isin (by decide +kernel) (pa_cons (pv 0) (pa_cons (pe_glob (v := .ref (cs 10)) rfl T.g10 rfl) pa_nil))) (pa_cons (pe_callB call_isX (by rfl) T.isin (by decide +kernel) (pa_cons (pv 0) (pa_cons (pe_glob (v := .ref (cs 11)) rfl T.g11 rfl) pa_nil))) (pa_cons (pe_callB call_isX (by rfl) T.isin (by decide +kernel) (pa_cons (pv 0) (pa_cons (pe_glob (v := .ref (cs 12)) rfl T.g12 rfl) pa_nil))) pa_nil))))))
      (pss_one (ps_ret (pe_op op_cat (pv 1) (pe_lst (pa_cons (pe_callB call_isX (by rfl) T.isin (by decide +kernel) (pa_cons (pv 0) (pa_cons (pe_glob (v := .ref (cs 13)) rfl T.g13 rfl) pa_nil))) (pa_cons (pe_callB call_isX (by rfl) T.isin (by decide +kernel) (pa_cons (pv 0) (pa_cons (pe_glob (v := .ref (cs 14)) rfl T.g14 rfl) pa_nil))) (pa_cons (pe_callB call_isX (by rfl) T.isin (by decide +kernel) (pa_cons (pv 0) (pa_cons (pe_glob (v := .ref (cs 15)) rfl T.g15 rfl) pa_nil))) pa_nil)))))))))))), ?_⟩
    have er := T.er n hn
    have kt : ∀ j, j < 16 → kitOne K (.ref (cs n)) (.ref (cs j)) = some (rowB n j) := T.kit n hn
    refine ⟨_, rfl, a, cs n, _, _, _, rfl, .own _, he, er, T.ob, kt 0 (by decide), _, rfl, a, cs n, _, _, _, rfl, .own _, he, er, T.ob, kt 1 (by decide), _, rfl, a, cs n, _, _, _, rfl, .own _, he, er, T.ob, kt 2 (by decide), by show 3 ≤ sizeLine; decide, fun l0 h0 => ?_⟩
    have s0 : Same H _ := same_new (o := .lst [.bl (rowB n 0), .bl (rowB n 1), .bl (rowB n 2)]) h0
    have d0 : upd H l0 (.lst [.bl (rowB n 0), .bl (rowB n 1), .bl (rowB n 2)]) l0 = some (.lst (([0, 1, 2].map (rowB n)).map V.bl)) := upd_same
    generalize upd H l0 (.lst [.bl (rowB n 0), .bl (rowB n 1), .bl (rowB n 2)]) = H0 at s0 d0
    have e1 := err_mono he s0
    refine ⟨_, rfl, _, rfl, a, cs n, _, _, _, rfl, .own _, e1, er, T.ob, kt 3 (by decide), _, rfl, a, cs n, _, _, _, rfl, .own _, e1, er, T.ob, kt 4 (by decide), by show 2 ≤ sizeLine; decide, fun m1 hm1 => ?_⟩
    have n1 : l0 ≠ m1 := ne_of_none d0 hm1
    refine ⟨l0, m1, _, _, rfl, rfl, (upd_ne n1).trans d0, upd_same, by show 3 + 2 ≤ sizeLine; decide, fun l1 h1 => ?_⟩
    have s1 : Same H _ := (s0.trans (same_new (o := .lst [.bl (rowB n 3), .bl (rowB n 4)]) hm1)).trans (same_new (o := .lst (([0, 1, 2].map (rowB n)).map V.bl ++ [.bl (rowB n 3), .bl (rowB n 4)])) h1)
    have d1 : upd (upd H0 m1 (.lst [.bl (rowB n 3), .bl (rowB n 4)])) l1 (.lst (([0, 1, 2].map (rowB n)).map V.bl ++ [.bl (rowB n 3), .bl (rowB n 4)])) l1 = some (.lst (([0, 1, 2, 3, 4].map (rowB n)).map V.bl)) := upd_same
    generalize upd (upd H0 m1 (.lst [.bl (rowB n 3), .bl (rowB n 4)])) l1 (.lst (([0, 1, 2].map (rowB n)).map V.bl ++ [.bl (rowB n 3), .bl (rowB n 4)])) = H1 at s1 d1
    have e2 := err_mono he s1
    refine ⟨_, rfl, _, rfl, a, cs n, _, _, _, rfl, .own _, e2, er, T.ob, kt 5 (by decide), _, rfl, a, cs n, _, _, _, rfl, .own _, e2, er, T.ob, kt 6 (by decide), by show 2 ≤ sizeLine; decide, fun m2 hm2 => ?_⟩
    have n2 : l1 ≠ m2 := ne_of_none d1 hm2
    refine ⟨l1, m2, _, _, rfl, rfl, (upd_ne n2).trans d1, upd_same, by show 5 + 2 ≤ sizeLine; decide, fun l2 h2 => ?_⟩
    have s2 : Same H _ := (s1.trans (same_new (o := .lst [.bl (rowB n 5), .bl (rowB n 6)]) hm2)).trans (same_new (o := .lst (([0, 1, 2, 3, 4].map (rowB n)).map V.bl ++ [.bl (rowB n 5), .bl (rowB n 6)])) h2)
    have d2 : upd (upd H1 m2 (.lst [.bl (rowB n 5), .bl (rowB n 6)])) l2 (.lst (([0, 1, 2, 3, 4].map (rowB n)).map V.bl ++ [.bl (rowB n 5), .bl (rowB n 6)])) l2 = some (.lst (([0, 1, 2, 3, 4, 5, 6].map (rowB n)).map V.bl)) := upd_same
    generalize upd (upd H1 m2 (.lst [.bl (rowB n 5), .bl (rowB n 6)])) l2 (.lst (([0, 1, 2, 3, 4].map (rowB n)).map V.bl ++ [.bl (rowB n 5), .bl (rowB n 6)])) = H2 at s2 d2
    have e3 := err_mono he s2
    refine ⟨_, rfl, _, rfl, a, cs n, _, _, _, rfl, .own _, e3, er, T.ob, kt 7 (by decide), _, rfl, a, cs n, _, _, _, rfl, .own _, e3, er, T.ob, kt 8 (by decide), by show 2 ≤ sizeLine; decide, fun m3 hm3 => ?_⟩
    have n3 : l2 ≠ m3 := ne_of_none d2 hm3
    refine ⟨l2, m3, _, _, rfl, rfl, (upd_ne n3).trans d2, upd_same, by show 7 + 2 ≤ sizeLine; decide, fun l3 h3 => ?_⟩
    have s3 : Same H _ := (s2.trans (same_new (o := .lst [.bl (rowB n 7), .bl (rowB n 8)]) hm3)).trans (same_new (o := .lst (([0, 1, 2, 3, 4, 5, 6].map (rowB n)).map V.bl ++ [.bl (rowB n 7), .bl (rowB n 8)])) h3)
    have d3 : upd (upd H2 m3 (.lst [.bl (rowB n 7), .bl (rowB n 8)])) l3 (.lst (([0, 1, 2, 3, 4, 5, 6].map (rowB n)).map V.bl ++ [.bl (rowB n 7), .bl (rowB n 8)])) l3 = some (.lst (([0, 1, 2, 3, 4, 5, 6, 7, 8].map (rowB n)).map V.bl)) := upd_same
    generalize upd (upd H2 m3 (.lst [.bl (rowB n 7), .bl (rowB n 8)])) l3 (.lst (([0, 1, 2, 3, 4, 5, 6].map (rowB n)).map V.bl ++ [.bl (rowB n 7), .bl (rowB n 8)])) = H3 at s3 d3
    have e4 := err_mono he s3
    refine ⟨_, rfl, _, rfl, a, cs n, _, _, _, rfl, .own _, e4, er, T.ob, kt 9 (by decide), by show 1 ≤ sizeLine; decide, fun m4 hm4 => ?_⟩
    have n4 : l3 ≠ m4 := ne_of_none d3 hm4
    refine ⟨l3, m4, _, _, rfl, rfl, (upd_ne n4).trans d3, upd_same, by show 9 + 1 ≤ sizeLine; decide, fun l4 h4 => ?_⟩
    have s4 : Same H _ := (s3.trans (same_new (o := .lst [.bl (rowB n 9)]) hm4)).trans (same_new (o := .lst (([0, 1, 2, 3, 4, 5, 6, 7, 8].map (rowB n)).map V.bl ++ [.bl (rowB n 9)])) h4)
    have d4 : upd (upd H3 m4 (.lst [.bl (rowB n 9)])) l4 (.lst (([0, 1, 2, 3, 4, 5, 6, 7, 8].map (rowB n)).map V.bl ++ [.bl (rowB n 9)])) l4 = some (.lst (([0, 1, 2, 3, 4, 5, 6, 7, 8, 9].map (rowB n)).map V.bl)) := upd_same
    generalize upd (upd H3 m4 (.lst [.bl (rowB n 9)])) l4 (.lst (([0, 1, 2, 3, 4, 5, 6, 7, 8].map (rowB n)).map V.bl ++ [.bl (rowB n 9)])) = H4 at s4 d4
    have e5 := err_mono he s4
    refine ⟨_, rfl, _, rfl, a, cs n, _, _, _, rfl, .own _, e5, er, T.ob, kt 10 (by decide), _, rfl, a, cs n, _, _, _, rfl, .own _, e5, er, T.ob, kt 11 (by decide), _, rfl, a, cs n, _, _, _, rfl, .own _, e5, er, T.ob, kt 12 (by decide), by show 3 ≤ sizeLine; decide, fun m5 hm5 => ?_⟩
    have n5 : l4 ≠ m5 := ne_of_none d4 hm5
    refine ⟨l4, m5, _, _, rfl, rfl, (upd_ne n5).trans d4, upd_same, by show 10 + 3 ≤ sizeLine; decide, fun l5 h5 => ?_⟩
    have s5 : Same H _ := (s4.trans (same_new (o := .lst [.bl (rowB n 10), .bl (rowB n 11), .bl (rowB n 12)]) hm5)).trans (same_new (o := .lst (([0, 1, 2, 3, 4, 5, 6, 7, 8, 9].map (rowB n)).map V.bl ++ [.bl (rowB n 10), .bl (rowB n 11), .bl (rowB n 12)])) h5)
    have d5 : upd (upd H4 m5 (.lst [.bl (rowB n 10), .bl (rowB n 11), .bl (rowB n 12)])) l5 (.lst (([0, 1, 2, 3, 4, 5, 6, 7, 8, 9].map (rowB n)).map V.bl ++ [.bl (rowB n 10), .bl (rowB n 11), .bl (rowB n 12)])) l5 = some (.lst (([0, 1, 2, 3, 4, 5, 6, 7, 8, 9, 10, 11, 12].map (rowB n)).map V.bl)) := upd_same
    generalize upd (upd H4 m5 (.lst [.bl (rowB n 10), .bl (rowB n 11), .bl (rowB n 12)])) l5 (.lst (([0, 1, 2, 3, 4, 5, 6, 7, 8, 9].map (rowB n)).map V.bl ++ [.bl (rowB n 10), .bl (rowB n 11), .bl (rowB n 12)])) = H5 at s5 d5
    have e6 := err_mono he s5
    refine ⟨_, rfl, _, rfl, a, cs n, _, _, _, rfl, .own _, e6, er, T.ob, kt 13 (by decide), _, rfl, a, cs n, _, _, _, rfl, .own _, e6, er, T.ob, kt 14 (by decide), _, rfl, a, cs n, _, _, _, rfl, .own _, e6, er, T.ob, kt 15 (by decide), by show 3 ≤ sizeLine; decide, fun m6 hm6 => ?_⟩
    have n6 : l5 ≠ m6 := ne_of_none d5 hm6
    refine ⟨l5, m6, _, _, rfl, rfl, (upd_ne n6).trans d5, upd_same, by show 13 + 3 ≤ sizeLine; decide, fun l6 h6 => ?_⟩
    exact k _ l6 ((s5.trans (same_new hm6)).trans (same_new h6)) upd_same
end
end K00

set_option Elab.async false
set_option linter.all false
set_option maxRecDepth 100000
set_option maxHeartbeats 4000000
namespace K00
open PySem L2 Ek
open PySem.W (findIn subIn mroIn keepIn hasDictIn clsIn takerIn specialIn takesIn readsIn findCls kitOne excInitIn excOver excIn)
/-- what the law's own body asks of the classes -/
structure TxtF (K : PySem.W.Frag) (mg : Str → Option Value) (cs fi : Nat → Addr) (di : Nat → FuncData) (fC : Addr) (dC : FuncData) (fB : Addr) (dB : FuncData) : Prop where
  ex : ∀ k, k < 10 → excIn K (cs k) vTail "ValueError.__new__" = true
  kC : ∀ k, k < 10 → keepIn K (.ref (cs k)) = true
  kitV : ∀ k, k < 16 → kitOne K (.ref (cs k)) (.type "ValueError") = some (decide (k < 11))
  b11 : kitOne K (.ref (cs 11)) (.type "KeyError") = some true
  b12 : kitOne K (.ref (cs 12)) (.type "IndexError") = some true
  b13 : kitOne K (.ref (cs 13)) (.type "LookupError") = some true
  b14 : kitOne K (.ref (cs 14)) (.type "OverflowError") = some true
  b15 : kitOne K (.ref (cs 15)) (.type "RuntimeError") = some true
  n13 : kitOne K (.ref (cs 13)) (.type "KeyError") = some false
  m13 : kitOne K (.ref (cs 13)) (.type "IndexError") = some false
  vE : mg "ValueError" = none
  kE : mg "KeyError" = none
  iE : mg "IndexError" = none
  lE : mg "LookupError" = none
  oE : mg "OverflowError" = none
  rE : mg "RuntimeError" = none
  e10 : EC K (cs 10) vTail "ValueError.__new__"
  i10 : findIn K (.ref (cs 10)) "__init__" = some (some (.ref (fi 10)))
  t10 : PySem.W.typeIn K (.ref (fi 10)) = some (.type "function")
  f10 : Fun K "__init__" "ParseError.__init__" sInit10 (fi 10) (di 10)
  d10 : Binds K (di 10) ["self", "index"] []
  a10 : findIn K (.ref (cs 10)) "index" = some none
  p10 : takerIn K (cs 10) "index" = some none
  e11 : EC K (cs 11) kTail "LookupError.__new__"
  i11 : findIn K (.ref (cs 11)) "__init__" = some (some (.ref (fi 11)))
  t11 : PySem.W.typeIn K (.ref (fi 11)) = some (.type "function")
  f11 : Fun K "__init__" "UnknownName.__init__" sInit11 (fi 11) (di 11)
  d11 : Binds K (di 11) ["self", "name"] []
  a11 : findIn K (.ref (cs 11)) "name" = some none
  p11 : takerIn K (cs 11) "name" = some none
  e12 : EC K (cs 12) iTail "IndexError.__new__"
  i12 : findIn K (.ref (cs 12)) "__init__" = some (some (.ref (fi 12)))
  t12 : PySem.W.typeIn K (.ref (fi 12)) = some (.type "function")
  f12 : Fun K "__init__" "UnknownIndex.__init__" sInit12 (fi 12) (di 12)
  d12 : Binds K (di 12) ["self", "index"] []
  a12 : findIn K (.ref (cs 12)) "index" = some none
  p12 : takerIn K (cs 12) "index" = some none
  e13 : EC K (cs 13) lTail "LookupError.__new__"
  i13 : findIn K (.ref (cs 13)) "__init__" = some (some (.ref (fi 13)))
  t13 : PySem.W.typeIn K (.ref (fi 13)) = some (.type "function")
  f13 : Fun K "__init__" "NothingToUndo.__init__" sInit13 (fi 13) (di 13)
  d13 : Binds K (di 13) ["self", "many"] []
  a13 : findIn K (.ref (cs 13)) "many" = some none
  p13 : takerIn K (cs 13) "many" = some none
  e14 : EC K (cs 14) oTail "OverflowError.__new__"
  i14 : findIn K (.ref (cs 14)) "__init__" = some (some (.ref (fi 14)))
  t14 : PySem.W.typeIn K (.ref (fi 14)) = some (.type "function")
  f14 : Fun K "__init__" "TooMany.__init__" sInit14 (fi 14) (di 14)
  d14 : Binds K (di 14) ["self", "limit"] []
  a14 : findIn K (.ref (cs 14)) "limit" = some none
  p14 : takerIn K (cs 14) "limit" = some none
  e15 : EC K (cs 15) rTail "RuntimeError.__new__"
  i15 : findIn K (.ref (cs 15)) "__init__" = some (some (.ref (fi 15)))
  t15 : PySem.W.typeIn K (.ref (fi 15)) = some (.type "function")
  f15 : Fun K "__init__" "InvalidNumber.__init__" sInit15 (fi 15) (di 15)
  d15 : Binds K (di 15) ["self", "value"] []
  a15 : findIn K (.ref (cs 15)) "value" = some none
  p15 : takerIn K (cs 15) "value" = some none
  v11 : findCls K (.type "KeyError") (.type "type") "__init__" = some (.val (.builtin "KeyError.__init__"))
  v12 : findCls K (.type "IndexError") (.type "type") "__init__" = some (.val (.builtin "IndexError.__init__"))
  v13 : findCls K (.type "LookupError") (.type "type") "__init__" = some (.val (.builtin "LookupError.__init__"))
  v14 : findCls K (.type "OverflowError") (.type "type") "__init__" = some (.val (.builtin "OverflowError.__init__"))
  v15 : findCls K (.type "RuntimeError") (.type "type") "__init__" = some (.val (.builtin "RuntimeError.__init__"))
  push : PushF K mg (cs 0)
  uC : Fun K "_law_classes" "_law_classes" sClasses fC dC
  bC : Binds K dC ["error"] []
  gC : mg "_law_classes" = some (.ref fC)
  uB : Fun K "_law_start" "_law_start" sStart fB dB
  bB : Binds K dB ["script", "at"] []
  gB : mg "_law_start" = some (.ref fB)
def spLaw (K : PySem.W.Frag) : Sp := fun vs H Q _ => ∃ (a : Addr) (ns : List Int), vs = [.ref a] ∧ SqL K H a (ns.map V.int) ∧ ∀ H', Q (.bl true) H'
abbrev nLaw : List Str := ["script", "bag", "word", "given", "errors", "told", "more", "k", "kept", "turn", "j"]
theorem dp_bls {K : PySem.W.Frag} {H : Hp} : ∀ bs : List Bool, DpAll K H (bs.map V.bl) (bs.map PyData.bool)
  | [] => .nil
  | b :: r => .cons (.bl b) (dp_bls r)
theorem Same.tups {H H' : Hp} (s : Same H H') : ∀ t xs, H t = some (.tup xs) → H' t = some (.tup xs) := fun t xs e => s _ _ e
theorem row_shaped : ∀ i, i < 16 → SeqAt.shaped (.list ((row i).map PyData.bool)) = true := by decide +kernel
theorem row_eqv : ∀ i, i < 16 → PyData.eqv (.list ((row i).map PyData.bool)) (.list ((row i).map PyData.bool)) = true := by decide +kernel
theorem above10 : Above vTail "ValueError" "ValueError" := ⟨by decide +kernel, by decide +kernel, by decide +kernel, by decide +kernel⟩
theorem above11 : Above kTail "LookupError" "KeyError" := ⟨by decide +kernel, by decide +kernel, by decide +kernel, by decide +kernel⟩
theorem above12 : Above iTail "IndexError" "IndexError" := ⟨by decide +kernel, by decide +kernel, by decide +kernel, by decide +kernel⟩
theorem above13 : Above lTail "LookupError" "LookupError" := ⟨by decide +kernel, by decide +kernel, by decide +kernel, by decide +kernel⟩
theorem above14 : Above oTail "OverflowError" "OverflowError" := ⟨by decide +kernel, by decide +kernel, by decide +kernel, by decide +kernel⟩
theorem above15 : Above rTail "RuntimeError" "RuntimeError" := ⟨by decide +kernel, by decide +kernel, by decide +kernel, by decide +kernel⟩
section
variable {P : Program} {w : World} {K : PySem.W.Frag} {mg : Str → Option Value} {base : Heap} {fT fP fW fN fV fA fS fC fB : Addr} {cs fi : Nat → Addr} {di : Nat → FuncData} {dC dB : FuncData}
theorem scLaw : FnScope nLaw ["script"] (defScope sLaw) := ⟨rfl, rfl, rfl, by decide +kernel, rfl, by decide +kernel, by decide +kernel⟩
theorem ok_law {f : Addr} {fd dT dP dW dN dV dA dS : FuncData} (F0 : Fun K "law" "law" sLaw f fd) (D : Defs K fT fP fW fN fV fA dT dP dW dN dV dA) (T : TxtC mg fT fP fW fN fV fA fS) (FS : Fun K "_law_same" "_law_same" sSame fS dS) (bS : Binds K dS ["one", "other"] [])
    (TE : TxtE K mg cs) (TF : TxtF K mg cs fi di fC dC fB dB) : FnOk P w K mg base CX0 7 f fd ["script"] (spLaw K) := by
  have GB : FnOk P w K mg base CX0 1 fB dB ["script", "at"] (spStart K) := ok_start TF.uB T.toTxtA
  have GN : FnOk P w K mg base CX0 3 fN dN ["bag", "known"] spName := ok_name D.N T.toTxtB D.T D.bT D.P D.bP D.W D.bW
  have GA : FnOk P w K mg base CX0 6 fA dA ["bag", "depth"] (spAny 2) := ok_any D T 2
  have GS : FnOk P w K mg base CX0 3 fS dS ["one", "other"] (spSame 2) := ok_same FS T bS 2
  have GC : FnOk P w K mg base CX0 1 fC dC ["error"] (spClasses cs) := ok_classes TF.uC TE
  have G10 : FnOk P w K mg base CX0 1 (fi 10) (di 10) ["self", "index"] (spInit (cs 10) "index") := ok_init10 TF.f10 TF.e10 TF.p10 TF.push
  have G11 : FnOk P w K mg base CX0 1 (fi 11) (di 11) ["self", "name"] (spInit (cs 11) "name") := ok_init11 TF.f11 TF.e11 TF.p11 TF.kE TF.v11
  have G12 : FnOk P w K mg base CX0 1 (fi 12) (di 12) ["self", "index"] (spInit (cs 12) "index") := ok_init12 TF.f12 TF.e12 TF.p12 TF.iE TF.v12
  have G13 : FnOk P w K mg base CX0 1 (fi 13) (di 13) ["self", "many"] (spInit (cs 13) "many") := ok_init13 TF.f13 TF.e13 TF.p13 TF.lE TF.v13
  have G14 : FnOk P w K mg base CX0 1 (fi 14) (di 14) ["self", "limit"] (spInit (cs 14) "limit") := ok_init14 TF.f14 TF.e14 TF.p14 TF.oE TF.v14
  have G15 : FnOk P w K mg base CX0 1 (fi 15) (di 15) ["self", "value"] (spInit (cs 15) "value") := ok_init15 TF.f15 TF.e15 TF.p15 TF.rE TF.v15
  refine F0.ok scLaw (fun vs H Q E h => ?_) (fun cdv A outer s H vs Q E hr h => ?_)
  · obtain ⟨a, ns, rfl, _⟩ := h
    rfl
  · obtain ⟨a, ns, rfl, hS, k⟩ := h
    have hr1 : Room 1 _ := hr.mono (by decide)
    have hr2 : Room 2 _ := hr.mono (by decide)
    have hr3 : Room 3 _ := hr.mono (by decide)
    refine ⟨_, pss_cons (ps_set (i := 1) scLaw.nd rfl (Or.inr rfl) (pe_call GB hr1 rfl TF.gB TF.uB.kp TF.bB .nil pass0 (pa_cons (pv 0) (pa_cons pe_int pa_nil))))
      (pss_cons (ps_set (i := 2) scLaw.nd rfl (Or.inl rfl) (pe_call GN hr3 rfl T.name D.N.kp D.bN .nil pass0 (pa_cons (pv 1) (pa_cons (pe_lst pa_nil) pa_nil))))
      (pss_cons (ps_set (i := 3) scLaw.nd rfl (Or.inr rfl) (pe_lc (own := [("turn", 9)]) (g := gName 9) (tt := tYes) rfl scLaw.nd (pi_range1 rfl T.range (pa_cons pe_int pa_nil)) (blkOk_by (N := nLaw) (sc := defScope sLaw) (by decide +kernel)) (fun _ _ _ _ _ => pg_name (i := 9) scLaw.nd rfl (Or.inl rfl)) (fun _ _ _ _ _ => pts_nil) (fun _ _ _ _ _ => pe_call GA hr rfl T.any D.A.kp D.bA .nil pass0 (pa_cons (pv 1) (pa_cons pe_int pa_nil)))))
      (pss_cons (ps_set (i := 4) scLaw.nd rfl (Or.inl rfl) (pe_lst (pa_cons (pe_exc1 F.excBase_ValueError (TF.ex 0 (by decide)) TE.g0 (TF.kC 0 (by decide)) (by rfl) (pv 2)) (pa_cons (pe_exc1 F.excBase_ValueError (TF.ex 1 (by decide)) TE.g1 (TF.kC 1 (by decide)) (by rfl) (pv 2)) (pa_cons (pe_exc1 F.excBase_ValueError (TF.ex 2 (by decide)) TE.g2 (TF.kC 2 (by decide)) (by rfl) (pv 2)) (pa_cons (pe_exc1 F.excBase_ValueError (TF.ex 3 (by decide)) TE.g3 (TF.kC 3 (by decide)) (by rfl) (pv 2)) (pa_cons (pe_exc1 F.excBase_ValueError (TF.ex 4 (by decide)) TE.g4 (TF.kC 4 (by decide)) (by rfl) (pv 2)) pa_nil)))))))
      (pss_cons (ps_set (i := 4) scLaw.nd rfl (Or.inl rfl) (pe_op op_cat (pv 4) (pe_lst (pa_cons (pe_exc1 F.excBase_ValueError (TF.ex 5 (by decide)) TE.g5 (TF.kC 5 (by decide)) (by rfl) (pv 2)) (pa_cons (pe_exc1 F.excBase_ValueError (TF.ex 6 (by decide)) TE.g6 (TF.kC 6 (by decide)) (by rfl) (pv 2)) (pa_cons (pe_exc1 F.excBase_ValueError (TF.ex 7 (by decide)) TE.g7 (TF.kC 7 (by decide)) (by rfl) (pv 2)) (pa_cons (pe_exc1 F.excBase_ValueError (TF.ex 8 (by decide)) TE.g8 (TF.kC 8 (by decide)) (by rfl) (pv 2)) pa_nil)))))))
      (pss_cons (ps_set (i := 5) scLaw.nd rfl (Or.inl rfl) (pe_lst (pa_cons (pe_exc1 F.excBase_ValueError (TF.ex 9 (by decide)) TE.g9 (TF.kC 9 (by decide)) (by rfl) (pv 2)) (pa_cons (pe_mkE F.excBase_ValueError above10 TF.e10 TF.i10 TF.t10 G10 hr2 TF.d10 pass0 (by rfl) TE.g10 (pa_cons (pe_ix (r := rIxL K) ix_list (pv 3) pe_int (fun _ _ => rfl)) pa_nil)) (pa_cons (pe_mkE F.excBase_LookupError above11 TF.e11 TF.i11 TF.t11 G11 hr2 TF.d11 pass0 (by rfl) TE.g11 (pa_cons (pe_ix (r := rIxL K) ix_list (pv 3) pe_int (fun _ _ => rfl)) pa_nil)) (pa_cons (pe_mkE F.excBase_IndexError above12 TF.e12 TF.i12 TF.t12 G12 hr2 TF.d12 pass0 (by rfl) TE.g12 (pa_cons (pe_ix (r := rIxL K) ix_list (pv 3) pe_int (fun _ _ => rfl)) pa_nil)) pa_nil))))))
      (pss_cons (ps_set (i := 6) scLaw.nd rfl (Or.inl rfl) (pe_lst (pa_cons (pe_mkE F.excBase_LookupError above13 TF.e13 TF.i13 TF.t13 G13 hr2 TF.d13 pass0 (by rfl) TE.g13 (pa_cons (pe_ix (r := rIxL K) ix_list (pv 3) pe_int (fun _ _ => rfl)) pa_nil)) (pa_cons (pe_mkE F.excBase_OverflowError above14 TF.e14 TF.i14 TF.t14 G14 hr2 TF.d14 pass0 (by rfl) TE.g14 (pa_cons (pe_ix (r := rIxL K) ix_list (pv 3) pe_int (fun _ _ => rfl)) pa_nil)) (pa_cons (pe_mkE F.excBase_RuntimeError above15 TF.e15 TF.i15 TF.t15 G15 hr2 TF.d15 pass0 (by rfl) TE.g15 (pa_cons (pe_ix (r := rIxL K) ix_list (pv 3) pe_int (fun _ _ => rfl)) pa_nil)) pa_nil)))))
      (pss_cons (ps_set (i := 4) scLaw.nd rfl (Or.inl rfl) (pe_op op_cat (pe_op op_cat (pv 4) (pv 5)) (pv 6)))
      (pss_cons (ps_for PassesOwn.never rfl (pi_range1 rfl T.range (pa_cons (pe_callB call_len_seq (by rfl) T.len PySem.boot_len (pa_cons (pv 4) pa_nil)) pa_nil)) (pg_name (i := 7) scLaw.nd rfl (Or.inr rfl))
        (pss_cons (ps_if (pt_cmpR (op_neD hr.units) (pe_call GC hr1 rfl TF.gC TF.uC.kp TF.bC .nil pass0 (pa_cons (pe_ix (r := rIxL K) ix_list (pv 4) (pv 7) (fun _ _ => rfl)) pa_nil)) (pe_lc (own := [("j", 10)]) (g := gName 10) (tt := tYes) rfl scLaw.nd (pi_range1 rfl T.range (pa_cons (pe_callB call_len_seq (by rfl) T.len PySem.boot_len (pa_cons (pv 4) pa_nil)) pa_nil)) (blkOk_by (N := nLaw) (sc := defScope sLaw) (by decide +kernel)) (fun _ _ _ _ _ => pg_name (i := 10) scLaw.nd rfl (Or.inl rfl)) (fun _ _ _ _ _ => pts_nil) (fun _ _ _ _ _ => pe_or (pe_cmpR op_eq (pv 10) (pv 7) (nomark _)) (pe_one (pe_and (pe_cmpR op_eq (pv 10) pe_int (nomark _)) (pe_one (pe_cmpR op_lt (pv 7) pe_int (nomark _))))))) (nomark _)) (pss_one (ps_ret pe_bl)) pss_nil)
        (pss_one (ps_if (pt_cmpR op_ne (pe_callB call_isX (by rfl) T.isin (by decide +kernel) (pa_cons (pe_ix (r := rIxL K) ix_list (pv 4) (pv 7) (fun _ _ => rfl)) (pa_cons (pe_bltn (v := .ty "ValueError") (by rfl) TF.vE (by decide +kernel) rfl) pa_nil))) (pe_cmpR op_lt (pv 7) pe_int (nomark _)) (nomark _)) (pss_one (ps_ret pe_bl)) pss_nil))))
      (pss_cons (ps_if (PW.pt (pw_or (pt_not (pt_val (pe_callB call_isX (by rfl) T.isin (by decide +kernel) (pa_cons (pe_ix (r := rIxL K) ix_list (pv 5) pe_int (fun _ _ => rfl)) (pa_cons (pe_bltn (v := .ty "KeyError") (by rfl) TF.kE (by decide +kernel) rfl) pa_nil))))) (pw_or1 (pt_not (pt_val (pe_callB call_isX (by rfl) T.isin (by decide +kernel) (pa_cons (pe_ix (r := rIxL K) ix_list (pv 5) pe_int (fun _ _ => rfl)) (pa_cons (pe_bltn (v := .ty "IndexError") (by rfl) TF.iE (by decide +kernel) rfl) pa_nil)))))))) (pss_one (ps_ret pe_bl)) pss_nil)
      (pss_cons (ps_if (PW.pt (pw_or (pt_not (pt_val (pe_callB call_isX (by rfl) T.isin (by decide +kernel) (pa_cons (pe_ix (r := rIxL K) ix_list (pv 6) pe_int (fun _ _ => rfl)) (pa_cons (pe_bltn (v := .ty "LookupError") (by rfl) TF.lE (by decide +kernel) rfl) pa_nil))))) (pw_or1 (pt_not (pt_val (pe_callB call_isX (by rfl) T.isin (by decide +kernel) (pa_cons (pe_ix (r := rIxL K) ix_list (pv 6) pe_int (fun _ _ => rfl)) (pa_cons (pe_bltn (v := .ty "OverflowError") (by rfl) TF.oE (by decide +kernel) rfl) pa_nil)))))))) (pss_one (ps_ret pe_bl)) pss_nil)
      (pss_cons (ps_if (PW.pt (pw_or (pt_not (pt_val (pe_callB call_isX (by rfl) T.isin (by decide +kernel) (pa_cons (pe_ix (r := rIxL K) ix_list (pv 6) pe_int (fun _ _ => rfl)) (pa_cons (pe_bltn (v := .ty "RuntimeError") (by rfl) TF.rE (by decide +kernel) rfl) pa_nil))))) (pw_or (pt_val (pe_callB call_isX (by rfl) T.isin (by decide +kernel) (pa_cons (pe_ix (r := rIxL K) ix_list (pv 6) pe_int (fun _ _ => rfl)) (pa_cons (pe_bltn (v := .ty "KeyError") (by rfl) TF.kE (by decide +kernel) rfl) pa_nil)))) (pw_or1 (pt_val (pe_callB call_isX (by rfl) T.isin (by decide +kernel) (pa_cons (pe_ix (r := rIxL K) ix_list (pv 6) pe_int (fun _ _ => rfl)) (pa_cons (pe_bltn (v := .ty "IndexError") (by rfl) TF.iE (by decide +kernel) rfl) pa_nil)))))))) (pss_one (ps_ret pe_bl)) pss_nil)
      (pss_cons (ps_set (i := 8) scLaw.nd rfl (Or.inr rfl) (pe_lst (pa_cons (pe_atE (pe_ix (r := rIxL K) ix_list (pv 5) pe_int (fun _ _ => rfl))) (pa_cons (pe_atE (pe_ix (r := rIxL K) ix_list (pv 5) pe_int (fun _ _ => rfl))) (pa_cons (pe_atE (pe_ix (r := rIxL K) ix_list (pv 5) pe_int (fun _ _ => rfl))) (pa_cons (pe_atE (pe_ix (r := rIxL K) ix_list (pv 6) pe_int (fun _ _ => rfl))) (pa_cons (pe_atE (pe_ix (r := rIxL K) ix_list (pv 6) pe_int (fun _ _ => rfl))) (pa_cons (pe_atE (pe_ix (r := rIxL K) ix_list (pv 6) pe_int (fun _ _ => rfl))) pa_nil))))))))
      (pss_one (ps_ret (pe_callB (cr_all rfl) (by rfl) T.all (by decide +kernel) (pa_cons (pe_lc (own := [("k", 7)]) (g := gName 7) (tt := tYes) rfl scLaw.nd (pi_range1 rfl T.range (pa_cons pe_int pa_nil)) (blkOk_by (N := nLaw) (sc := defScope sLaw) (by decide +kernel)) (fun _ _ _ _ _ => pg_name (i := 7) scLaw.nd rfl (Or.inl rfl)) (fun _ _ _ _ _ => pts_nil) (fun _ _ _ _ _ => pe_call GS hr3 rfl T.same FS.kp bS .nil pass0 (pa_cons (pe_ix (r := rIxL K) ix_list (pv 8) (pv 7) (fun _ _ => rfl)) (pa_cons (pe_ix (r := rIxL K) ix_list (pv 3) (pv 7) (fun _ _ => rfl)) pa_nil)))) pa_nil)))))))))))))))), ?_⟩
    -- the bag, the word, the six values
    refine ⟨_, rfl, a, ns, rfl, hS, fun H1 B sm1 hB0 b1 => ?_⟩
    refine ⟨_, rfl, Nat.zero_le _, fun l hl => ⟨B, l, rfl, b1.new hl, upd_same, fun word H2 s2 b2 => ?_⟩⟩
    refine ⟨6, rfl, by decide, by decide, fun D0 hD0 => ?_⟩
    refine lc_range (lo := 0) (n := _) (fun i H' => SB B H2 H' ∧ BagAt H' B ∧ ∃ gs : List V, gs.length = i ∧ (∀ v ∈ gs, Shape 2 H' v) ∧ H' D0 = some (.lst gs))
      ⟨(SB.refl B H2).new hD0, b2.new hD0, [], rfl, (fun v h => by cases h), upd_same⟩ ?_ ?_
    · rintro i H' hi ⟨sb, bg, gs, el, e1, hD'⟩
      have nDB : D0 ≠ B := b2.ne hD0
      refine ⟨rfl, ?_⟩
      refine ⟨_, rfl, B, _, rfl, rfl, bg, fun v H3 s3 b3 hv => ?_⟩
      have hD3 := s3 _ _ nDB hD'
      have up : ∀ t xs, H3 t = some (.tup xs) → upd H3 D0 (.lst (gs ++ [v])) t = some (.tup xs) := fun t xs e => by
        rw [upd_ne (ne_of e hD3 (by intro q; cases q))]
        exact e
      refine ⟨gs, hD3, ?_, (sb.trans s3).own hD0, b3.other nDB.symm, gs ++ [v], by simp [el], fun z hz => ?_, upd_same⟩
      · have : i < 6 := hi
        exact small1000 (by omega)
      · rcases List.mem_append.mp hz with q | q
        · exact ((e1 z q).mono (s3.tups bg)).mono up
        · rw [List.mem_singleton.mp q]
          exact hv.mono up
    rintro H3 ⟨_, _, gs, el, sh, hg⟩
    have el6 : gs.length = 6 := el
    obtain ⟨g0, g1, g2, g3, g4, g5, rfl⟩ : ∃ g0 g1 g2 g3 g4 g5, gs = [g0, g1, g2, g3, g4, g5] := by
      match gs, el6 with
      | [a0, a1, a2, a3, a4, a5], _ => exact ⟨a0, a1, a2, a3, a4, a5, rfl⟩
    clear el el6
    have t_H3 : Same H3 H3 := Same.refl H3
    have giv : ∀ H, Same H3 H → H D0 = some (.lst [g0, g1, g2, g3, g4, g5]) := fun H s => s _ _ hg
    refine ⟨_, rfl, fun a0 h0 => ?_⟩
    have z0 : ErrAt (upd H3 a0 (ExO (.ref (cs 0)) a0)) a0 (cs 0) := .inl upd_same
    have q0 : Same H3 (upd H3 a0 (ExO (.ref (cs 0)) a0)) := same_new h0
    generalize upd H3 a0 (ExO (.ref (cs 0)) a0) = K0 at z0 q0
    have t_K0 : Same H3 K0 := (t_H3).trans q0
    refine ⟨_, rfl, fun a1 h1 => ?_⟩
    have z1 : ErrAt (upd K0 a1 (ExO (.ref (cs 1)) a1)) a1 (cs 1) := .inl upd_same
    have q1 : Same K0 (upd K0 a1 (ExO (.ref (cs 1)) a1)) := same_new h1
    generalize upd K0 a1 (ExO (.ref (cs 1)) a1) = K1 at z1 q1
    have t_K1 : Same H3 K1 := (t_K0).trans q1
    refine ⟨_, rfl, fun a2 h2 => ?_⟩
    have z2 : ErrAt (upd K1 a2 (ExO (.ref (cs 2)) a2)) a2 (cs 2) := .inl upd_same
    have q2 : Same K1 (upd K1 a2 (ExO (.ref (cs 2)) a2)) := same_new h2
    generalize upd K1 a2 (ExO (.ref (cs 2)) a2) = K2 at z2 q2
    have t_K2 : Same H3 K2 := (t_K1).trans q2
    refine ⟨_, rfl, fun a3 h3 => ?_⟩
    have z3 : ErrAt (upd K2 a3 (ExO (.ref (cs 3)) a3)) a3 (cs 3) := .inl upd_same
    have q3 : Same K2 (upd K2 a3 (ExO (.ref (cs 3)) a3)) := same_new h3
    generalize upd K2 a3 (ExO (.ref (cs 3)) a3) = K3 at z3 q3
    have t_K3 : Same H3 K3 := (t_K2).trans q3
    refine ⟨_, rfl, fun a4 h4 => ?_⟩
    have z4 : ErrAt (upd K3 a4 (ExO (.ref (cs 4)) a4)) a4 (cs 4) := .inl upd_same
    have q4 : Same K3 (upd K3 a4 (ExO (.ref (cs 4)) a4)) := same_new h4
    generalize upd K3 a4 (ExO (.ref (cs 4)) a4) = K4 at z4 q4
    have t_K4 : Same H3 K4 := (t_K3).trans q4
    refine ⟨by show 5 ≤ sizeLine; decide, fun m1 hm1 => ?_⟩
    have qm1 : Same K4 (upd K4 m1 (.lst [V.ref a0, V.ref a1, V.ref a2, V.ref a3, V.ref a4])) := same_new hm1
    have l_m1 : upd K4 m1 (.lst [V.ref a0, V.ref a1, V.ref a2, V.ref a3, V.ref a4]) m1 = some (.lst [V.ref a0, V.ref a1, V.ref a2, V.ref a3, V.ref a4]) := upd_same
    generalize upd K4 m1 (.lst [V.ref a0, V.ref a1, V.ref a2, V.ref a3, V.ref a4]) = M1 at qm1 l_m1
    have t_M1 : Same H3 M1 := (t_K4).trans qm1
    refine ⟨_, rfl, ?_⟩
    refine ⟨_, rfl, fun a5 h5 => ?_⟩
    have z5 : ErrAt (upd M1 a5 (ExO (.ref (cs 5)) a5)) a5 (cs 5) := .inl upd_same
    have q5 : Same M1 (upd M1 a5 (ExO (.ref (cs 5)) a5)) := same_new h5
    generalize upd M1 a5 (ExO (.ref (cs 5)) a5) = K5 at z5 q5
    have t_K5 : Same H3 K5 := (t_M1).trans q5
    refine ⟨_, rfl, fun a6 h6 => ?_⟩
    have z6 : ErrAt (upd K5 a6 (ExO (.ref (cs 6)) a6)) a6 (cs 6) := .inl upd_same
    have q6 : Same K5 (upd K5 a6 (ExO (.ref (cs 6)) a6)) := same_new h6
    generalize upd K5 a6 (ExO (.ref (cs 6)) a6) = K6 at z6 q6
    have t_K6 : Same H3 K6 := (t_K5).trans q6
    refine ⟨_, rfl, fun a7 h7 => ?_⟩
    have z7 : ErrAt (upd K6 a7 (ExO (.ref (cs 7)) a7)) a7 (cs 7) := .inl upd_same
    have q7 : Same K6 (upd K6 a7 (ExO (.ref (cs 7)) a7)) := same_new h7
    generalize upd K6 a7 (ExO (.ref (cs 7)) a7) = K7 at z7 q7
    have t_K7 : Same H3 K7 := (t_K6).trans q7
    refine ⟨_, rfl, fun a8 h8 => ?_⟩
    have z8 : ErrAt (upd K7 a8 (ExO (.ref (cs 8)) a8)) a8 (cs 8) := .inl upd_same
    have q8 : Same K7 (upd K7 a8 (ExO (.ref (cs 8)) a8)) := same_new h8
    generalize upd K7 a8 (ExO (.ref (cs 8)) a8) = K8 at z8 q8
    have t_K8 : Same H3 K8 := (t_K7).trans q8
    refine ⟨by show 4 ≤ sizeLine; decide, fun m2 hm2 => ?_⟩
    have qm2 : Same K8 (upd K8 m2 (.lst [V.ref a5, V.ref a6, V.ref a7, V.ref a8])) := same_new hm2
    have l_m2 : upd K8 m2 (.lst [V.ref a5, V.ref a6, V.ref a7, V.ref a8]) m2 = some (.lst [V.ref a5, V.ref a6, V.ref a7, V.ref a8]) := upd_same
    generalize upd K8 m2 (.lst [V.ref a5, V.ref a6, V.ref a7, V.ref a8]) = M2 at qm2 l_m2
    have t_M2 : Same H3 M2 := (t_K8).trans qm2
    have w1 : M2 m1 = some (.lst [V.ref a0, V.ref a1, V.ref a2, V.ref a3, V.ref a4]) := qm2 _ _ (q8 _ _ (q7 _ _ (q6 _ _ (q5 _ _ l_m1))))
    refine ⟨m1, m2, _, _, rfl, rfl, w1, l_m2, by show 5 + 4 ≤ sizeLine; decide, fun m3 hm3 => ?_⟩
    have qm3 : Same M2 (upd M2 m3 (.lst ([V.ref a0, V.ref a1, V.ref a2, V.ref a3, V.ref a4] ++ [V.ref a5, V.ref a6, V.ref a7, V.ref a8]))) := same_new hm3
    have l_m3 : upd M2 m3 (.lst ([V.ref a0, V.ref a1, V.ref a2, V.ref a3, V.ref a4] ++ [V.ref a5, V.ref a6, V.ref a7, V.ref a8])) m3 = some (.lst ([V.ref a0, V.ref a1, V.ref a2, V.ref a3, V.ref a4] ++ [V.ref a5, V.ref a6, V.ref a7, V.ref a8])) := upd_same
    generalize upd M2 m3 (.lst ([V.ref a0, V.ref a1, V.ref a2, V.ref a3, V.ref a4] ++ [V.ref a5, V.ref a6, V.ref a7, V.ref a8])) = M3 at qm3 l_m3
    have t_M3 : Same H3 M3 := (t_M2).trans qm3
    refine ⟨_, rfl, fun a9 h9 => ?_⟩
    have z9 : ErrAt (upd M3 a9 (ExO (.ref (cs 9)) a9)) a9 (cs 9) := .inl upd_same
    have q9 : Same M3 (upd M3 a9 (ExO (.ref (cs 9)) a9)) := same_new h9
    generalize upd M3 a9 (ExO (.ref (cs 9)) a9) = K9 at z9 q9
    have t_K9 : Same H3 K9 := (t_M3).trans q9
    refine ⟨_, rfl, D0, _, _, g0, rfl, rfl, SqL.of (giv _ t_K9), rfl, by show 1 ≤ 1000; decide, fun a10 h10 => ⟨a10, _, _, rfl, rfl, h10, fun K10 q10 z10 => ⟨rfl, ?_⟩⟩⟩
    have t_K10 : Same H3 K10 := (t_K9).trans q10
    refine ⟨_, rfl, D0, _, _, g1, rfl, rfl, SqL.of (giv _ t_K10), rfl, by show 1 ≤ 1000; decide, fun a11 h11 => ⟨a11, _, _, rfl, rfl, h11, fun K11 q11 z11 => ⟨rfl, ?_⟩⟩⟩
    have t_K11 : Same H3 K11 := (t_K10).trans q11
    refine ⟨_, rfl, D0, _, _, g2, rfl, rfl, SqL.of (giv _ t_K11), rfl, by show 1 ≤ 1000; decide, fun a12 h12 => ⟨a12, _, _, rfl, rfl, h12, fun K12 q12 z12 => ⟨rfl, ?_⟩⟩⟩
    have t_K12 : Same H3 K12 := (t_K11).trans q12
    refine ⟨by show 4 ≤ sizeLine; decide, fun m4 hm4 => ?_⟩
    have qm4 : Same K12 (upd K12 m4 (.lst [V.ref a9, V.ref a10, V.ref a11, V.ref a12])) := same_new hm4
    have l_m4 : upd K12 m4 (.lst [V.ref a9, V.ref a10, V.ref a11, V.ref a12]) m4 = some (.lst [V.ref a9, V.ref a10, V.ref a11, V.ref a12]) := upd_same
    generalize upd K12 m4 (.lst [V.ref a9, V.ref a10, V.ref a11, V.ref a12]) = M4 at qm4 l_m4
    have t_M4 : Same H3 M4 := (t_K12).trans qm4
    refine ⟨_, rfl, D0, _, _, g3, rfl, rfl, SqL.of (giv _ t_M4), rfl, by show 1 ≤ 1000; decide, fun a13 h13 => ⟨a13, _, _, rfl, rfl, h13, fun K13 q13 z13 => ⟨rfl, ?_⟩⟩⟩
    have t_K13 : Same H3 K13 := (t_M4).trans q13
    refine ⟨_, rfl, D0, _, _, g4, rfl, rfl, SqL.of (giv _ t_K13), rfl, by show 1 ≤ 1000; decide, fun a14 h14 => ⟨a14, _, _, rfl, rfl, h14, fun K14 q14 z14 => ⟨rfl, ?_⟩⟩⟩
    have t_K14 : Same H3 K14 := (t_K13).trans q14
    refine ⟨_, rfl, D0, _, _, g5, rfl, rfl, SqL.of (giv _ t_K14), rfl, by show 1 ≤ 1000; decide, fun a15 h15 => ⟨a15, _, _, rfl, rfl, h15, fun K15 q15 z15 => ⟨rfl, ?_⟩⟩⟩
    have t_K15 : Same H3 K15 := (t_K14).trans q15
    refine ⟨by show 3 ≤ sizeLine; decide, fun m5 hm5 => ?_⟩
    have qm5 : Same K15 (upd K15 m5 (.lst [V.ref a13, V.ref a14, V.ref a15])) := same_new hm5
    have l_m5 : upd K15 m5 (.lst [V.ref a13, V.ref a14, V.ref a15]) m5 = some (.lst [V.ref a13, V.ref a14, V.ref a15]) := upd_same
    generalize upd K15 m5 (.lst [V.ref a13, V.ref a14, V.ref a15]) = M5 at qm5 l_m5
    have t_M5 : Same H3 M5 := (t_K15).trans qm5
    -- all together
    have y4 : Same M4 M5 := ((q13.trans q14).trans q15).trans qm5
    have y3 : Same M3 M5 := ((((q9.trans q10).trans q11).trans q12).trans qm4).trans y4
    refine ⟨_, rfl, _, rfl, m3, m4, _, _, rfl, rfl, y3 _ _ l_m3, y4 _ _ l_m4, by show 9 + 4 ≤ sizeLine; decide, fun m6 hm6 => ?_⟩
    have qm6 : Same M5 (upd M5 m6 (.lst (([V.ref a0, V.ref a1, V.ref a2, V.ref a3, V.ref a4] ++ [V.ref a5, V.ref a6, V.ref a7, V.ref a8]) ++ [V.ref a9, V.ref a10, V.ref a11, V.ref a12]))) := same_new hm6
    have l_m6 : upd M5 m6 (.lst (([V.ref a0, V.ref a1, V.ref a2, V.ref a3, V.ref a4] ++ [V.ref a5, V.ref a6, V.ref a7, V.ref a8]) ++ [V.ref a9, V.ref a10, V.ref a11, V.ref a12])) m6 = some (.lst (([V.ref a0, V.ref a1, V.ref a2, V.ref a3, V.ref a4] ++ [V.ref a5, V.ref a6, V.ref a7, V.ref a8]) ++ [V.ref a9, V.ref a10, V.ref a11, V.ref a12])) := upd_same
    generalize upd M5 m6 (.lst (([V.ref a0, V.ref a1, V.ref a2, V.ref a3, V.ref a4] ++ [V.ref a5, V.ref a6, V.ref a7, V.ref a8]) ++ [V.ref a9, V.ref a10, V.ref a11, V.ref a12])) = M6 at qm6 l_m6
    have t_M6 : Same H3 M6 := (t_M5).trans qm6
    have y5 : Same M4 M6 := y4.trans qm6
    refine ⟨_, rfl, m6, m5, _, _, rfl, rfl, l_m6, qm6 _ _ l_m5, by show 13 + 3 ≤ sizeLine; decide, fun m7 hm7 => ?_⟩
    have qm7 : Same M6 (upd M6 m7 (.lst ((([V.ref a0, V.ref a1, V.ref a2, V.ref a3, V.ref a4] ++ [V.ref a5, V.ref a6, V.ref a7, V.ref a8]) ++ [V.ref a9, V.ref a10, V.ref a11, V.ref a12]) ++ [V.ref a13, V.ref a14, V.ref a15]))) := same_new hm7
    have l_m7 : upd M6 m7 (.lst ((([V.ref a0, V.ref a1, V.ref a2, V.ref a3, V.ref a4] ++ [V.ref a5, V.ref a6, V.ref a7, V.ref a8]) ++ [V.ref a9, V.ref a10, V.ref a11, V.ref a12]) ++ [V.ref a13, V.ref a14, V.ref a15])) m7 = some (.lst ((([V.ref a0, V.ref a1, V.ref a2, V.ref a3, V.ref a4] ++ [V.ref a5, V.ref a6, V.ref a7, V.ref a8]) ++ [V.ref a9, V.ref a10, V.ref a11, V.ref a12]) ++ [V.ref a13, V.ref a14, V.ref a15])) := upd_same
    generalize upd M6 m7 (.lst ((([V.ref a0, V.ref a1, V.ref a2, V.ref a3, V.ref a4] ++ [V.ref a5, V.ref a6, V.ref a7, V.ref a8]) ++ [V.ref a9, V.ref a10, V.ref a11, V.ref a12]) ++ [V.ref a13, V.ref a14, V.ref a15])) = M7 at qm7 l_m7
    have t_M7 : Same H3 M7 := (t_M6).trans qm7
    have u_M7 : Same M7 M7 := Same.refl M7
    have u_M6 : Same M6 M7 := qm7.trans u_M7
    have u_M5 : Same M5 M7 := qm6.trans u_M6
    have u_K15 : Same K15 M7 := qm5.trans u_M5
    have u_K14 : Same K14 M7 := q15.trans u_K15
    have u_K13 : Same K13 M7 := q14.trans u_K14
    have u_M4 : Same M4 M7 := q13.trans u_K13
    have u_K12 : Same K12 M7 := qm4.trans u_M4
    have u_K11 : Same K11 M7 := q12.trans u_K12
    have u_K10 : Same K10 M7 := q11.trans u_K11
    have u_K9 : Same K9 M7 := q10.trans u_K10
    have u_M3 : Same M3 M7 := q9.trans u_K9
    have u_M2 : Same M2 M7 := qm3.trans u_M3
    have u_K8 : Same K8 M7 := qm2.trans u_M2
    have u_K7 : Same K7 M7 := q8.trans u_K8
    have u_K6 : Same K6 M7 := q7.trans u_K7
    have u_K5 : Same K5 M7 := q6.trans u_K6
    have u_M1 : Same M1 M7 := q5.trans u_K5
    have u_K4 : Same K4 M7 := qm1.trans u_M1
    have u_K3 : Same K3 M7 := q4.trans u_K4
    have u_K2 : Same K2 M7 := q3.trans u_K3
    have u_K1 : Same K1 M7 := q2.trans u_K2
    have u_K0 : Same K0 M7 := q1.trans u_K1
    have u_H3 : Same H3 M7 := q0.trans u_K0
    have e0 : ErrAt M7 a0 (cs 0) := err_mono z0 u_K0
    have e1 : ErrAt M7 a1 (cs 1) := err_mono z1 u_K1
    have e2 : ErrAt M7 a2 (cs 2) := err_mono z2 u_K2
    have e3 : ErrAt M7 a3 (cs 3) := err_mono z3 u_K3
    have e4 : ErrAt M7 a4 (cs 4) := err_mono z4 u_K4
    have e5 : ErrAt M7 a5 (cs 5) := err_mono z5 u_K5
    have e6 : ErrAt M7 a6 (cs 6) := err_mono z6 u_K6
    have e7 : ErrAt M7 a7 (cs 7) := err_mono z7 u_K7
    have e8 : ErrAt M7 a8 (cs 8) := err_mono z8 u_K8
    have e9 : ErrAt M7 a9 (cs 9) := err_mono z9 u_K9
    have x10 : AttrAt M7 a10 (cs 10) "index" g0 := z10.mono u_K10
    have e10 : ErrAt M7 a10 (cs 10) := x10.err
    have x11 : AttrAt M7 a11 (cs 11) "name" g1 := z11.mono u_K11
    have e11 : ErrAt M7 a11 (cs 11) := x11.err
    have x12 : AttrAt M7 a12 (cs 12) "index" g2 := z12.mono u_K12
    have e12 : ErrAt M7 a12 (cs 12) := x12.err
    have x13 : AttrAt M7 a13 (cs 13) "many" g3 := z13.mono u_K13
    have e13 : ErrAt M7 a13 (cs 13) := x13.err
    have x14 : AttrAt M7 a14 (cs 14) "limit" g4 := z14.mono u_K14
    have e14 : ErrAt M7 a14 (cs 14) := x14.err
    have x15 : AttrAt M7 a15 (cs 15) "value" g5 := z15.mono u_K15
    have e15 : ErrAt M7 a15 (cs 15) := x15.err
    have errs : M7 m7 = some (.lst [V.ref a0, V.ref a1, V.ref a2, V.ref a3, V.ref a4, V.ref a5, V.ref a6, V.ref a7, V.ref a8, V.ref a9, V.ref a10, V.ref a11, V.ref a12, V.ref a13, V.ref a14, V.ref a15]) := l_m7
    have told : M7 m4 = some (.lst [V.ref a9, V.ref a10, V.ref a11, V.ref a12]) := u_M4 _ _ l_m4
    have more : M7 m5 = some (.lst [V.ref a13, V.ref a14, V.ref a15]) := u_M5 _ _ l_m5
    have given : M7 D0 = some (.lst [g0, g1, g2, g3, g4, g5]) := u_H3 _ _ hg
    have shs : ∀ v ∈ [g0, g1, g2, g3, g4, g5], Shape 2 M7 v := fun v hv => (sh v hv).mono (Same.tups u_H3)
    have at_ : ∀ i : Nat, i < 16 → ∃ e : Addr, [V.ref a0, V.ref a1, V.ref a2, V.ref a3, V.ref a4, V.ref a5, V.ref a6, V.ref a7, V.ref a8, V.ref a9, V.ref a10, V.ref a11, V.ref a12, V.ref a13, V.ref a14, V.ref a15][i]? = some (V.ref e) ∧ ErrAt M7 e (cs i) := fun i hi => by
      match i, hi with
      | 0, _ => exact ⟨_, rfl, e0⟩
      | 1, _ => exact ⟨_, rfl, e1⟩
      | 2, _ => exact ⟨_, rfl, e2⟩
      | 3, _ => exact ⟨_, rfl, e3⟩
      | 4, _ => exact ⟨_, rfl, e4⟩
      | 5, _ => exact ⟨_, rfl, e5⟩
      | 6, _ => exact ⟨_, rfl, e6⟩
      | 7, _ => exact ⟨_, rfl, e7⟩
      | 8, _ => exact ⟨_, rfl, e8⟩
      | 9, _ => exact ⟨_, rfl, e9⟩
      | 10, _ => exact ⟨_, rfl, e10⟩
      | 11, _ => exact ⟨_, rfl, e11⟩
      | 12, _ => exact ⟨_, rfl, e12⟩
      | 13, _ => exact ⟨_, rfl, e13⟩
      | 14, _ => exact ⟨_, rfl, e14⟩
      | 15, _ => exact ⟨_, rfl, e15⟩
      | n + 16, h => exact absurd h (by omega)
    clear u_M6 u_M5 u_K15 u_K14 u_K13 u_M4 u_K12 u_K11 u_K10 u_K9 u_M3 u_M2 u_K8 u_K7 u_K6 u_K5 u_M1 u_K4 u_K3 u_K2 u_K1 u_K0 u_H3
    have nn : ∀ i : Nat, i < 16 → decide ((0 : Int) + (i : Int) < 11) = decide (i < 11) := fun i hi => by
      by_cases c : i < 11
      · rw [decide_eq_true c, decide_eq_true (by omega)]
      · rw [decide_eq_false c, decide_eq_false (by omega)]
    refine ⟨_, rfl, m7, _, rfl, .inl (SqL.of errs), _, rfl, (by show -(2 ^ 62) ≤ (16 : Int); decide), (by show (16 : Int) < 2 ^ 62; decide), ?_⟩
    refine for_range (lo := 0) (n := _) (fun i σ H' => ∃ v : Option V, σ = [some (.ref a), some (.ref B), some (.str word), some (.ref D0), some (.ref m7), some (.ref m4), some (.ref m5), v, none, none, none] ∧ Same M7 H')
      ⟨none, rfl, Same.refl M7⟩ ?_ ?_
    · rintro i σ H' hi ⟨v, rfl, sm⟩
      have hi16 : i < 16 := hi
      obtain ⟨e, he1, he2⟩ := at_ i hi16
      have hat : atI [V.ref a0, V.ref a1, V.ref a2, V.ref a3, V.ref a4, V.ref a5, V.ref a6, V.ref a7, V.ref a8, V.ref a9, V.ref a10, V.ref a11, V.ref a12, V.ref a13, V.ref a14, V.ref a15] (0 + (i : Int)) = some (V.ref e) := by
        rw [Int.zero_add]
        exact atI_nat he1
      refine ⟨_, rfl, _, rfl, m7, _, _, _, rfl, rfl, SqL.of (sm _ _ errs), hat, e, i, rfl, hi16, err_mono he2 sm, fun H2 L sm2 hL => ?_⟩
      refine ⟨_, rfl, m7, _, rfl, .inl (SqL.of (sm2 _ _ (sm _ _ errs))), _, rfl, (by show -(2 ^ 62) ≤ (16 : Int); decide), (by show (16 : Int) < 2 ^ 62; decide), fun D2 hD2 => ?_⟩
      refine lc_range (lo := 0) (n := _) (fun j H3 => H3 = upd H2 D2 (.lst (((List.range j).map (rowB i)).map V.bl))) rfl ?_ ?_
      · rintro j H3 hj rfl
        have hj16 : j < 16 := hj
        have fin : ∀ b : Bool, b = rowB i j → ∃ acc, upd H2 D2 (.lst (((List.range j).map (rowB i)).map V.bl)) D2 = some (.lst acc) ∧ acc.length < sizeLine ∧
            upd (upd H2 D2 (.lst (((List.range j).map (rowB i)).map V.bl))) D2 (.lst (acc ++ [V.bl b])) = upd H2 D2 (.lst (((List.range (j + 1)).map (rowB i)).map V.bl)) := fun b eb => by
          refine ⟨_, upd_same, ?_, ?_⟩
          · rw [List.length_map, List.length_map, List.length_range]
            exact small1000 (by omega)
          · rw [upd_upd, eb, List.range_succ, List.map_append, List.map_append]
            rfl
        refine ⟨rfl, ?_⟩
        refine ⟨_, rfl, _, rfl, rfl, _, rfl, ?_⟩
        by_cases c1 : j = i
        · have d1 : decide (V.int (0 + (j : Int)) = V.int (0 + (i : Int))) = true := decide_eq_true (by rw [c1])
          rw [d1]
          exact fin true (by unfold rowB; rw [c1]; simp)
        · have d1 : decide (V.int (0 + (j : Int)) = V.int (0 + (i : Int))) = false := decide_eq_false (fun q => c1 (by have := V.int.inj q; omega))
          have c1' : (j == i) = false := by simpa using c1
          rw [d1]
          refine ⟨_, rfl, rfl, _, rfl, ?_⟩
          by_cases c2 : j = 0
          · have d2 : decide (V.int (0 + (j : Int)) = V.int 0) = true := decide_eq_true (by rw [c2] <;> rfl)
            rw [d2]
            refine ⟨_, rfl, _, _, rfl, rfl, ?_⟩
            refine fin _ ?_
            rw [nn i hi16]
            unfold rowB
            rw [c1', c2]
            simp
          · have d2 : decide (V.int (0 + (j : Int)) = V.int 0) = false := decide_eq_false (fun q => c2 (by have := V.int.inj q; omega))
            rw [d2]
            refine fin false ?_
            unfold rowB
            have c2' : (j == 0) = false := by simpa using c2
            rw [c1', c2']
            rfl
      · rintro H3 rfl
        have nLD : L ≠ D2 := ne_of_none hL hD2
        refine ⟨_, _, .lst (SqL.of ((upd_ne nLD).trans hL)) (dp_bls _), .lst (SqL.of (upd_same (o := .lst ((row i).map V.bl)))) (dp_bls _), row_shaped i hi16, row_shaped i hi16, _, rfl, ?_⟩
        rw [row_eqv i hi16]
        have sm3 : Same M7 (upd H2 D2 (.lst ((row i).map V.bl))) := (sm.trans sm2).trans (same_new hD2)
        refine ⟨_, rfl, _, rfl, m7, _, _, _, rfl, rfl, SqL.of (sm3 _ _ errs), hat, e, cs i, _, _, _, rfl, .ty "ValueError", err_mono he2 sm3, TE.er i hi16, TE.ob, TF.kitV i hi16, ?_⟩
        refine ⟨_, rfl, _, _, rfl, rfl, rfl, _, rfl, ?_⟩
        have dd : (!decide (V.bl (decide (i < 11)) = V.bl (decide ((0 : Int) + (i : Int) < 11)))) = false := by
          rw [nn i hi16, decide_eq_true rfl]
          rfl
        rw [dd]
        exact ⟨_, rfl, sm3⟩
    · rintro σ H8 ⟨v, rfl, sm⟩
      have told8 := sm _ _ told
      have more8 := sm _ _ more
      have given8 := sm _ _ given
      refine ⟨_, rfl, m4, _, _, _, rfl, rfl, SqL.of told8, rfl, _, cs 11, _, _, _, rfl, .ty _, err_mono e11 sm, TE.er 11 (by decide), TE.ob, TF.b11, _, rfl, ?_⟩
      refine ⟨_, rfl, m4, _, _, _, rfl, rfl, SqL.of told8, rfl, _, cs 12, _, _, _, rfl, .ty _, err_mono e12 sm, TE.er 12 (by decide), TE.ob, TF.b12, _, rfl, ?_⟩
      refine ⟨_, rfl, m5, _, _, _, rfl, rfl, SqL.of more8, rfl, _, cs 13, _, _, _, rfl, .ty _, err_mono e13 sm, TE.er 13 (by decide), TE.ob, TF.b13, _, rfl, ?_⟩
      refine ⟨_, rfl, m5, _, _, _, rfl, rfl, SqL.of more8, rfl, _, cs 14, _, _, _, rfl, .ty _, err_mono e14 sm, TE.er 14 (by decide), TE.ob, TF.b14, _, rfl, ?_⟩
      refine ⟨_, rfl, m5, _, _, _, rfl, rfl, SqL.of more8, rfl, _, cs 15, _, _, _, rfl, .ty _, err_mono e15 sm, TE.er 15 (by decide), TE.ob, TF.b15, _, rfl, ?_⟩
      refine ⟨_, rfl, m5, _, _, _, rfl, rfl, SqL.of more8, rfl, _, cs 13, _, _, _, rfl, .ty _, err_mono e13 sm, TE.er 13 (by decide), TE.ob, TF.n13, _, rfl, ?_⟩
      refine ⟨_, rfl, m5, _, _, _, rfl, rfl, SqL.of more8, rfl, _, cs 13, _, _, _, rfl, .ty _, err_mono e13 sm, TE.er 13 (by decide), TE.ob, TF.m13, _, rfl, ?_⟩
      obtain ⟨d10, v10, w10⟩ := x10.mono sm
      obtain ⟨d11, v11, w11⟩ := x11.mono sm
      obtain ⟨d12, v12, w12⟩ := x12.mono sm
      obtain ⟨d13, v13, w13⟩ := x13.mono sm
      obtain ⟨d14, v14, w14⟩ := x14.mono sm
      obtain ⟨d15, v15, w15⟩ := x15.mono sm
      refine ⟨_, rfl, m4, _, _, _, rfl, rfl, SqL.of told8, rfl, a10, cs 10, d10, _, g0, rfl, TE.er 10 (by decide), TF.a10, v10, w10, rfl,
        _, rfl, m4, _, _, _, rfl, rfl, SqL.of told8, rfl, a11, cs 11, d11, _, g1, rfl, TE.er 11 (by decide), TF.a11, v11, w11, rfl,
        _, rfl, m4, _, _, _, rfl, rfl, SqL.of told8, rfl, a12, cs 12, d12, _, g2, rfl, TE.er 12 (by decide), TF.a12, v12, w12, rfl,
        _, rfl, m5, _, _, _, rfl, rfl, SqL.of more8, rfl, a13, cs 13, d13, _, g3, rfl, TE.er 13 (by decide), TF.a13, v13, w13, rfl,
        _, rfl, m5, _, _, _, rfl, rfl, SqL.of more8, rfl, a14, cs 14, d14, _, g4, rfl, TE.er 14 (by decide), TF.a14, v14, w14, rfl,
        _, rfl, m5, _, _, _, rfl, rfl, SqL.of more8, rfl, a15, cs 15, d15, _, g5, rfl, TE.er 15 (by decide), TF.a15, v15, w15, rfl, by show 6 ≤ sizeLine; decide, fun lk hlk => ?_⟩
      have sk : Same M7 (upd H8 lk (.lst [g0, g1, g2, g3, g4, g5])) := sm.trans (same_new hlk)
      have kept : upd H8 lk (.lst [g0, g1, g2, g3, g4, g5]) lk = some (.lst [g0, g1, g2, g3, g4, g5]) := upd_same
      generalize upd H8 lk (.lst [g0, g1, g2, g3, g4, g5]) = H9 at sk kept
      refine ⟨6, rfl, by decide, by decide, fun D9 hD9 => ?_⟩
      refine lc_range (lo := 0) (n := _) (fun i H' => Same H9 H' ∧ H' D9 = some (.lst ((List.replicate i true).map V.bl))) ⟨same_new hD9, upd_same⟩ ?_ ?_
      · rintro i H' hi ⟨s9, hD⟩
        have hi6 : i < 6 := hi
        obtain ⟨y, hy, hs⟩ : ∃ y, [g0, g1, g2, g3, g4, g5][i]? = some y ∧ Shape 2 M7 y := by
          have hl : i < [g0, g1, g2, g3, g4, g5].length := hi6
          exact ⟨[g0, g1, g2, g3, g4, g5][i]'hl, by simp [hl], shs _ (List.getElem_mem _)⟩
        have hat : atI [g0, g1, g2, g3, g4, g5] (0 + (i : Int)) = some y := by
          rw [Int.zero_add]
          exact atI_nat hy
        refine ⟨rfl, ?_⟩
        refine ⟨_, rfl, _, rfl, lk, _, _, _, rfl, rfl, SqL.of (s9 _ _ kept), hat, _, rfl, _, rfl, D0, _, _, _, rfl, rfl, SqL.of (s9 _ _ (sk _ _ given)), hat, ?_⟩
        refine ⟨y, rfl, hs.mono (Same.tups (sk.trans s9)), fun H2 sm2 => ⟨_, sm2 _ _ hD, ?_, fun b o e => ?_, ?_⟩⟩
        · rw [List.length_map, List.length_replicate]
          exact small1000 (by omega)
        · rw [upd_ne (ne_of_none e hD9)]
          exact sm2 _ _ (s9 _ _ e)
        · rw [upd_same, List.replicate_succ', List.map_append]
          rfl
      · rintro H' ⟨s9, hD⟩
        refine ⟨D9, _, rfl, SqL.of hD, ?_⟩
        have ea : ∀ n, (List.replicate n true).all id = true := fun n => by simp
        rw [ea]
        exact k _
end
end K00

set_option Elab.async false
set_option linter.all false
set_option maxRecDepth 100000
set_option maxHeartbeats 4000000
namespace K00
open PySem L2 Ek
open PySem.W (findIn subIn mroIn keepIn hasDictIn clsIn takerIn specialIn takesIn readsIn findCls kitOne excInitIn excOver excIn nsIn codeIn fnOf typeIn)
def erOk (K : PySem.W.Frag) (C : Addr) : Bool := hasDictIn K C && findIn K (.ref C) "__getattribute__" == some (some (.builtin "BaseException.__getattribute__")) && findIn K (.ref C) "__getattr__" == some none &&
  subIn K (.ref C) (.type "BaseException") == some true && findIn K (.ref C) "__class__" == some (some (.builtin "object.__class__")) && mroIn K C (.type "object") == some true
theorem er_of {K : PySem.W.Frag} {C : Addr} (h : erOk K C = true) : ER K C := by
  unfold erOk at h
  simp only [Bool.and_eq_true, beq_iff_eq] at h
  obtain ⟨⟨⟨⟨⟨h1, h2⟩, h3⟩, h4⟩, h5⟩, h6⟩ := h
  exact ⟨h1, h2, h3, h4, h5, h6⟩
def ecOk (K : PySem.W.Frag) (C : Addr) (bm : List Value) (new : String) (f : Str) : Bool := excInitIn K C bm new && excOver K C bm && hasDictIn K C && keepIn K (.ref C) && findIn K (.ref C) "__setattr__" == some (some (.builtin "object.__setattr__")) &&
  (findIn K (.ref C) f == some none && takerIn K C f == some none)
theorem ec_of {K : PySem.W.Frag} {C : Addr} {bm : List Value} {new : String} {f : Str} (h : ecOk K C bm new f = true) : EC K C bm new ∧ findIn K (.ref C) f = some none ∧ takerIn K C f = some none := by
  unfold ecOk at h
  simp only [Bool.and_eq_true, beq_iff_eq] at h
  obtain ⟨⟨⟨⟨⟨h1, h2⟩, h3⟩, h4⟩, h5⟩, h6, h7⟩ := h
  exact ⟨⟨h1, h2, h3, h4, h5⟩, h6, h7⟩
def tabOk (K : PySem.W.Frag) (cs : Nat → Addr) : Bool :=
  ((List.range 16).all fun k => erOk K (cs k)) &&
  ((List.range 16).all fun k => (List.range 16).all fun j => kitOne K (.ref (cs k)) (.ref (cs j)) == some (rowB k j)) &&
  ((List.range 10).all fun k => excIn K (cs k) vTail "ValueError.__new__" && keepIn K (.ref (cs k))) &&
  ((List.range 16).all fun k => kitOne K (.ref (cs k)) (.type "ValueError") == some (decide (k < 11))) &&
  (specialIn K (.builtin "object.__class__") "__get__" == some (some (.builtin "getset_descriptor.__get__")) && takesIn K (.builtin "object.__class__") == some true)
theorem all_range {n : Nat} {p : Nat → Bool} (h : (List.range n).all p = true) : ∀ k, k < n → p k = true := fun k hk => List.all_eq_true.mp h k (List.mem_range.mpr hk)
def moreOk (K : PySem.W.Frag) (cs : Nat → Addr) : Bool :=
  (ecOk K (cs 10) vTail "ValueError.__new__" "index") &&
  (ecOk K (cs 11) kTail "LookupError.__new__" "name") &&
  (ecOk K (cs 12) iTail "IndexError.__new__" "index") &&
  (ecOk K (cs 13) lTail "LookupError.__new__" "many") &&
  (ecOk K (cs 14) oTail "OverflowError.__new__" "limit") &&
  (ecOk K (cs 15) rTail "RuntimeError.__new__" "value") &&
  (kitOne K (.ref (cs 11)) (.type "KeyError") == some true) &&
  (kitOne K (.ref (cs 12)) (.type "IndexError") == some true) &&
  (kitOne K (.ref (cs 13)) (.type "LookupError") == some true) &&
  (kitOne K (.ref (cs 14)) (.type "OverflowError") == some true) &&
  (kitOne K (.ref (cs 15)) (.type "RuntimeError") == some true) &&
  (kitOne K (.ref (cs 13)) (.type "KeyError") == some false) &&
  (kitOne K (.ref (cs 13)) (.type "IndexError") == some false) &&
  (specialIn K (.ref (cs 0)) "__getattribute__" == some (some (.builtin "type.__getattribute__"))) &&
  (readsIn K (cs 0) (.type "type"))
section
theorem all_mk {l : PySem.W.OpenLaw} {w : World} {K : PySem.W.Frag} {h : Heap} {mg : Str → Option Value} {fa : Addr} (X : K.In h) (G : h.Ns mainGlobals mg) (hfa : mg "law" = some (.ref fa))
    {C0 C1 C2 C3 C4 C5 C6 C7 C8 C9 C10 C11 C12 C13 C14 C15 : Addr} {f10 f11 f12 f13 f14 f15 uStart uThrow uPick uWords uName uValue uAny uSame uClasses uLaw : Addr}
    {oc10 kV10 dc10 pm10 cd10 ct10 oc11 kV11 dc11 pm11 cd11 ct11 oc12 kV12 dc12 pm12 cd12 ct12 oc13 kV13 dc13 pm13 cd13 ct13 oc14 kV14 dc14 pm14 cd14 ct14 oc15 kV15 dc15 pm15 cd15 ct15 ocStart kVStart dcStart pmStart cdStart ctStart ocThrow kVThrow dcThrow pmThrow cdThrow ctThrow ocPick kVPick dcPick pmPick cdPick ctPick ocWords kVWords dcWords pmWords cdWords ctWords ocName kVName dcName pmName cdName ctName ocValue kVValue dcValue pmValue cdValue ctValue ocAny kVAny dcAny pmAny cdAny ctAny ocSame kVSame dcSame pmSame cdSame ctSame ocClasses kVClasses dcClasses pmClasses cdClasses ctClasses ocLaw kVLaw dcLaw pmLaw cdLaw ctLaw : Value} {od10 an10 od11 an11 od12 an12 od13 an13 od14 an14 od15 an15 odStart anStart odThrow anThrow odPick anPick odWords anWords odName anName odValue anValue odAny anAny odSame anSame odClasses anClasses odLaw anLaw : Option Addr} {sl10 sl11 sl12 sl13 sl14 sl15 slStart slThrow slPick slWords slName slValue slAny slSame slClasses slLaw : Array (Option Value)}
    (c0 : nsIn K mainGlobals "PushError" = some (some (.ref C0)))
    (c1 : nsIn K mainGlobals "InvalidLayout" = some (some (.ref C1)))
    (c2 : nsIn K mainGlobals "InvalidTape" = some (some (.ref C2)))
    (c3 : nsIn K mainGlobals "InvalidPipeline" = some (some (.ref C3)))
    (c4 : nsIn K mainGlobals "InvalidState" = some (some (.ref C4)))
    (c5 : nsIn K mainGlobals "InvalidBounds" = some (some (.ref C5)))
    (c6 : nsIn K mainGlobals "InvalidStand" = some (some (.ref C6)))
    (c7 : nsIn K mainGlobals "InvalidPaper" = some (some (.ref C7)))
    (c8 : nsIn K mainGlobals "InvalidChain" = some (some (.ref C8)))
    (c9 : nsIn K mainGlobals "InvalidOperation" = some (some (.ref C9)))
    (c10 : nsIn K mainGlobals "ParseError" = some (some (.ref C10)))
    (c11 : nsIn K mainGlobals "UnknownName" = some (some (.ref C11)))
    (c12 : nsIn K mainGlobals "UnknownIndex" = some (some (.ref C12)))
    (c13 : nsIn K mainGlobals "NothingToUndo" = some (some (.ref C13)))
    (c14 : nsIn K mainGlobals "TooMany" = some (some (.ref C14)))
    (c15 : nsIn K mainGlobals "InvalidNumber" = some (some (.ref C15)))
    (i10 : findIn K (.ref C10) "__init__" = some (some (.ref f10))) (t10 : typeIn K (.ref f10) = some (.type "function"))
    (l10 : K.lookup f10 = some ⟨oc10, od10, .func (fnOf "__init__" "ParseError.__init__" (defArgs sInit10) (defBody sInit10) (defScope sInit10) .none kV10 dc10 pm10 an10 cd10 ct10), sl10⟩) (q10 : codeIn K cd10 "ParseError.__init__" = true) (k10 : keepIn K (.ref f10) = true)
    (i11 : findIn K (.ref C11) "__init__" = some (some (.ref f11))) (t11 : typeIn K (.ref f11) = some (.type "function"))
    (l11 : K.lookup f11 = some ⟨oc11, od11, .func (fnOf "__init__" "UnknownName.__init__" (defArgs sInit11) (defBody sInit11) (defScope sInit11) .none kV11 dc11 pm11 an11 cd11 ct11), sl11⟩) (q11 : codeIn K cd11 "UnknownName.__init__" = true) (k11 : keepIn K (.ref f11) = true)
    (i12 : findIn K (.ref C12) "__init__" = some (some (.ref f12))) (t12 : typeIn K (.ref f12) = some (.type "function"))
    (l12 : K.lookup f12 = some ⟨oc12, od12, .func (fnOf "__init__" "UnknownIndex.__init__" (defArgs sInit12) (defBody sInit12) (defScope sInit12) .none kV12 dc12 pm12 an12 cd12 ct12), sl12⟩) (q12 : codeIn K cd12 "UnknownIndex.__init__" = true) (k12 : keepIn K (.ref f12) = true)
    (i13 : findIn K (.ref C13) "__init__" = some (some (.ref f13))) (t13 : typeIn K (.ref f13) = some (.type "function"))
    (l13 : K.lookup f13 = some ⟨oc13, od13, .func (fnOf "__init__" "NothingToUndo.__init__" (defArgs sInit13) (defBody sInit13) (defScope sInit13) .none kV13 dc13 pm13 an13 cd13 ct13), sl13⟩) (q13 : codeIn K cd13 "NothingToUndo.__init__" = true) (k13 : keepIn K (.ref f13) = true)
    (i14 : findIn K (.ref C14) "__init__" = some (some (.ref f14))) (t14 : typeIn K (.ref f14) = some (.type "function"))
    (l14 : K.lookup f14 = some ⟨oc14, od14, .func (fnOf "__init__" "TooMany.__init__" (defArgs sInit14) (defBody sInit14) (defScope sInit14) .none kV14 dc14 pm14 an14 cd14 ct14), sl14⟩) (q14 : codeIn K cd14 "TooMany.__init__" = true) (k14 : keepIn K (.ref f14) = true)
    (i15 : findIn K (.ref C15) "__init__" = some (some (.ref f15))) (t15 : typeIn K (.ref f15) = some (.type "function"))
    (l15 : K.lookup f15 = some ⟨oc15, od15, .func (fnOf "__init__" "InvalidNumber.__init__" (defArgs sInit15) (defBody sInit15) (defScope sInit15) .none kV15 dc15 pm15 an15 cd15 ct15), sl15⟩) (q15 : codeIn K cd15 "InvalidNumber.__init__" = true) (k15 : keepIn K (.ref f15) = true)
    (aStart : nsIn K mainGlobals "_law_start" = some (some (.ref uStart))) (lStart : K.lookup uStart = some ⟨ocStart, odStart, .func (fnOf "_law_start" "_law_start" (defArgs sStart) (defBody sStart) (defScope sStart) .none kVStart dcStart pmStart anStart cdStart ctStart), slStart⟩) (qStart : codeIn K cdStart "_law_start" = true) (kStart : keepIn K (.ref uStart) = true)
    (aThrow : nsIn K mainGlobals "_law_throw" = some (some (.ref uThrow))) (lThrow : K.lookup uThrow = some ⟨ocThrow, odThrow, .func (fnOf "_law_throw" "_law_throw" (defArgs sThrow) (defBody sThrow) (defScope sThrow) .none kVThrow dcThrow pmThrow anThrow cdThrow ctThrow), slThrow⟩) (qThrow : codeIn K cdThrow "_law_throw" = true) (kThrow : keepIn K (.ref uThrow) = true)
    (aPick : nsIn K mainGlobals "_law_pick" = some (some (.ref uPick))) (lPick : K.lookup uPick = some ⟨ocPick, odPick, .func (fnOf "_law_pick" "_law_pick" (defArgs sPick) (defBody sPick) (defScope sPick) .none kVPick dcPick pmPick anPick cdPick ctPick), slPick⟩) (qPick : codeIn K cdPick "_law_pick" = true) (kPick : keepIn K (.ref uPick) = true)
    (aWords : nsIn K mainGlobals "_law_words" = some (some (.ref uWords))) (lWords : K.lookup uWords = some ⟨ocWords, odWords, .func (fnOf "_law_words" "_law_words" (defArgs sWords) (defBody sWords) (defScope sWords) .none kVWords dcWords pmWords anWords cdWords ctWords), slWords⟩) (qWords : codeIn K cdWords "_law_words" = true) (kWords : keepIn K (.ref uWords) = true)
    (aName : nsIn K mainGlobals "_law_name" = some (some (.ref uName))) (lName : K.lookup uName = some ⟨ocName, odName, .func (fnOf "_law_name" "_law_name" (defArgs sName) (defBody sName) (defScope sName) .none kVName dcName pmName anName cdName ctName), slName⟩) (qName : codeIn K cdName "_law_name" = true) (kName : keepIn K (.ref uName) = true)
    (aValue : nsIn K mainGlobals "_law_value" = some (some (.ref uValue))) (lValue : K.lookup uValue = some ⟨ocValue, odValue, .func (fnOf "_law_value" "_law_value" (defArgs sValue) (defBody sValue) (defScope sValue) .none kVValue dcValue pmValue anValue cdValue ctValue), slValue⟩) (qValue : codeIn K cdValue "_law_value" = true) (kValue : keepIn K (.ref uValue) = true)
    (aAny : nsIn K mainGlobals "_law_any" = some (some (.ref uAny))) (lAny : K.lookup uAny = some ⟨ocAny, odAny, .func (fnOf "_law_any" "_law_any" (defArgs sAny) (defBody sAny) (defScope sAny) .none kVAny dcAny pmAny anAny cdAny ctAny), slAny⟩) (qAny : codeIn K cdAny "_law_any" = true) (kAny : keepIn K (.ref uAny) = true)
    (aSame : nsIn K mainGlobals "_law_same" = some (some (.ref uSame))) (lSame : K.lookup uSame = some ⟨ocSame, odSame, .func (fnOf "_law_same" "_law_same" (defArgs sSame) (defBody sSame) (defScope sSame) .none kVSame dcSame pmSame anSame cdSame ctSame), slSame⟩) (qSame : codeIn K cdSame "_law_same" = true) (kSame : keepIn K (.ref uSame) = true)
    (aClasses : nsIn K mainGlobals "_law_classes" = some (some (.ref uClasses))) (lClasses : K.lookup uClasses = some ⟨ocClasses, odClasses, .func (fnOf "_law_classes" "_law_classes" (defArgs sClasses) (defBody sClasses) (defScope sClasses) .none kVClasses dcClasses pmClasses anClasses cdClasses ctClasses), slClasses⟩) (qClasses : codeIn K cdClasses "_law_classes" = true) (kClasses : keepIn K (.ref uClasses) = true)
    (aLaw : nsIn K mainGlobals "law" = some (some (.ref uLaw))) (lLaw : K.lookup uLaw = some ⟨ocLaw, odLaw, .func (fnOf "law" "law" (defArgs sLaw) (defBody sLaw) (defScope sLaw) .none kVLaw dcLaw pmLaw anLaw cdLaw ctLaw), slLaw⟩) (qLaw : codeIn K cdLaw "law" = true) (kLaw : keepIn K (.ref uLaw) = true)
    (zlen : nsIn K mainGlobals "len" = some none)
    (zint : nsIn K mainGlobals "int" = some none)
    (zabs : nsIn K mainGlobals "abs" = some none)
    (zmax : nsIn K mainGlobals "max" = some none)
    (zrange : nsIn K mainGlobals "range" = some none)
    (zisin : nsIn K mainGlobals "isinstance" = some none)
    (ztup : nsIn K mainGlobals "tuple" = some none)
    (zall : nsIn K mainGlobals "all" = some none)
    (zbool : nsIn K mainGlobals "bool" = some none)
    (zstr : nsIn K mainGlobals "str" = some none)
    (zvE : nsIn K mainGlobals "ValueError" = some none)
    (zkE : nsIn K mainGlobals "KeyError" = some none)
    (ziE : nsIn K mainGlobals "IndexError" = some none)
    (zlE : nsIn K mainGlobals "LookupError" = some none)
    (zoE : nsIn K mainGlobals "OverflowError" = some none)
    (zrE : nsIn K mainGlobals "RuntimeError" = some none)
    (v11 : findCls K (.type "KeyError") (.type "type") "__init__" = some (.val (.builtin "KeyError.__init__")))
    (v12 : findCls K (.type "IndexError") (.type "type") "__init__" = some (.val (.builtin "IndexError.__init__")))
    (v13 : findCls K (.type "LookupError") (.type "type") "__init__" = some (.val (.builtin "LookupError.__init__")))
    (v14 : findCls K (.type "OverflowError") (.type "type") "__init__" = some (.val (.builtin "OverflowError.__init__")))
    (v15 : findCls K (.type "RuntimeError") (.type "type") "__init__" = some (.val (.builtin "RuntimeError.__init__")))
    (v0 : findCls K (.ref C0) (.type "type") "__init__" = some (.val (.builtin "ValueError.__init__")))
    (tab : tabOk K (fun n => [C0, C1, C2, C3, C4, C5, C6, C7, C8, C9, C10, C11, C12, C13, C14, C15].getD n 0) = true) (mor : moreOk K (fun n => [C0, C1, C2, C3, C4, C5, C6, C7, C8, C9, C10, C11, C12, C13, C14, C15].getD n 0) = true) :
    ∃ fd : FuncData, (∀ (s : Shared) (v : Value), BindsTo s fd ⟨[v], []⟩ [("script", v)]) ∧ ∀ base : Heap, K.In base → base.Ns mainGlobals mg → FnOk l.prog w K mg base CX0 7 fa fd ["script"] (spLaw K) := by
  have e := hfa.symm.trans (PySem.W.mg_of X G aLaw)
  cases e
  have F10 := fun_mk (st := sInit10) l10 q10 k10
  have b10 := F10.binds (ps := ["self", "index"]) fun _ _ _ _ _ _ us hl => match us, hl with | [_, _], _ => rfl
  have F11 := fun_mk (st := sInit11) l11 q11 k11
  have b11 := F11.binds (ps := ["self", "name"]) fun _ _ _ _ _ _ us hl => match us, hl with | [_, _], _ => rfl
  have F12 := fun_mk (st := sInit12) l12 q12 k12
  have b12 := F12.binds (ps := ["self", "index"]) fun _ _ _ _ _ _ us hl => match us, hl with | [_, _], _ => rfl
  have F13 := fun_mk (st := sInit13) l13 q13 k13
  have b13 := F13.binds (ps := ["self", "many"]) fun _ _ _ _ _ _ us hl => match us, hl with | [_, _], _ => rfl
  have F14 := fun_mk (st := sInit14) l14 q14 k14
  have b14 := F14.binds (ps := ["self", "limit"]) fun _ _ _ _ _ _ us hl => match us, hl with | [_, _], _ => rfl
  have F15 := fun_mk (st := sInit15) l15 q15 k15
  have b15 := F15.binds (ps := ["self", "value"]) fun _ _ _ _ _ _ us hl => match us, hl with | [_, _], _ => rfl
  have FStart := fun_mk (st := sStart) lStart qStart kStart
  have bStart := FStart.binds (ps := ["script", "at"]) fun _ _ _ _ _ _ us hl => match us, hl with | [_, _], _ => rfl
  have FThrow := fun_mk (st := sThrow) lThrow qThrow kThrow
  have bThrow := FThrow.binds (ps := ["bag", "total"]) fun _ _ _ _ _ _ us hl => match us, hl with | [_, _], _ => rfl
  have FPick := fun_mk (st := sPick) lPick qPick kPick
  have bPick := FPick.binds (ps := ["bag", "items"]) fun _ _ _ _ _ _ us hl => match us, hl with | [_, _], _ => rfl
  have FWords := fun_mk (st := sWords) lWords qWords kWords
  have bWords := FWords.binds (ps := []) fun _ _ _ _ _ _ us hl => match us, hl with | [], _ => rfl
  have FName := fun_mk (st := sName) lName qName kName
  have bName := FName.binds (ps := ["bag", "known"]) fun _ _ _ _ _ _ us hl => match us, hl with | [_, _], _ => rfl
  have FValue := fun_mk (st := sValue) lValue qValue kValue
  have bValue := FValue.binds (ps := ["bag"]) fun _ _ _ _ _ _ us hl => match us, hl with | [_], _ => rfl
  have FAny := fun_mk (st := sAny) lAny qAny kAny
  have bAny := FAny.binds (ps := ["bag", "depth"]) fun _ _ _ _ _ _ us hl => match us, hl with | [_, _], _ => rfl
  have FSame := fun_mk (st := sSame) lSame qSame kSame
  have bSame := FSame.binds (ps := ["one", "other"]) fun _ _ _ _ _ _ us hl => match us, hl with | [_, _], _ => rfl
  have FClasses := fun_mk (st := sClasses) lClasses qClasses kClasses
  have bClasses := FClasses.binds (ps := ["error"]) fun _ _ _ _ _ _ us hl => match us, hl with | [_], _ => rfl
  have FLaw := fun_mk (st := sLaw) lLaw qLaw kLaw
  have T : TxtC mg uThrow uPick uWords uName uValue uAny uSame := {
    len := (PySem.W.mg_none_of X G zlen), int := (PySem.W.mg_none_of X G zint), abs := (PySem.W.mg_none_of X G zabs), max := (PySem.W.mg_none_of X G zmax), thr := (PySem.W.mg_of X G aThrow), range := (PySem.W.mg_none_of X G zrange), pick := (PySem.W.mg_of X G aPick), wrds := (PySem.W.mg_of X G aWords),
    name := (PySem.W.mg_of X G aName), valu := (PySem.W.mg_of X G aValue), any := (PySem.W.mg_of X G aAny), same := (PySem.W.mg_of X G aSame), isin := (PySem.W.mg_none_of X G zisin), tup := (PySem.W.mg_none_of X G ztup), all := (PySem.W.mg_none_of X G zall), bool := (PySem.W.mg_none_of X G zbool), str := (PySem.W.mg_none_of X G zstr) }
  have D : Defs K uThrow uPick uWords uName uValue uAny _ _ _ _ _ _ := ⟨FThrow, bThrow, FPick, bPick, FWords, bWords, FName, bName, FValue, bValue, FAny, bAny⟩
  unfold tabOk at tab
  simp only [Bool.and_eq_true] at tab
  obtain ⟨⟨⟨⟨t1, t2⟩, t3⟩, t4⟩, t5, t6⟩ := tab
  have TE : TxtE K mg (fun n => [C0, C1, C2, C3, C4, C5, C6, C7, C8, C9, C10, C11, C12, C13, C14, C15].getD n 0) := {
    g0 := (PySem.W.mg_of X G c0), g1 := (PySem.W.mg_of X G c1), g2 := (PySem.W.mg_of X G c2), g3 := (PySem.W.mg_of X G c3), g4 := (PySem.W.mg_of X G c4), g5 := (PySem.W.mg_of X G c5), g6 := (PySem.W.mg_of X G c6), g7 := (PySem.W.mg_of X G c7), g8 := (PySem.W.mg_of X G c8), g9 := (PySem.W.mg_of X G c9), g10 := (PySem.W.mg_of X G c10), g11 := (PySem.W.mg_of X G c11), g12 := (PySem.W.mg_of X G c12), g13 := (PySem.W.mg_of X G c13), g14 := (PySem.W.mg_of X G c14), g15 := (PySem.W.mg_of X G c15),
    isin := (PySem.W.mg_none_of X G zisin), er := fun k hk => er_of (all_range t1 k hk), ob := ⟨beq_iff_eq.mp t5, beq_iff_eq.mp t6⟩,
    kit := fun k hk j hj => beq_iff_eq.mp (all_range (all_range t2 k hk) j hj) }
  have t3' : ∀ k, k < 10 → excIn K ((fun n => [C0, C1, C2, C3, C4, C5, C6, C7, C8, C9, C10, C11, C12, C13, C14, C15].getD n 0) k) vTail "ValueError.__new__" = true ∧ keepIn K (.ref ((fun n => [C0, C1, C2, C3, C4, C5, C6, C7, C8, C9, C10, C11, C12, C13, C14, C15].getD n 0) k)) = true := fun k hk => by
    have z := all_range t3 k hk
    rw [Bool.and_eq_true] at z
    exact z
  unfold moreOk at mor
  simp only [Bool.and_eq_true, beq_iff_eq] at mor
  obtain ⟨⟨⟨⟨⟨⟨⟨⟨⟨⟨⟨⟨⟨⟨m0, m1⟩, m2⟩, m3⟩, m4⟩, m5⟩, m6⟩, m7⟩, m8⟩, m9⟩, m10⟩, m11⟩, m12⟩, m13⟩, m14⟩ := mor
  have TF : TxtF K mg (fun n => [C0, C1, C2, C3, C4, C5, C6, C7, C8, C9, C10, C11, C12, C13, C14, C15].getD n 0) (fun n => [0, 0, 0, 0, 0, 0, 0, 0, 0, 0, f10, f11, f12, f13, f14, f15].getD n 0) (fun n => [fnOf "__init__" "ParseError.__init__" (defArgs sInit10) (defBody sInit10) (defScope sInit10) .none kV10 dc10 pm10 an10 cd10 ct10, fnOf "__init__" "UnknownName.__init__" (defArgs sInit11) (defBody sInit11) (defScope sInit11) .none kV11 dc11 pm11 an11 cd11 ct11, fnOf "__init__" "UnknownIndex.__init__" (defArgs sInit12) (defBody sInit12) (defScope sInit12) .none kV12 dc12 pm12 an12 cd12 ct12, fnOf "__init__" "NothingToUndo.__init__" (defArgs sInit13) (defBody sInit13) (defScope sInit13) .none kV13 dc13 pm13 an13 cd13 ct13, fnOf "__init__" "TooMany.__init__" (defArgs sInit14) (defBody sInit14) (defScope sInit14) .none kV14 dc14 pm14 an14 cd14 ct14, fnOf "__init__" "InvalidNumber.__init__" (defArgs sInit15) (defBody sInit15) (defScope sInit15) .none kV15 dc15 pm15 an15 cd15 ct15].getD (n - 10) (fnOf "__init__" "ParseError.__init__" (defArgs sInit10) (defBody sInit10) (defScope sInit10) .none kV10 dc10 pm10 an10 cd10 ct10)) uClasses _ uStart _ := {
    ex := fun k hk => (t3' k hk).1,
    kC := fun k hk => (t3' k hk).2,
    kitV := fun k hk => beq_iff_eq.mp (all_range t4 k hk),
    b11 := m6,
    b12 := m7,
    b13 := m8,
    b14 := m9,
    b15 := m10,
    n13 := m11,
    m13 := m12,
    vE := (PySem.W.mg_none_of X G zvE),
    kE := (PySem.W.mg_none_of X G zkE),
    iE := (PySem.W.mg_none_of X G ziE),
    lE := (PySem.W.mg_none_of X G zlE),
    oE := (PySem.W.mg_none_of X G zoE),
    rE := (PySem.W.mg_none_of X G zrE),
    e10 := (ec_of m0).1,
    i10 := i10,
    t10 := t10,
    f10 := F10,
    d10 := b10,
    a10 := (ec_of m0).2.1,
    p10 := (ec_of m0).2.2,
    e11 := (ec_of m1).1,
    i11 := i11,
    t11 := t11,
    f11 := F11,
    d11 := b11,
    a11 := (ec_of m1).2.1,
    p11 := (ec_of m1).2.2,
    e12 := (ec_of m2).1,
    i12 := i12,
    t12 := t12,
    f12 := F12,
    d12 := b12,
    a12 := (ec_of m2).2.1,
    p12 := (ec_of m2).2.2,
    e13 := (ec_of m3).1,
    i13 := i13,
    t13 := t13,
    f13 := F13,
    d13 := b13,
    a13 := (ec_of m3).2.1,
    p13 := (ec_of m3).2.2,
    e14 := (ec_of m4).1,
    i14 := i14,
    t14 := t14,
    f14 := F14,
    d14 := b14,
    a14 := (ec_of m4).2.1,
    p14 := (ec_of m4).2.2,
    e15 := (ec_of m5).1,
    i15 := i15,
    t15 := t15,
    f15 := F15,
    d15 := b15,
    a15 := (ec_of m5).2.1,
    p15 := (ec_of m5).2.2,
    v11 := v11,
    v12 := v12,
    v13 := v13,
    v14 := v14,
    v15 := v15,
    push := ⟨(PySem.W.mg_of X G c0), m13, m14, v0⟩,
    uC := FClasses,
    bC := bClasses,
    gC := (PySem.W.mg_of X G aClasses),
    uB := FStart,
    bB := bStart,
    gB := (PySem.W.mg_of X G aStart) }
  exact ⟨_, fun s v => .of_eq rfl, fun base _ _ => ok_law FLaw D T FSame bSame TE TF⟩
theorem walk {l : PySem.W.OpenLaw} {q : Program} {loose : List Str} {XP : (Str → Option Value) → Heap → Prop} {YP : World → Heap → Prop} {d : DefRec} {K : Params → PySem.W.Frag} (hn : l.most = some 63) (hdf : d.params.defaults = [])
    (hY : ∀ (w : World) (h : Heap), YP w h → (K w.params).In h)
    (F : ∀ (w : World) (mg : Str → Option Value) (fa : Addr) (h : Heap), (K w.params).In h → h.Ns mainGlobals mg → mg d.name = some (.ref fa) →
      ∃ fd : FuncData, (∀ (s : Shared) (u : Value), BindsTo s fd ⟨[u], []⟩ [("script", u)]) ∧ ∀ base : Heap, (K w.params).In base → base.Ns mainGlobals mg → FnOk l.prog w (K w.params) mg base CX0 7 fa fd ["script"] (spLaw (K w.params))) :
    PySem.W.WalkO q loose XP YP l.row.toRowW d [] (fun f vs => PySem.call f vs) :=
  L2.walk_of (n := 63) (k := 7) (x := "script") (CX := fun _ => CX0) (sp := fun w => spLaw (K w.params)) hn (by decide) hdf ⟨rfl, by decide, by decide⟩ hY F (fun _ _ a ns hl _ hS => ⟨a, ns, rfl, hS, fun _ => rfl⟩) fun _ _ _ _ _ z => z
end
end K00

set_option Elab.async false
set_option maxRecDepth 100000
open PySem PySem.W PyProof.Rows in
set_option maxRecDepth 100000 in
set_option maxHeartbeats 0 in
theorem PySem.Challenge.cw_pushalike_k00_errors_holds : PySem.Challenge.rw_pushalike_k00_errors.Holds := by
  w_on; o_law; k_head; (case hw => w_witness2)
  k_fill
  refine K00.walk (l := PySem.Challenge.rw_pushalike_k00_errors) rfl rfl (fun w h Y => PySem.W.kIn_of Y) ?F
  case F =>
    intro w mg fa h KX G hmg
    refine' K00.all_mk KX G hmg ?c0 ?c1 ?c2 ?c3 ?c4 ?c5 ?c6 ?c7 ?c8 ?c9 ?c10 ?c11 ?c12 ?c13 ?c14 ?c15 ?i10 ?t10 ?l10 ?q10 ?k10 ?i11 ?t11 ?l11 ?q11 ?k11 ?i12 ?t12 ?l12 ?q12 ?k12 ?i13 ?t13 ?l13 ?q13 ?k13 ?i14 ?t14 ?l14 ?q14 ?k14 ?i15 ?t15 ?l15 ?q15 ?k15 ?aStart ?lStart ?qStart ?kStart ?aThrow ?lThrow ?qThrow ?kThrow ?aPick ?lPick ?qPick ?kPick ?aWords ?lWords ?qWords ?kWords ?aName ?lName ?qName ?kName ?aValue ?lValue ?qValue ?kValue ?aAny ?lAny ?qAny ?kAny ?aSame ?lSame ?qSame ?kSame ?aClasses ?lClasses ?qClasses ?kClasses ?aLaw ?lLaw ?qLaw ?kLaw ?zlen ?zint ?zabs ?zmax ?zrange ?zisin ?ztup ?zall ?zbool ?zstr ?zvE ?zkE ?ziE ?zlE ?zoE ?zrE ?v11 ?v12 ?v13 ?v14 ?v15 ?v0 ?tab ?mor
    (case c0 => k_is)
    (case c1 => k_is)
    (case c2 => k_is)
    (case c3 => k_is)
    (case c4 => k_is)
    (case c5 => k_is)
    (case c6 => k_is)
    (case c7 => k_is)
    (case c8 => k_is)
    (case c9 => k_is)
    (case c10 => k_is)
    (case c11 => k_is)
    (case c12 => k_is)
    (case c13 => k_is)
    (case c14 => k_is)
    (case c15 => k_is)
    (case i10 => k_is)
    (case t10 => k_is)
    (case l10 => k_is)
    (case q10 => k_is)
    (case k10 => k_is)
    (case i11 => k_is)
    (case t11 => k_is)
    (case l11 => k_is)
    (case q11 => k_is)
    (case k11 => k_is)
    (case i12 => k_is)
    (case t12 => k_is)
    (case l12 => k_is)
    (case q12 => k_is)
    (case k12 => k_is)
    (case i13 => k_is)
    (case t13 => k_is)
    (case l13 => k_is)
    (case q13 => k_is)
    (case k13 => k_is)
    (case i14 => k_is)
    (case t14 => k_is)
    (case l14 => k_is)
    (case q14 => k_is)
    (case k14 => k_is)
    (case i15 => k_is)
    (case t15 => k_is)
    (case l15 => k_is)
    (case q15 => k_is)
    (case k15 => k_is)
    (case aStart => k_is)
    (case lStart => k_is)
    (case qStart => k_is)
    (case kStart => k_is)
    (case aThrow => k_is)
    (case lThrow => k_is)
    (case qThrow => k_is)
    (case kThrow => k_is)
    (case aPick => k_is)
    (case lPick => k_is)
    (case qPick => k_is)
    (case kPick => k_is)
    (case aWords => k_is)
    (case lWords => k_is)
    (case qWords => k_is)
    (case kWords => k_is)
    (case aName => k_is)
    (case lName => k_is)
    (case qName => k_is)
    (case kName => k_is)
    (case aValue => k_is)
    (case lValue => k_is)
    (case qValue => k_is)
    (case kValue => k_is)
    (case aAny => k_is)
    (case lAny => k_is)
    (case qAny => k_is)
    (case kAny => k_is)
    (case aSame => k_is)
    (case lSame => k_is)
    (case qSame => k_is)
    (case kSame => k_is)
    (case aClasses => k_is)
    (case lClasses => k_is)
    (case qClasses => k_is)
    (case kClasses => k_is)
    (case aLaw => k_is)
    (case lLaw => k_is)
    (case qLaw => k_is)
    (case kLaw => k_is)
    (case zlen => k_is)
    (case zint => k_is)
    (case zabs => k_is)
    (case zmax => k_is)
    (case zrange => k_is)
    (case zisin => k_is)
    (case ztup => k_is)
    (case zall => k_is)
    (case zbool => k_is)
    (case zstr => k_is)
    (case zvE => k_is)
    (case zkE => k_is)
    (case ziE => k_is)
    (case zlE => k_is)
    (case zoE => k_is)
    (case zrE => k_is)
    (case v11 => first | decide +kernel | k_is)
    (case v12 => first | decide +kernel | k_is)
    (case v13 => first | decide +kernel | k_is)
    (case v14 => first | decide +kernel | k_is)
    (case v15 => first | decide +kernel | k_is)
    (case v0 => k_is)
    (case tab => kernel_rfl)
    (case mor => kernel_rfl)
