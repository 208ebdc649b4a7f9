import PyProof.Rows.All
import Wide.All
import OpenK.AllK
import HandS.Words
import Wide.FinOn
import HandS.ForMost
import HandS.Wide
import HandS.Walk
import HandS.IsInst
import HandS.WordsDict
import HandS.Sort
import HandS.More
import KE.DatumOrd
import HandS.Comp
import HandS.ExcOwn
import HandS.ReplaceLit
import HandS.ReplaceDef
import HandS.Text
import HandS.Replace
import HandS.ReplaceList
import HandS.Codes
import PyProof.AutoSeq1
import PyProof.TupleOfStr
import KE.KSortTupAny
import HandS.SortOrd
import HandS.SortRule
import HandS.Deep
import PyProof.Rows.ReprR
import HandS.OwnEq
import HandS.HeadHook3
import PySem.Challenge.RW_pushalike_k08_texts_and_trees
set_option Elab.async false
namespace Wd
open PySem L2
def topS (i : Nat) : Stmt := PySem.Challenge.pw_pushalike_k08_texts_and_trees.main.body.getD i (.Pass ⟨0, 0, 0, 0⟩)
abbrev sIsInteger : Stmt := topS 5
abbrev sIsBetween : Stmt := topS 6
abbrev sIsLetter : Stmt := topS 7
abbrev sIsLetters : Stmt := topS 8
abbrev sIsName : Stmt := topS 9
abbrev sHasForm : Stmt := topS 21
abbrev sIsArgument : Stmt := topS 22
abbrev sIsPlaces : Stmt := topS 23
abbrev sIsTable : Stmt := topS 24
abbrev sIsTablePair : Stmt := topS 25
abbrev sPartsOf : Stmt := topS 26
abbrev sArgumentText : Stmt := topS 31
abbrev sHalfText : Stmt := topS 32
abbrev sReadArgument : Stmt := topS 33
abbrev sReadKind : Stmt := topS 34
abbrev sReadPair : Stmt := topS 35
abbrev sReadNumber : Stmt := topS 36
abbrev sIsTree : Stmt := topS 38
abbrev sWriteTree : Stmt := topS 41
abbrev sReadTree : Stmt := topS 42
abbrev sTextOf : Stmt := topS 43
abbrev sWordsOf : Stmt := topS 44
abbrev sJoinedWords : Stmt := topS 45
abbrev sTreeOfWords : Stmt := topS 46
abbrev sKindAfter : Stmt := topS 47
abbrev sReadWord : Stmt := topS 48
abbrev sStart : Stmt := topS 50
abbrev sThrow : Stmt := topS 51
abbrev sPick : Stmt := topS 52
abbrev sLetter : Stmt := topS 53
abbrev sLetters : Stmt := topS 54
abbrev sWords : Stmt := topS 55
abbrev sName : Stmt := topS 56
abbrev sForms : Stmt := topS 57
abbrev sRanges : Stmt := topS 58
abbrev sTableText : Stmt := topS 59
abbrev sLArgText : Stmt := topS 60
abbrev sTreeText : Stmt := topS 61
abbrev sLaw : Stmt := topS 62
abbrev cParseError_init : Stmt := inClass (topS 13) 0
end Wd

set_option Elab.async false
set_option linter.all false
set_option maxRecDepth 100000
set_option maxHeartbeats 4000000
namespace Wd
open PySem L2
/-- all but the objects in B is as it was -/
def Ob (B : List Addr) (H H' : Hp) : Prop := ∀ b o, b ∉ B → H b = some o → H' b = some o
theorem Ob.refl (B : List Addr) (H : Hp) : Ob B H H := fun _ _ _ h => h
theorem Ob.trans {B : List Addr} {H H1 H2 : Hp} (a : Ob B H H1) (b : Ob B H1 H2) : Ob B H H2 := fun c o n h => b c o n (a c o n h)
theorem Ob.same {B : List Addr} {H H1 H2 : Hp} (a : Ob B H H1) (b : Same H1 H2) : Ob B H H2 := fun c o n h => b c o (a c o n h)
theorem Ob.of {B : List Addr} {H H' : Hp} (a : Same H H') : Ob B H H' := fun b o _ h => a b o h
/-- values of a kind of their own: no data -/
structure Own (K : PySem.W.Frag) (T : List Addr → Hp → Addr → Prop) : Prop where
  mono : ∀ {B H H' a}, Ob B H H' → T B H a → T B H' a
  more : ∀ {B H a d}, (∃ kvs, H d = some (.dK kvs)) → T B H a → T (d :: B) H a
  tup : ∀ {B H a xs}, T B H a → H a ≠ some (.tup xs)
  lst : ∀ {B H a xs}, T B H a → H a ≠ some (.lst xs)
  dK : ∀ {B H a xs}, T B H a → H a ≠ some (.dK xs)
  ty : ∀ {B H a}, T B H a → ∃ t, TyX K H (.ref a) t ∧ ∀ n ∈ ["int", "bool", "str", "tuple", "list", "dict"], PySem.W.kitOne K t (.type n) = some false
/-- data over a heap: sizes of at most m, nested less than n deep; nothing of it is an object in B -/
inductive Dat (T : List Addr → Hp → Addr → Prop) (B : List Addr) (H : Hp) (m : Nat) : Nat → V → Prop where
  | non {n} : Dat T B H m (n + 1) .non
  | bl {n} (b : Bool) : Dat T B H m (n + 1) (.bl b)
  | int {n} (i : Int) : Dat T B H m (n + 1) (.int i)
  | str {n} (s : Str) (h : s.length ≤ m) (o : PyData.strOk s = true) : Dat T B H m (n + 1) (.str s)
  | own {n} {a : Addr} (t : T B H a) : Dat T B H m (n + 1) (.ref a)
  | tup {n} {a : Addr} {xs : List V} (ne : a ∉ B) (e : H a = some (.tup xs)) (l : xs.length ≤ m) (p : ∀ x ∈ xs, Dat T B H m n x) : Dat T B H m (n + 1) (.ref a)
  | lst {n} {a : Addr} {xs : List V} (ne : a ∉ B) (e : H a = some (.lst xs)) (l : xs.length ≤ m) (p : ∀ x ∈ xs, Dat T B H m n x) : Dat T B H m (n + 1) (.ref a)
  | dic {n} {a : Addr} {kvs : List (Key × V)} (ne : a ∉ B) (e : H a = some (.dK kvs)) (l : 20 * kvs.length ≤ m) (nd : (kvs.map (·.1)).Nodup)
      (k : ∀ p ∈ kvs, ∃ s : Str, p.1 = Sum.inr s ∧ s.length ≤ m ∧ PyData.strOk s = true) (p : ∀ p ∈ kvs, Dat T B H m n p.2) : Dat T B H m (n + 1) (.ref a)
section
variable {K : PySem.W.Frag} {T : List Addr → Hp → Addr → Prop} {B : List Addr} {H H' : Hp} {m m' n n' : Nat} {v : V}
theorem Dat.mono (O : Own K T) (sb : Ob B H H') (d : Dat T B H m n v) : Dat T B H' m n v := by
  induction d with
  | non => exact .non
  | bl b => exact .bl b
  | int i => exact .int i
  | str s h o => exact .str s h o
  | own t => exact .own (O.mono sb t)
  | tup ne e l p ih => exact .tup ne (sb _ _ ne e) l ih
  | lst ne e l p ih => exact .lst ne (sb _ _ ne e) l ih
  | dic ne e l nd k p ih => exact .dic ne (sb _ _ ne e) l nd k ih
theorem Dat.up (hm : m ≤ m') (d : Dat T B H m n v) : ∀ {n'}, n ≤ n' → Dat T B H m' n' v := by
  induction d with
  | non => intro n' h; obtain ⟨q, rfl⟩ := Nat.exists_eq_succ_of_ne_zero (n := n') (by omega); exact .non
  | bl b => intro n' h; obtain ⟨q, rfl⟩ := Nat.exists_eq_succ_of_ne_zero (n := n') (by omega); exact .bl b
  | int i => intro n' h; obtain ⟨q, rfl⟩ := Nat.exists_eq_succ_of_ne_zero (n := n') (by omega); exact .int i
  | str s z o => intro n' h; obtain ⟨q, rfl⟩ := Nat.exists_eq_succ_of_ne_zero (n := n') (by omega); exact .str s (by omega) o
  | own t => intro n' h; obtain ⟨q, rfl⟩ := Nat.exists_eq_succ_of_ne_zero (n := n') (by omega); exact .own t
  | tup ne e l p ih => intro n' h; obtain ⟨q, rfl⟩ := Nat.exists_eq_succ_of_ne_zero (n := n') (by omega); exact .tup ne e (by omega) fun x hx => ih x hx (by omega)
  | lst ne e l p ih => intro n' h; obtain ⟨q, rfl⟩ := Nat.exists_eq_succ_of_ne_zero (n := n') (by omega); exact .lst ne e (by omega) fun x hx => ih x hx (by omega)
  | dic ne e l nd k p ih =>
    intro n' h; obtain ⟨q, rfl⟩ := Nat.exists_eq_succ_of_ne_zero (n := n') (by omega)
    exact .dic ne e (by omega) nd (fun p hp => let ⟨s, h1, h2, h3⟩ := k p hp; ⟨s, h1, by omega, h3⟩) fun x hx => ih x hx (by omega)
theorem Dat.okS {s : Str} (d : Dat T B H m n (.str s)) : PyData.strOk s = true := by
  cases d with
  | str _ _ o => exact o
theorem ok_sign {z : Str} (h : PyData.strOk z = true) {i c : Nat} (e : z.cps[i]? = some c) : PyData.strOk ⟨#[c]⟩ = true := by
  unfold PyData.strOk at h ⊢
  rw [Array.all_eq_true'] at h
  have := h c (Array.mem_of_getElem? e)
  simpa using this
/-- what does not reach the dict at d -/
theorem Dat.past (O : Own K T) {d : Addr} (hd : ∃ kvs, H d = some (.dK kvs)) (x : Dat T B H m n v) : ¬ Dat T B H m n (.ref d) → Dat T (d :: B) H m n v := by
  induction x with
  | non => exact fun _ => .non
  | bl b => exact fun _ => .bl b
  | int i => exact fun _ => .int i
  | str s h o => exact fun _ => .str s h o
  | own t => exact fun _ => .own (O.more hd t)
  | @tup k a xs ne e l p ih =>
    intro no
    have nd : a ≠ d := fun z => no (z ▸ .tup ne e l p)
    exact .tup (by simp [nd, ne]) e l fun x hx => ih x hx fun q => no (q.up (Nat.le_refl _) (Nat.le_succ _))
  | @lst k a xs ne e l p ih =>
    intro no
    have nd : a ≠ d := fun z => no (z ▸ .lst ne e l p)
    exact .lst (by simp [nd, ne]) e l fun x hx => ih x hx fun q => no (q.up (Nat.le_refl _) (Nat.le_succ _))
  | @dic k a xs ne e l nd ks p ih =>
    intro no
    have nn : a ≠ d := fun z => no (z ▸ .dic ne e l nd ks p)
    exact .dic (by simp [nn, ne]) e l nd ks fun x hx => ih x hx fun q => no (q.up (Nat.le_refl _) (Nat.le_succ _))
/-- the values of a dict do not reach it -/
theorem Dat.kids (O : Own K T) {d : Addr} {kvs : List (Key × V)} (hd : H d = some (.dK kvs)) : ∀ n, Dat T B H m (n + 1) (.ref d) → ∀ p ∈ kvs, Dat T (d :: B) H m n p.2
  | n, x => by
    by_cases h : Dat T B H m n (.ref d)
    · cases n with
      | zero => cases h
      | succ k => exact fun p hp => (Dat.kids O hd k h p hp).up (Nat.le_refl _) (Nat.le_succ _)
    · intro p hp
      cases x with
      | own t => exact absurd hd (O.dK t)
      | tup ne e l q => rw [hd] at e; cases e
      | lst ne e l q => rw [hd] at e; cases e
      | dic ne e l nd ks q =>
        rw [hd] at e
        cases e
        exact (q p hp).past O ⟨_, hd⟩ h
/-- isinstance(v, N) is answered with c -/
def Isi (K : PySem.W.Frag) (H : Hp) (v : V) (N : String) (c : Bool) : Prop := ∃ t, TyX K H v t ∧ PySem.W.kitOne K t (.type N) = some c
theorem isi_ty {a b : String} {r : Bool} (x : TyX K H v (.type a)) (h : kitB a b = some r) : Isi K H v b r := ⟨_, x, kit_ty h⟩
theorem Own.isi (O : Own K T) {a : Addr} (t : T B H a) {N : String} (h : N ∈ ["int", "bool", "str", "tuple", "list", "dict"]) : Isi K H (.ref a) N false :=
  let ⟨u, x, k⟩ := O.ty t; ⟨u, x, k N h⟩
theorem Dat.isTup (O : Own K T) (sb : Ob B H H') (d : Dat T B H m n v) :
    (∃ a xs k, v = .ref a ∧ a ∉ B ∧ H a = some (.tup xs) ∧ H' a = some (.tup xs) ∧ xs.length ≤ m ∧ (∀ x ∈ xs, Dat T B H m k x) ∧ Isi K H' v "tuple" true) ∨
      ((∀ a xs, v = .ref a → H a ≠ some (.tup xs)) ∧ Isi K H' v "tuple" false) := by
  cases d with
  | non => exact .inr ⟨fun a xs h => (nomatch h), isi_ty (.base .non) (by decide)⟩
  | bl b => exact .inr ⟨fun a xs h => (nomatch h), isi_ty (.base (.bl b)) (by decide)⟩
  | int b => exact .inr ⟨fun a xs h => (nomatch h), isi_ty (.base (.int b)) (by decide)⟩
  | str b => exact .inr ⟨fun a xs h => (nomatch h), isi_ty (.base (.str b)) (by decide)⟩
  | own t => exact .inr ⟨fun a xs h => by cases h; exact O.tup t, O.isi (O.mono sb t) (by decide)⟩
  | tup ne e l p => exact .inl ⟨_, _, _, rfl, ne, e, sb _ _ ne e, l, p, isi_ty (.base (.tup (sb _ _ ne e))) (by decide)⟩
  | lst ne e l p => exact .inr ⟨fun a xs h q => (by cases h; rw [e] at q; cases q), isi_ty (.base (.lst (sb _ _ ne e))) (by decide)⟩
  | dic ne e l nd k p => exact .inr ⟨fun a xs h q => (by cases h; rw [e] at q; cases q), isi_ty (.base (.dK (sb _ _ ne e))) (by decide)⟩
theorem Dat.isLst (O : Own K T) (sb : Ob B H H') (d : Dat T B H m n v) :
    (∃ a xs k, v = .ref a ∧ a ∉ B ∧ n = k + 1 ∧ H a = some (.lst xs) ∧ H' a = some (.lst xs) ∧ xs.length ≤ m ∧ (∀ x ∈ xs, Dat T B H m k x) ∧ Isi K H' v "list" true) ∨
      ((∀ a xs, v = .ref a → H a ≠ some (.lst xs)) ∧ Isi K H' v "list" false) := by
  cases d with
  | non => exact .inr ⟨fun a xs h => (nomatch h), isi_ty (.base .non) (by decide)⟩
  | bl b => exact .inr ⟨fun a xs h => (nomatch h), isi_ty (.base (.bl b)) (by decide)⟩
  | int b => exact .inr ⟨fun a xs h => (nomatch h), isi_ty (.base (.int b)) (by decide)⟩
  | str b => exact .inr ⟨fun a xs h => (nomatch h), isi_ty (.base (.str b)) (by decide)⟩
  | own t => exact .inr ⟨fun a xs h => by cases h; exact O.lst t, O.isi (O.mono sb t) (by decide)⟩
  | lst ne e l p => exact .inl ⟨_, _, _, rfl, ne, rfl, e, sb _ _ ne e, l, p, isi_ty (.base (.lst (sb _ _ ne e))) (by decide)⟩
  | tup ne e l p => exact .inr ⟨fun a xs h q => (by cases h; rw [e] at q; cases q), isi_ty (.base (.tup (sb _ _ ne e))) (by decide)⟩
  | dic ne e l nd k p => exact .inr ⟨fun a xs h q => (by cases h; rw [e] at q; cases q), isi_ty (.base (.dK (sb _ _ ne e))) (by decide)⟩
theorem Dat.isDic (O : Own K T) (sb : Ob B H H') (d : Dat T B H m n v) :
    (∃ a kvs k, v = .ref a ∧ a ∉ B ∧ n = k + 1 ∧ H a = some (.dK kvs) ∧ H' a = some (.dK kvs) ∧ 20 * kvs.length ≤ m ∧ (kvs.map (·.1)).Nodup ∧ (∀ p ∈ kvs, ∃ s : Str, p.1 = Sum.inr s ∧ s.length ≤ m ∧ PyData.strOk s = true) ∧ (∀ p ∈ kvs, Dat T B H m k p.2) ∧ Isi K H' v "dict" true) ∨
      ((∀ a xs, v = .ref a → H a ≠ some (.dK xs)) ∧ Isi K H' v "dict" false) := by
  cases d with
  | non => exact .inr ⟨fun a xs h => (nomatch h), isi_ty (.base .non) (by decide)⟩
  | bl b => exact .inr ⟨fun a xs h => (nomatch h), isi_ty (.base (.bl b)) (by decide)⟩
  | int b => exact .inr ⟨fun a xs h => (nomatch h), isi_ty (.base (.int b)) (by decide)⟩
  | str b => exact .inr ⟨fun a xs h => (nomatch h), isi_ty (.base (.str b)) (by decide)⟩
  | own t => exact .inr ⟨fun a xs h => by cases h; exact O.dK t, O.isi (O.mono sb t) (by decide)⟩
  | lst ne e l p => exact .inr ⟨fun a xs h q => (by cases h; rw [e] at q; cases q), isi_ty (.base (.lst (sb _ _ ne e))) (by decide)⟩
  | tup ne e l p => exact .inr ⟨fun a xs h q => (by cases h; rw [e] at q; cases q), isi_ty (.base (.tup (sb _ _ ne e))) (by decide)⟩
  | dic ne e l nd k p => exact .inl ⟨_, _, _, rfl, ne, rfl, e, sb _ _ ne e, l, nd, k, p, isi_ty (.base (.dK (sb _ _ ne e))) (by decide)⟩
theorem Dat.isStr (O : Own K T) (sb : Ob B H H') (d : Dat T B H m n v) :
    (∃ s, v = .str s ∧ s.length ≤ m ∧ Isi K H' v "str" true) ∨ ((∀ s, v ≠ .str s) ∧ Isi K H' v "str" false) := by
  cases d with
  | non => exact .inr ⟨fun a h => (nomatch h), isi_ty (.base .non) (by decide)⟩
  | bl b => exact .inr ⟨fun a h => (nomatch h), isi_ty (.base (.bl b)) (by decide)⟩
  | int b => exact .inr ⟨fun a h => (nomatch h), isi_ty (.base (.int b)) (by decide)⟩
  | str b h => exact .inl ⟨_, rfl, h, isi_ty (.base (.str b)) (by decide)⟩
  | own t => exact .inr ⟨fun a h => (nomatch h), O.isi (O.mono sb t) (by decide)⟩
  | lst ne e l p => exact .inr ⟨fun a h => (nomatch h), isi_ty (.base (.lst (sb _ _ ne e))) (by decide)⟩
  | tup ne e l p => exact .inr ⟨fun a h => (nomatch h), isi_ty (.base (.tup (sb _ _ ne e))) (by decide)⟩
  | dic ne e l nd k p => exact .inr ⟨fun a h => (nomatch h), isi_ty (.base (.dK (sb _ _ ne e))) (by decide)⟩
theorem Dat.isInt (O : Own K T) (sb : Ob B H H') (d : Dat T B H m n v) :
    (∃ i, v = .int i ∧ Isi K H' v "int" true ∧ Isi K H' v "bool" false) ∨ ((∀ i, v ≠ .int i) ∧ ((Isi K H' v "int" true ∧ Isi K H' v "bool" true) ∨ Isi K H' v "int" false)) := by
  cases d with
  | non => exact .inr ⟨fun a h => (nomatch h), .inr (isi_ty (.base .non) (by decide))⟩
  | bl b => exact .inr ⟨fun a h => (nomatch h), .inl ⟨isi_ty (.base (.bl b)) (by decide), isi_ty (.base (.bl b)) (by decide)⟩⟩
  | int b => exact .inl ⟨_, rfl, isi_ty (.base (.int b)) (by decide), isi_ty (.base (.int b)) (by decide)⟩
  | str b => exact .inr ⟨fun a h => (nomatch h), .inr (isi_ty (.base (.str b)) (by decide))⟩
  | own t => exact .inr ⟨fun a h => (nomatch h), .inr (O.isi (O.mono sb t) (by decide))⟩
  | lst ne e l p => exact .inr ⟨fun a h => (nomatch h), .inr (isi_ty (.base (.lst (sb _ _ ne e))) (by decide))⟩
  | tup ne e l p => exact .inr ⟨fun a h => (nomatch h), .inr (isi_ty (.base (.tup (sb _ _ ne e))) (by decide))⟩
  | dic ne e l nd k p => exact .inr ⟨fun a h => (nomatch h), .inr (isi_ty (.base (.dK (sb _ _ ne e))) (by decide))⟩
/-- isinstance(x, N), answered -/
def rIsN (K : PySem.W.Frag) : List V → Hp → VK → Prop := fun xs H Q => ∃ (x : V) (N : String) (c : Bool), xs = [x, .ty N] ∧ Isi K H x N c ∧ Q (.bl c) H
theorem call_isN {X : Cx} : CallR X (.builtin "isinstance") (rIsN X.K) := fun pins s σ H vs us Q I r h => by
  obtain ⟨x, N, c, e, ⟨t, ht, k⟩, q⟩ := h
  exact call_isi pins s σ H vs us Q I r ⟨x, _, t, _, c, e, .ty N, ht, k, q⟩
end
/-! ### what the words mean -/
abbrev ten60 : Int := 10 ^ 60
def IsInt (v : V) : Prop := ∃ i, v = .int i ∧ -ten60 < i ∧ i < ten60
def low (c : Nat) : Prop := 97 ≤ c ∧ c ≤ 122
def IsLet (v : V) : Prop := ∃ c : Nat, v = .str ⟨#[c]⟩ ∧ low c
def words : List Str := ["after", "again", "at", "busy", "changes", "else", "every", "first", "fold", "it", "late", "never", "one",
  "only", "pairs", "pick", "quiet", "source", "spaced", "switch", "then", "told", "until"].map Str.ofString
def NameS (s : Str) : Prop := 1 ≤ s.length ∧ s.length ≤ 8 ∧ (∀ c ∈ s.cps.toList, low c) ∧ s ∉ words
def IsName (v : V) : Prop := ∃ s, v = .str s ∧ NameS s
def letV (cs : List Nat) : List V := cs.map fun c => V.str ⟨#[c]⟩
def Letters (cs : List Nat) : Prop := cs ≠ [] ∧ (∀ c ∈ cs, low c) ∧ cs.Pairwise (· < ·)
def IsLetters (H : Hp) (v : V) : Prop := ∃ a cs, v = .ref a ∧ H a = some (.tup (letV cs)) ∧ Letters cs
def IsSrcL (H : Hp) (v : V) : Prop := ∃ a cs, v = .ref a ∧ H a = some (.tup (letV cs)) ∧ Letters cs ∧ cs.length ≤ 4
def IsLayout (H : Hp) (v : V) : Prop := ∃ a kvs, v = .ref a ∧ H a = some (.dK kvs) ∧ 1 ≤ kvs.length ∧ kvs.length ≤ 4 ∧ ∀ p ∈ kvs, IsName (kV p.1) ∧ IsSrcL H p.2
def IsEvent (H : Hp) (v : V) : Prop := ∃ a t u l w, v = .ref a ∧ H a = some (.tup [t, u, l, w]) ∧ (∃ i, t = .int i ∧ 0 ≤ i ∧ i < ten60) ∧ IsName u ∧ IsLet l ∧ IsInt w
def IsVals (H : Hp) (v : V) : Prop := ∃ a xs, v = .ref a ∧ H a = some (.tup xs) ∧ xs.length ≤ 4 ∧ ∀ x ∈ xs, IsInt x
def IsOutput (H : Hp) (v : V) : Prop := ∃ a l w, v = .ref a ∧ H a = some (.tup [l, w]) ∧ IsLet l ∧ IsVals H w
def vEnd : V := .str (Str.ofString "end")
def IsList (H : Hp) (v : V) : Prop := ∃ a xs, v = .ref a ∧ H a = some (.tup xs) ∧ ∃ ys, (xs = ys ∨ xs = ys ++ [vEnd]) ∧ ∀ y ∈ ys, IsOutput H y
/-- the promise of a function is_..: it says whether P holds -/
def spIs (T : List Addr → Hp → Addr → Prop) (P : Hp → V → Prop) : Sp := fun vs H Q _ => ∃ (v : V) (B : List Addr) (H0 : Hp) (m n : Nat), vs = [v] ∧ Ob B H0 H ∧ m ≤ 1000 ∧ Dat T B H0 m n v ∧ ∀ H' b, Same H H' → (b = true ↔ P H0 v) → Q (.bl b) H'
end Wd

set_option Elab.async false
set_option linter.all false
set_option maxRecDepth 100000
set_option maxHeartbeats 4000000
namespace Wd
open PySem L2
theorem nay {p : Prop} (h : ¬ p) : (false = true ↔ p) := ⟨fun q => Bool.noConfusion q, fun q => (h q).elim⟩
theorem yea {p : Prop} (h : p) : (true = true ↔ p) := ⟨fun _ => h, fun _ => rfl⟩
theorem pe_gcon {X : Cx} {x : Str} {v : V} {pos : Pos} (hg : Gl X x) (h : ∃ u, X.mg x = some u ∧ RelV v u) (hd : (x == ("__debug__" : Str)) = false := by decide) : PE X (.Name x pos) (tC v) := by
  obtain ⟨u, hm, r⟩ := h
  exact pe_glob hg hm r hd
/-- isinstance(e, N) -/
def tIsi (K : PySem.W.Frag) (N : String) (te : TE) : TE := fun σ H Q => te σ H fun x H1 => ∃ c, Isi K H1 x N c ∧ Q (.bl c) H1
theorem pe_isi {X : Cx} {e : Expr} {te : TE} {N : String} {x : Str} {p q pos : Pos} (he : PE X e te) (hi : X.mg "isinstance" = none) (hm : X.mg x = none) (gi : Gl X "isinstance" := by rfl) (gx : Gl X x := by rfl)
    (hv : bootBuiltins x = some (.type N) := by decide +kernel) (hn : x ≠ "__name__" := by decide) (hd : (x == ("__debug__" : Str)) = false := by decide)
    (h1 : starEach [e, .Name x q] X.env = (false, eval e X.env) :: starEach [.Name x q] X.env := by rfl) (h2 : (backTo pos (starEach [.Name x q] X.env)).any (·.1) = false := by rfl) :
    PE X (.Call (.Name "isinstance" p) [e, .Name x q] [] pos) (tIsi X.K N te) := by
  have A := pa_cons (X := X) he (pa_cons (pe_bltn (v := .ty N) gx hm hv rfl hn hd) pa_nil (by rfl)) h1
  refine ⟨fun pins s σ H Q I h => ?_⟩
  refine wpAny_Call_Name_kw (ld_blt I gi hi (show bootBuiltins "isinstance" = some (.builtin "isinstance") by decide +kernel) ?_ (by decide) (by decide))
  refine PyProof.Rows.callWith_builtin1 (thn (A.run pos pins s σ H (fun vs H1 => match vs with
    | [x, .ty M] => ∃ c, Isi X.K H1 x M c ∧ Q (.bl c) H1
    | _ => False) I h) fun us s1 ⟨vs, H1, I1, r1, q1⟩ => ?_) h1 h2
  dsimp only at q1
  split at q1
  · obtain ⟨c, hc, q⟩ := q1
    exact call_isN pins s1 σ H1 _ us Q I1 r1 ⟨_, _, c, rfl, hc, q⟩
  · exact q1.elim
/-- all([..]): the bools of a walk -/
theorem lc_bools {J : It} {n : Nat} {G : Hp → Prop} {Y : Nat → Hp → V → Hp → Prop} (w : Walk J n G Y) (Pi : Nat → Prop) {g : TG} {te : TE} {vs : List Nat} {σ : St} {H1 : Hp} {D : Addr} {Qd : Hp → Prop} (hD : H1 D = none) (hn : n ≤ 1000)
    (hG : ∀ H, Same H1 H → G H)
    (hs : ∀ i x H H' (k : V → Hp → Prop), i < n → Same H1 H → Y i H x H' → (∀ b H4, Same H H4 → (b = true ↔ Pi i) → k (.bl b) H4) → g x (wipe σ vs) H' fun σ2 H2 => wipe σ2 vs = wipe σ vs ∧ te σ2 H2 k)
    (hd : ∀ H (bs : List Bool), Same H1 H → H D = some (.lst (bs.map V.bl)) → (bs.all id = true ↔ ∀ i, i < n → Pi i) → Qd H) :
    ∃ W : Nat → Nat → Hp → Prop, (∃ m, W 0 m (upd H1 D (.lst []))) ∧ ∀ i m H, W i m H →
      (J.stop i H ∧ Qd H) ∨ (J.go i H ∧ ∃ Nx : Hp → Prop, (∀ H', Nx H' → ∃ m', m' < m ∧ W (i + 1) m' H') ∧ ∀ x H', J.yld i H x H' → g x (wipe σ vs) H' fun σ2 H2 => wipe σ2 vs = wipe σ vs ∧ tYes σ2 H2 fun b H3 =>
        if b = true then te σ2 H3 fun y H4 => ∃ acc, H4 D = some (.lst acc) ∧ acc.length < sizeLine ∧ Nx (upd H4 D (.lst (acc ++ [y]))) else Nx H3) := by
  refine lc_it w (fun i H => Same H1 H ∧ ∃ bs : List Bool, bs.length = i ∧ (bs.all id = true ↔ ∀ j, j < i → Pi j) ∧ H D = some (.lst (bs.map V.bl))) ⟨fun b o e => by rw [upd_ne (ne_of_none e hD)]; exact e, [], rfl, by simp, upd_same⟩
    (fun i H _ ⟨s, _⟩ => hG H s) ?_ (fun H ⟨s, bs, l, e, d⟩ => hd H bs s d e)
  rintro i x H H' hi ⟨s, bs, l, e, d⟩ y
  have z := hs i x H H' (fun y H4 => ∃ acc, H4 D = some (.lst acc) ∧ acc.length < sizeLine ∧ (Same H1 (upd H4 D (.lst (acc ++ [y]))) ∧ ∃ bs : List Bool, bs.length = i + 1 ∧ (bs.all id = true ↔ ∀ j, j < i + 1 → Pi j) ∧ (upd H4 D (.lst (acc ++ [y]))) D = some (.lst (bs.map V.bl)))) hi s y ?_
  · exact z
  · intro b H4 s4 hb
    refine ⟨_, s4 _ _ d, ?_, fun c o q => ?_, bs ++ [b], by simp [l], ?_, ?_⟩
    · rw [List.length_map, l]
      exact small1000 (by omega)
    · rw [upd_ne (ne_of_none q hD)]
      exact s4 _ _ (s _ _ q)
    · rw [List.all_append, Bool.and_eq_true, e]
      simp only [List.all_cons, List.all_nil, Bool.and_true, id_eq, hb]
      constructor
      · rintro ⟨h1, h2⟩ j hj
        by_cases q : j = i
        · exact q ▸ h2
        · exact h1 j (by omega)
      · exact fun h => ⟨fun j hj => h j (by omega), h i (by omega)⟩
    · rw [upd_same, List.map_append]
      rfl
end Wd

set_option Elab.async false
set_option linter.all false
set_option maxRecDepth 100000
set_option maxHeartbeats 4000000
namespace Wd
open PySem L2
/-! ### plain facts -/
theorem sign_of {s : Str} (h : s.length = 1) : ∃ c : Nat, s = ⟨#[c]⟩ := by
  obtain ⟨a⟩ := s
  have h' : a.size = 1 := h
  obtain ⟨l⟩ := a
  match l, h' with
  | [c], _ => exact ⟨c, rfl⟩
theorem alpha_mem (c : Nat) : c ∈ (Str.ofString "abcdefghijklmnopqrstuvwxyz").cps.toList ↔ low c := by
  have e : (Str.ofString "abcdefghijklmnopqrstuvwxyz").cps.toList = [97, 98, 99, 100, 101, 102, 103, 104, 105, 106, 107, 108, 109, 110, 111, 112, 113, 114, 115, 116, 117, 118, 119, 120, 121, 122] := by decide +kernel
  rw [e]
  unfold low
  simp only [List.mem_cons, List.not_mem_nil, or_false]
  omega
theorem sign_inj {c d : Nat} (h : (V.str ⟨#[c]⟩) = V.str ⟨#[d]⟩) : c = d := by
  injection h with h
  injection h with h
  injection h with h
  injection h
theorem isLet_sign {c : Nat} : IsLet (.str ⟨#[c]⟩) ↔ low c := ⟨fun ⟨d, e, l⟩ => sign_inj e ▸ l, fun l => ⟨c, rfl, l⟩⟩
theorem sign_lt {c d : Nat} : decide ((⟨#[c]⟩ : Str).cps.toList < (⟨#[d]⟩ : Str).cps.toList) = true ↔ c < d := by
  rw [decide_eq_true_iff]
  show [c] < [d] ↔ c < d
  constructor
  · intro h
    cases h with
    | rel h => exact h
    | cons h => cases h
  · exact fun h => .rel h
theorem lets_of : ∀ {xs : List V}, (∀ x ∈ xs, IsLet x) → ∃ cs, xs = letV cs ∧ ∀ c ∈ cs, low c
  | [], _ => ⟨[], rfl, fun c h => by cases h⟩
  | x :: r, h => by
    obtain ⟨c, e, l⟩ := h x List.mem_cons_self
    obtain ⟨cs, e', l'⟩ := lets_of fun y hy => h y (List.mem_cons_of_mem _ hy)
    refine ⟨c :: cs, by rw [e, e']; rfl, fun d hd => ?_⟩
    rcases List.mem_cons.mp hd with q | q
    · exact q ▸ l
    · exact l' d q
theorem letV_inj : ∀ {cs ds : List Nat}, letV cs = letV ds → cs = ds
  | [], [], _ => rfl
  | [], _ :: _, h => nomatch h
  | _ :: _, [], h => nomatch h
  | c :: cs, d :: ds, h => by
    have h1 : (V.str ⟨#[c]⟩) = V.str ⟨#[d]⟩ := (List.cons.inj h).1
    rw [sign_inj h1, letV_inj (List.cons.inj h).2]
theorem asc_iff {cs : List Nat} : (∀ i, i < cs.length - 1 → ∃ c d, cs[i]? = some c ∧ cs[i + 1]? = some d ∧ c < d) ↔ cs.Pairwise (· < ·) := by
  rw [List.pairwise_iff_getElem]
  constructor
  · intro h i j hi hj hij
    induction j with
    | zero => omega
    | succ j ih =>
      obtain ⟨c, d, h1, h2, h3⟩ := h j (by omega)
      have e1 : cs[j] = c := by
        rw [List.getElem?_eq_getElem (by omega)] at h1
        exact Option.some.inj h1
      have e2 : cs[j + 1] = d := by
        rw [List.getElem?_eq_getElem hj] at h2
        exact Option.some.inj h2
      by_cases q : i = j
      · subst q
        rw [e1, e2]
        exact h3
      · have := ih (by omega) (by omega)
        rw [e2]
        rw [e1] at this
        omega
  · intro h i hi
    exact ⟨_, _, List.getElem?_eq_getElem (by omega), List.getElem?_eq_getElem (by omega), h i (i + 1) (by omega) (by omega) (by omega)⟩
structure WTxt (mg : Str → Option Value) (fI fL : Addr) : Prop where
  len : mg "len" = none
  isin : mg "isinstance" = none
  int : mg "int" = none
  bool : mg "bool" = none
  str : mg "str" = none
  tup : mg "tuple" = none
  dict : mg "dict" = none
  all : mg "all" = none
  range : mg "range" = none
  ie : ∃ u, mg "INTEGER_END" = some u ∧ RelV (.int ten60) u
  ls : ∃ u, mg "LETTERS" = some u ∧ RelV (.str (Str.ofString "abcdefghijklmnopqrstuvwxyz")) u
  mn : ∃ u, mg "MAX_NAME" = some u ∧ RelV (.int 8) u
  fi : mg "is_integer" = some (.ref fI)
  fl : mg "is_letter" = some (.ref fL)
section
variable {P : Program} {w : World} {K : PySem.W.Frag} {mg : Str → Option Value} {base : Heap} {T : List Addr → Hp → Addr → Prop} {fI fL : Addr}
theorem scIsInteger : FnScope ["value"] ["value"] (defScope sIsInteger) := ⟨rfl, rfl, rfl, by decide +kernel, rfl, by decide +kernel, by decide +kernel⟩
theorem ok_is_integer (O : Own K T) {f : Addr} {fd : FuncData} (F : Fun K "is_integer" "is_integer" sIsInteger f fd) (X : WTxt mg fI fL) : FnOk P w K mg base CX0 1 f fd ["value"] (spIs T fun _ => IsInt) := by
  refine F.ok scIsInteger (fun vs H Q E h => ?_) (fun cdv A outer s H vs Q E hr h => ?_)
  · obtain ⟨v, B, H0, m, n, rfl, _⟩ := h
    rfl
  · obtain ⟨v, B, H0, m, n, rfl, sb, hm, d, k⟩ := h
    refine ⟨_, pss_one (ps_ret (pe_and (pe_isi (N := "int") (pv 0) X.isin X.int) (pe_and (pe_not (pe_isi (N := "bool") (pv 0) X.isin X.bool)) (pe_one (pe_chain op_lt op_lt (pe_un un_neg (pe_gcon rfl X.ie)) (pv 0) (pe_gcon rfl X.ie)))))), ?_⟩
    have no : (∀ i, v ≠ .int i) → (false = true ↔ IsInt v) := fun h => nay fun ⟨i, e, _⟩ => h i e
    rcases d.isInt O sb with ⟨i, rfl, i1, i2⟩ | ⟨ni, ⟨i1, i2⟩ | i1⟩
    · refine ⟨_, rfl, _, i1, _, rfl, iteT ⟨_, rfl, _, i2, _, rfl, _, rfl, iteT ⟨_, rfl, _, rfl, _, _, rfl, rfl, _, rfl, ?_⟩⟩⟩
      refine ite2 (fun c => ?_) (fun c => ?_)
      · refine ⟨_, _, rfl, rfl, k _ _ (Same.refl _) ?_⟩
        rw [decide_eq_true_iff]
        exact ⟨fun h => ⟨i, rfl, of_decide_eq_true c, h⟩, fun ⟨j, e, _, h⟩ => by cases e; exact h⟩
      · refine k _ _ (Same.refl _) (nay fun ⟨j, e, h, _⟩ => ?_)
        cases e
        exact (c (decide_eq_true h)).elim
    · exact ⟨_, rfl, _, i1, _, rfl, iteT ⟨_, rfl, _, i2, _, rfl, _, rfl, iteF (k _ _ (Same.refl _) (no ni))⟩⟩
    · exact ⟨_, rfl, _, i1, _, rfl, iteF (k _ _ (Same.refl _) (no ni))⟩
theorem scIsLetter : FnScope ["value"] ["value"] (defScope sIsLetter) := ⟨rfl, rfl, rfl, by decide +kernel, rfl, by decide +kernel, by decide +kernel⟩
theorem ok_is_letter (O : Own K T) {f : Addr} {fd : FuncData} (F : Fun K "is_letter" "is_letter" sIsLetter f fd) (X : WTxt mg fI fL) : FnOk P w K mg base CX0 1 f fd ["value"] (spIs T fun _ => IsLet) := by
  refine F.ok scIsLetter (fun vs H Q E h => ?_) (fun cdv A outer s H vs Q E hr h => ?_)
  · obtain ⟨v, B, H0, m, n, rfl, _⟩ := h
    rfl
  · obtain ⟨v, B, H0, m, n, rfl, sb, hm, d, k⟩ := h
    refine ⟨_, pss_one (ps_ret (pe_and (pe_isi (N := "str") (pv 0) X.isin X.str) (pe_and (pe_cmpR op_eq (pe_callB call_len_str (by rfl) X.len PySem.boot_len (pa_cons (pv 0) pa_nil)) pe_int (nomark _)) (pe_one (pe_cmpR op_in_sign (pv 0) (pe_gcon rfl X.ls) (by rfl)))))), ?_⟩
    rcases d.isStr O sb with ⟨z, rfl, hz, i1⟩ | ⟨ni, i1⟩
    · refine ⟨_, rfl, _, i1, _, rfl, iteT ⟨_, rfl, z, rfl, Nat.le_of_lt (small1000 (by omega)), rfl, _, rfl, ?_⟩⟩
      refine ite2 (fun c => ?_) (fun c => ?_)
      · have c' : (V.int z.length) = .int 1 := of_decide_eq_true c
        injection c' with c'
        obtain ⟨a, rfl⟩ := sign_of (s := z) (by omega)
        refine ⟨_, rfl, a, _, rfl, rfl, k _ _ (Same.refl _) ?_⟩
        rw [decide_eq_true_iff]
        exact (alpha_mem a).trans isLet_sign.symm
      · refine k _ _ (Same.refl _) (nay fun ⟨a, e, _⟩ => c ?_)
        cases e
        rfl
    · refine ⟨_, rfl, _, i1, _, rfl, iteF (k _ _ (Same.refl _) (nay fun ⟨a, e, _⟩ => ni _ e))⟩
end
end Wd

set_option Elab.async false
set_option linter.all false
set_option maxRecDepth 100000
set_option maxHeartbeats 4000000
namespace Wd
open PySem L2
theorem all_at {α : Type} {xs : List α} {p : α → Prop} : (∀ i, i < xs.length → ∃ x, xs[i]? = some x ∧ p x) ↔ ∀ x ∈ xs, p x := by
  constructor
  · intro h x hx
    obtain ⟨i, hi, rfl⟩ := List.getElem_of_mem hx
    obtain ⟨y, e, q⟩ := h i hi
    rw [List.getElem?_eq_getElem hi] at e
    exact Option.some.inj e ▸ q
  · exact fun h i hi => ⟨_, List.getElem?_eq_getElem hi, h _ (List.getElem_mem hi)⟩
theorem at_one {α : Type} {xs : List α} {i : Nat} {x : α} {p : α → Prop} (h : xs[i]? = some x) {b : Bool} (hb : b = true ↔ p x) : b = true ↔ ∃ y, xs[i]? = some y ∧ p y :=
  ⟨fun q => ⟨x, h, hb.mp q⟩, fun ⟨y, e, q⟩ => hb.mpr (by rw [h] at e; exact Option.some.inj e ▸ q)⟩
theorem at_nn {α : Type} {xs : List α} {r : Int} {v : α} (h0 : 0 ≤ r) (h : xs[r.toNat]? = some v) : atI xs r = some v := by
  obtain ⟨n, rfl⟩ := Int.eq_ofNat_of_zero_le h0
  exact atI_nat (by simpa using h)
theorem tup_same {H : Hp} {a : Addr} {xs ys : List V} (h : H a = some (.tup xs)) (h' : H a = some (.tup ys)) : xs = ys := by
  rw [h] at h'
  injection h' with h'
  injection h'
theorem dK_same {H : Hp} {a : Addr} {xs ys : List (Key × V)} (h : H a = some (.dK xs)) (h' : H a = some (.dK ys)) : xs = ys := by
  rw [h] at h'
  injection h' with h'
  injection h'
section
variable {P : Program} {w : World} {K : PySem.W.Frag} {mg : Str → Option Value} {base : Heap} {T : List Addr → Hp → Addr → Prop} {fI fL : Addr}
abbrev nIsLetters : List Str := ["value", "letter", "k"]
theorem scIsLetters : FnScope nIsLetters ["value"] (defScope sIsLetters) := ⟨rfl, rfl, rfl, by decide +kernel, rfl, by decide +kernel, by decide +kernel⟩
theorem ok_is_letters (O : Own K T) {f : Addr} {fd fdL : FuncData} (F : Fun K "is_letters" "is_letters" sIsLetters f fd) (X : WTxt mg fI fL) (FL : Fun K "is_letter" "is_letter" sIsLetter fL fdL) (bL : Binds K fdL ["value"] []) :
    FnOk P w K mg base CX0 2 f fd ["value"] (spIs T IsLetters) := by
  have GL : FnOk P w K mg base CX0 1 fL fdL ["value"] (spIs T fun _ => IsLet) := ok_is_letter O FL X
  refine F.ok scIsLetters (fun vs H Q E h => ?_) (fun cdv A outer s H vs Q E hr h => ?_)
  · obtain ⟨v, B, H0, m, n, rfl, _⟩ := h
    rfl
  · obtain ⟨v, B, H0, m, n, rfl, sb, hm, d, k⟩ := h
    refine ⟨_, pss_cons (ps_if (PW.pt (pw_or (pt_not (pt_val (pe_isi (N := "tuple") (pv 0) X.isin X.tup))) (pw_or1 (pt_cmpR op_eq (pe_callB call_len_seq (by rfl) X.len PySem.boot_len (pa_cons (pv 0) pa_nil)) pe_int (nomark _))))) (pss_one (ps_ret pe_bl)) pss_nil)
      (pss_cons (ps_if (pt_not (pt_val (pe_callB (cr_all rfl) (by rfl) X.all (by decide +kernel) (pa_cons (pe_lc (own := [("letter", 1)]) (g := gName 1) (tt := tYes) rfl scIsLetters.nd (pi_tup (pv 0))
          (blkOk_by (N := nIsLetters) (sc := defScope sIsLetters) (by decide +kernel)) (fun _ _ _ _ _ => pg_name (i := 1) scIsLetters.nd rfl (Or.inl rfl)) (fun _ _ _ _ _ => pts_nil)
          (fun _ _ _ _ _ => pe_call GL hr rfl X.fl FL.kp bL .nil pass0 (pa_cons (pv 1) pa_nil))) pa_nil)))) (pss_one (ps_ret pe_bl)) pss_nil)
      (pss_one (ps_ret (pe_callB (cr_all rfl) (by rfl) X.all (by decide +kernel) (pa_cons (pe_lc (own := [("k", 2)]) (g := gName 2) (tt := tYes) rfl scIsLetters.nd
          (pi_range1 rfl X.range (pa_cons (pe_op op_sub (pe_callB call_len_seq (by rfl) X.len PySem.boot_len (pa_cons (pv 0) pa_nil)) pe_int) pa_nil))
          (blkOk_by (N := nIsLetters) (sc := defScope sIsLetters) (by decide +kernel)) (fun _ _ _ _ _ => pg_name (i := 2) scIsLetters.nd rfl (Or.inl rfl)) (fun _ _ _ _ _ => pts_nil)
          (fun _ _ _ _ _ => pe_cmpR op_lt_str (pe_ix (r := rIxT K) ix_tup (pv 0) (pv 2) (fun _ _ => rfl)) (pe_ix (r := rIxT K) ix_tup (pv 0) (pe_op op_add (pv 2) pe_int) (fun _ _ => rfl)) (nomark _))) pa_nil))))), ?_⟩
    rcases d.isTup O sb with ⟨a, xs, j, rfl, na, e0, e1, hl, hk, i1⟩ | ⟨no, i1⟩
    · refine ⟨_, rfl, _, i1, _, rfl, ?_⟩
      refine iteF ⟨_, rfl, a, xs, rfl, .inr (SqT.of e1), rfl, _, rfl, ?_⟩
      refine ite2 (fun c => ?_) (fun c => ?_)
      · refine k _ _ (Same.refl _) (nay fun ⟨b, cs, eb, h, l⟩ => ?_)
        cases eb
        have q : (V.int xs.length) = .int 0 := of_decide_eq_true c
        injection q with q
        obtain rfl : xs = letV cs := tup_same e0 h
        exact l.1 (List.length_eq_zero_iff.mp (by simp [letV] at q; simpa using q))
      · have ne : xs ≠ [] := fun q => c (by rw [q]; rfl)
        refine ⟨_, rfl, a, rfl, ⟨xs, SqT.of e1⟩, fun D hD => ?_⟩
        refine lc_bools (walk_tup (K := K) (xs := xs) (a := a)) (fun i => ∃ x, xs[i]? = some x ∧ IsLet x) hD (by omega) (fun H s => SqT.of (s _ _ e1)) ?_ ?_
        · rintro i x H1 H' kk hi s1 ⟨rfl, hx⟩ h
          exact ⟨rfl, _, rfl, x, B, H0, m, j, rfl, sb.same s1, hm, hk x (List.mem_of_getElem? hx), fun H4 b s4 hb => h b H4 s4 (at_one hx hb)⟩
        · rintro H1 bs s1 hD1 hb
          have e2 := s1 _ _ e1
          refine ⟨D, bs, rfl, SqL.of hD1, _, rfl, ?_⟩
          cases hbs : bs.all id with
          | false =>
            refine iteT (k _ _ s1 (nay fun ⟨b, cs, eb, h, l⟩ => ?_))
            cases eb
            obtain rfl : xs = letV cs := tup_same e0 h
            rw [hbs] at hb
            refine Bool.noConfusion (hb.mpr (all_at.mpr fun x hx => ?_))
            obtain ⟨c, hc, rfl⟩ := List.mem_map.mp hx
            exact ⟨c, rfl, l.2.1 c hc⟩
          | true =>
            obtain ⟨cs, rfl, lo⟩ := lets_of (all_at.mp (hb.mp hbs))
            have lc : (letV cs).length = cs.length := List.length_map _
            refine iteF ⟨_, rfl, a, _, rfl, .inr (SqT.of e2), _, _, rfl, rfl, _, rfl, by omega, by omega, fun D2 hD2 => ?_⟩
            have en : (((letV cs).length : Int) - 1).toNat = cs.length - 1 := by omega
            have na2 : ∀ {H9 : Hp}, Same H1 H9 → H9 a = some (.tup (letV cs)) := fun s => s _ _ e2
            refine lc_bools (walk_range (n := (((letV cs).length : Int) - 1).toNat)) (fun i => ∃ c d, cs[i]? = some c ∧ cs[i + 1]? = some d ∧ c < d) hD2 (by omega) (fun _ _ => trivial) ?_ ?_
            · rintro i x H2 H' kk hi s2 ⟨rfl, rfl⟩ h
              have hi1 : i < cs.length := by omega
              have hi2 : i + 1 < cs.length := by omega
              have g1 : (letV cs)[i]? = some (V.str ⟨#[cs[i]]⟩) := by simp [letV, hi1]
              have g2 : (letV cs)[i + 1]? = some (V.str ⟨#[cs[i + 1]]⟩) := by simp [letV, hi2]
              refine ⟨rfl, _, rfl, _, rfl, a, _, _, _, rfl, rfl, SqT.of (na2 s2), at_nn (by omega) (by rw [show (0 + (i : Int)).toNat = i by omega]; exact g1), ?_⟩
              refine ⟨_, rfl, _, rfl, _, _, rfl, rfl, a, _, _, _, rfl, rfl, SqT.of (na2 s2), at_nn (by omega) (by rw [show (0 + (i : Int) + 1).toNat = i + 1 by omega]; exact g2), ?_⟩
              refine ⟨_, _, rfl, rfl, h _ _ (Same.refl _) (sign_lt.trans ⟨fun q => ⟨_, _, List.getElem?_eq_getElem hi1, List.getElem?_eq_getElem hi2, q⟩, fun ⟨c, d, q1, q2, q⟩ => ?_⟩)⟩
              rw [List.getElem?_eq_getElem hi1] at q1
              rw [List.getElem?_eq_getElem hi2] at q2
              rw [Option.some.inj q1, Option.some.inj q2]
              exact q
            · rintro H2 bs2 s2 hD2' hb2
              rw [en] at hb2
              refine ⟨D2, bs2, rfl, SqL.of hD2', k _ _ (s1.trans s2) ⟨fun q => ⟨a, cs, rfl, e0, fun z => ne (by rw [z]; rfl), lo, asc_iff.mp (hb2.mp q)⟩, fun ⟨b, ds, eb, h, l⟩ => ?_⟩⟩
              cases eb
              obtain rfl : cs = ds := letV_inj (tup_same e0 h)
              exact hb2.mpr (asc_iff.mpr l.2.2)
    · exact ⟨_, rfl, _, i1, _, rfl, iteT (k _ _ (Same.refl _) (nay fun ⟨b, cs, eb, h, _⟩ => no _ _ eb h))⟩
end
end Wd

set_option Elab.async false
set_option linter.all false
set_option maxRecDepth 100000
set_option maxHeartbeats 4000000
namespace Wd
open PySem L2
structure ATxt (K : PySem.W.Frag) (w : World) (mg : Str → Option Value) (d : Addr) (es : Array DictEntry) (n : Nat) : Prop where
  g : ∃ u, mg "ARGUMENTS" = some u ∧ RelV (.ref d) u
  k : KDict K w d es n
  mem : ∀ z : Str, ∃ r, PySem.W.nsIn K d z = some r ∧ (r.isSome = true ↔ z ∈ words ∨ z = Str.ofString "+" ∨ z = Str.ofString "&")
theorem no_plus : ¬ ∀ c ∈ (Str.ofString "+").cps.toList, low c := fun h => by
  have := h 43 (by decide +kernel)
  unfold low at this
  omega
theorem no_amp : ¬ ∀ c ∈ (Str.ofString "&").cps.toList, low c := fun h => by
  have := h 38 (by decide +kernel)
  unfold low at this
  omega
theorem cps_at {z : Str} {p : Nat → Prop} : (∀ i, i < z.cps.size → ∃ c, z.cps[i]? = some c ∧ p c) ↔ ∀ c ∈ z.cps.toList, p c := by
  have q := all_at (xs := z.cps.toList) (p := p)
  rw [Array.length_toList] at q
  simpa using q
theorem chainF {p q : Prop} [Decidable p] [Decidable q] {A B : Prop} (h : ¬ (p ∧ q) → B) (h' : p ∧ q → A) : if p then (if q then A else B) else B := by
  by_cases c : p
  · rw [if_pos c]
    by_cases e : q
    · rw [if_pos e]
      exact h' ⟨c, e⟩
    · rw [if_neg e]
      exact h fun z => e z.2
  · rw [if_neg c]
    exact h fun z => c z.1
section
variable {P : Program} {w : World} {K : PySem.W.Frag} {mg : Str → Option Value} {base : Heap} {T : List Addr → Hp → Addr → Prop} {fI fL : Addr} {dA : Addr} {es : Array DictEntry} {nA : Nat}
abbrev nIsName : List Str := ["value", "sign"]
theorem scIsName : FnScope nIsName ["value"] (defScope sIsName) := ⟨rfl, rfl, rfl, by decide +kernel, rfl, by decide +kernel, by decide +kernel⟩
theorem ok_is_name (O : Own K T) {f : Addr} {fd fdL : FuncData} (F : Fun K "is_name" "is_name" sIsName f fd) (X : WTxt mg fI fL) (Z : ATxt K w mg dA es nA) (FL : Fun K "is_letter" "is_letter" sIsLetter fL fdL) (bL : Binds K fdL ["value"] []) :
    FnOk P w K mg base CX0 2 f fd ["value"] (spIs T fun _ => IsName) := by
  have GL : FnOk P w K mg base CX0 1 fL fdL ["value"] (spIs T fun _ => IsLet) := ok_is_letter O FL X
  refine F.ok scIsName (fun vs H Q E h => ?_) (fun cdv A outer s H vs Q E hr h => ?_)
  · obtain ⟨v, B, H0, m, n, rfl, _⟩ := h
    rfl
  · obtain ⟨v, B, H0, m, n, rfl, sb, hm, d, k⟩ := h
    refine ⟨_, pss_cons (ps_if (PW.pt (pw_or (pt_not (pt_val (pe_isi (N := "str") (pv 0) X.isin X.str))) (pw_or1 (pt_not (pt_chain op_le op_le pe_int (pe_callB call_len_str (by rfl) X.len PySem.boot_len (pa_cons (pv 0) pa_nil)) (pe_gcon rfl X.mn)))))) (pss_one (ps_ret pe_bl)) pss_nil)
      (pss_one (ps_ret (pe_and (pe_callB (cr_all rfl) (by rfl) X.all (by decide +kernel) (pa_cons (pe_lc (own := [("sign", 1)]) (g := gName 1) (tt := tYes) rfl scIsName.nd (pi_str (pv 0))
          (blkOk_by (N := nIsName) (sc := defScope sIsName) (by decide +kernel)) (fun _ _ _ _ _ => pg_name (i := 1) scIsName.nd rfl (Or.inl rfl)) (fun _ _ _ _ _ => pts_nil)
          (fun _ _ _ _ _ => pe_call GL hr rfl X.fl FL.kp bL .nil pass0 (pa_cons (pv 1) pa_nil))) pa_nil))
        (pe_one (pe_cmpR (op_notIn_kd Z.k) (pv 0) (pe_gcon rfl Z.g) (by rfl)))))), ?_⟩
    rcases d.isStr O sb with ⟨z, rfl, hz, i1⟩ | ⟨ni, i1⟩
    · have hz1 : z.length ≤ sizeLine := Nat.le_of_lt (small1000 (by omega))
      refine ⟨_, rfl, _, i1, _, rfl, iteF ⟨_, rfl, z, rfl, hz1, _, _, rfl, rfl, _, rfl, ?_⟩⟩
      have bad : ¬ (1 ≤ z.length ∧ z.length ≤ 8) → ¬ IsName (.str z) := fun h ⟨y, e, q1, q2, _⟩ => by
        cases e
        exact h ⟨q1, q2⟩
      refine ite2 (fun c1 => ?_) (fun c1 => ?_)
      · refine ⟨_, _, rfl, rfl, _, rfl, ?_⟩
        refine ite2 (fun c2 => ?_) (fun c2 => ?_)
        · refine k _ _ (Same.refl _) (nay (bad fun q => ?_))
          simp at c2
          omega
        · have c1' : (1 : Int) ≤ z.length := of_decide_eq_true c1
          have c2' : (z.length : Int) ≤ 8 := by simpa using c2
          refine ⟨_, rfl, _, rfl, fun D hD => ?_⟩
          refine lc_bools (walk_str (z := z)) (fun i => ∃ c, z.cps[i]? = some c ∧ low c) hD (by show z.length ≤ 1000; omega) (fun _ _ => trivial) ?_ ?_
          · rintro i x H1 H' kk hi s1 ⟨rfl, c, hc, rfl⟩ h
            exact ⟨rfl, _, rfl, _, B, H0, 1000, 1, rfl, sb.same s1, Nat.le_refl _, .str _ (by show 1 ≤ 1000; decide) (ok_sign d.okS hc), fun H4 b s4 hb => h b H4 s4 ⟨fun q => ⟨c, hc, isLet_sign.mp (hb.mp q)⟩, fun ⟨y, e, q⟩ => hb.mpr (isLet_sign.mpr (by rw [hc] at e; exact Option.some.inj e ▸ q))⟩⟩
          · rintro H1 bs s1 hD1 hb
            rw [cps_at] at hb
            refine ⟨D, bs, rfl, SqL.of hD1, _, rfl, ?_⟩
            obtain ⟨r, hr1, hr2⟩ := Z.mem z
            cases hbs : bs.all id with
            | false =>
              rw [hbs] at hb
              refine iteF (k _ _ s1 (nay fun ⟨y, e, q1, q2, q3, _⟩ => ?_))
              cases e
              exact Bool.noConfusion (hb.mpr q3)
            | true =>
              have lo := hb.mp hbs
              have pm : (z ∈ words ∨ z = Str.ofString "+" ∨ z = Str.ofString "&") ↔ z ∈ words := ⟨fun q => by
                rcases q with q | rfl | rfl
                · exact q
                · exact (no_plus lo).elim
                · exact (no_amp lo).elim, .inl⟩
              refine iteT ⟨_, rfl, z, r, rfl, rfl, hr1, k _ _ s1 ?_⟩
              rw [pm] at hr2
              rw [Bool.not_eq_true', ← Bool.not_eq_true, hr2]
              exact ⟨fun q => ⟨z, rfl, by omega, by omega, lo, q⟩, fun ⟨y, e, _, _, _, q⟩ => by cases e; exact q⟩
      · refine ⟨_, rfl, iteT (k _ _ (Same.refl _) (nay (bad fun q => c1 ?_)))⟩
        exact decide_eq_true (by omega)
    · exact ⟨_, rfl, _, i1, _, rfl, iteT (k _ _ (Same.refl _) (nay fun ⟨z, e, _⟩ => ni _ e))⟩
end
end Wd

set_option Elab.async false
set_option linter.all false
set_option maxRecDepth 100000
set_option maxHeartbeats 4000000
namespace Wd
open PySem L2
/-- an integer within its limits -/
def Btw (lo hi : Int) (v : V) : Prop := ∃ i, v = .int i ∧ -ten60 < i ∧ i < ten60 ∧ lo ≤ i ∧ i ≤ hi
def spBetween (T : List Addr → Hp → Addr → Prop) : Sp := fun vs H Q _ => ∃ (v : V) (lo hi : Int) (B : List Addr) (H0 : Hp) (m n : Nat), vs = [v, .int lo, .int hi] ∧ Ob B H0 H ∧ m ≤ 1000 ∧ Dat T B H0 m n v ∧
  ∀ H' b, Same H H' → (b = true ↔ Btw lo hi v) → Q (.bl b) H'
def IsPlaces (H : Hp) (v : V) : Prop := ∃ a xs, v = .ref a ∧ H a = some (.tup xs) ∧ xs.length ≤ 4 ∧ ∀ x ∈ xs, Btw 0 3 x
/-- what stands in the table of a fold: ((s, letter), (t, letter or nothing)) -/
def IsPair (H : Hp) (v : V) : Prop := ∃ a p q x l y o, v = .ref a ∧ H a = some (.tup [.ref p, .ref q]) ∧ H p = some (.tup [x, l]) ∧ H q = some (.tup [y, o]) ∧ Btw 0 8 x ∧ Btw 0 8 y ∧ IsLet l ∧ (IsLet o ∨ o = .str (Str.ofString ""))
structure FTxt (mg : Str → Option Value) (fB : Addr) : Prop where
  btw : mg "is_between" = some (.ref fB)
  mpl : ∃ u, mg "MAX_PLACES" = some u ∧ RelV (.int 4) u
  mp : ∃ u, mg "MAX_PLACE" = some u ∧ RelV (.int 3) u
  mpa : ∃ u, mg "MAX_PAIRS" = some u ∧ RelV (.int 20) u
  mst : ∃ u, mg "MAX_STATE" = some u ∧ RelV (.int 8) u
section
variable {P : Program} {w : World} {K : PySem.W.Frag} {mg : Str → Option Value} {base : Heap} {T : List Addr → Hp → Addr → Prop} {fI fL fB : Addr}
theorem scIsBetween : FnScope ["value", "least", "most"] ["value", "least", "most"] (defScope sIsBetween) := ⟨rfl, rfl, rfl, by decide +kernel, rfl, by decide +kernel, by decide +kernel⟩
theorem ok_is_between (O : Own K T) {f : Addr} {fd fdI : FuncData} (F : Fun K "is_between" "is_between" sIsBetween f fd) (X : WTxt mg fI fL) (FI : Fun K "is_integer" "is_integer" sIsInteger fI fdI) (bI : Binds K fdI ["value"] []) :
    FnOk P w K mg base CX0 2 f fd ["value", "least", "most"] (spBetween T) := by
  have GI : FnOk P w K mg base CX0 1 fI fdI ["value"] (spIs T fun _ => IsInt) := ok_is_integer O FI X
  refine F.ok scIsBetween (fun vs H Q E h => ?_) (fun cdv A outer s H vs Q E hr h => ?_)
  · obtain ⟨v, lo, hi, B, H0, m, n, rfl, _⟩ := h
    rfl
  · obtain ⟨v, lo, hi, B, H0, m, n, rfl, sb, hm, d, k⟩ := h
    refine ⟨_, pss_one (ps_ret (pe_and (pe_call GI hr rfl X.fi FI.kp bI .nil pass0 (pa_cons (pv 0) pa_nil)) (pe_one (pe_chain op_le op_le (pv 1) (pv 0) (pv 2))))), ?_⟩
    refine ⟨_, rfl, v, B, H0, m, n, rfl, sb, hm, d, fun H1 b s1 hb => ⟨b, rfl, ?_⟩⟩
    cases b with
    | false => exact iteF (k _ _ s1 (nay fun ⟨i, e, h1, h2, _⟩ => Bool.noConfusion (hb.mpr ⟨i, e, h1, h2⟩)))
    | true =>
      obtain ⟨i, rfl, h1, h2⟩ := hb.mp rfl
      refine iteT ⟨_, rfl, _, rfl, _, _, rfl, rfl, _, rfl, ?_⟩
      refine ite2 (fun c => ?_) (fun c => ?_)
      · refine ⟨_, rfl, _, _, rfl, rfl, k _ _ s1 ?_⟩
        rw [decide_eq_true_iff]
        exact ⟨fun q => ⟨i, rfl, h1, h2, of_decide_eq_true c, q⟩, fun ⟨j, e, _, _, _, q⟩ => by cases e; exact q⟩
      · refine k _ _ s1 (nay fun ⟨j, e, _, _, q, _⟩ => c ?_)
        cases e
        exact decide_eq_true q
theorem scIsPlaces : FnScope ["value", "place"] ["value"] (defScope sIsPlaces) := ⟨rfl, rfl, rfl, by decide +kernel, rfl, by decide +kernel, by decide +kernel⟩
theorem ok_is_places (O : Own K T) {f : Addr} {fd fdI fdB : FuncData} (F : Fun K "is_places" "is_places" sIsPlaces f fd) (X : WTxt mg fI fL) (Y : FTxt mg fB) (FI : Fun K "is_integer" "is_integer" sIsInteger fI fdI) (bI : Binds K fdI ["value"] [])
    (FB : Fun K "is_between" "is_between" sIsBetween fB fdB) (bB : Binds K fdB ["value", "least", "most"] []) : FnOk P w K mg base CX0 3 f fd ["value"] (spIs T IsPlaces) := by
  have GB : FnOk P w K mg base CX0 2 fB fdB ["value", "least", "most"] (spBetween T) := ok_is_between O FB X FI bI
  refine F.ok scIsPlaces (fun vs H Q E h => ?_) (fun cdv A outer s H vs Q E hr h => ?_)
  · obtain ⟨v, B, H0, m, n, rfl, _⟩ := h
    rfl
  · obtain ⟨v, B, H0, m, n, rfl, sb, hm, d, k⟩ := h
    refine ⟨_, pss_cons (ps_if (PW.pt (pw_or (pt_not (pt_val (pe_isi (N := "tuple") (pv 0) X.isin X.tup))) (pw_or1 (pt_cmpR op_gt (pe_callB call_len_seq (by rfl) X.len PySem.boot_len (pa_cons (pv 0) pa_nil)) (pe_gcon rfl Y.mpl) (nomark _))))) (pss_one (ps_ret pe_bl)) pss_nil)
      (pss_one (ps_ret (pe_callB (cr_all rfl) (by rfl) X.all (by decide +kernel) (pa_cons (pe_lc (own := [("place", 1)]) (g := gName 1) (tt := tYes) rfl scIsPlaces.nd (pi_tup (pv 0))
          (blkOk_by (N := ["value", "place"]) (sc := defScope sIsPlaces) (by decide +kernel)) (fun _ _ _ _ _ => pg_name (i := 1) scIsPlaces.nd rfl (Or.inl rfl)) (fun _ _ _ _ _ => pts_nil)
          (fun _ _ _ _ _ => pe_call GB hr rfl Y.btw FB.kp bB .nil pass0 (pa_cons (pv 1) (pa_cons pe_int (pa_cons (pe_gcon rfl Y.mp) pa_nil))))) pa_nil)))), ?_⟩
    rcases d.isTup O sb with ⟨a, xs, j, rfl, na, e0, e1, hl, hk, i1⟩ | ⟨no, i1⟩
    · refine ⟨_, rfl, _, i1, _, rfl, iteF ⟨_, rfl, a, xs, rfl, .inr (SqT.of e1), _, _, rfl, rfl, _, rfl, ?_⟩⟩
      refine ite2 (fun c => ?_) (fun c => ?_)
      · refine k _ _ (Same.refl _) (nay fun ⟨b, ys, eb, h, l, _⟩ => ?_)
        cases eb
        obtain rfl : xs = ys := tup_same e0 h
        have := of_decide_eq_true c
        omega
      · have c' : xs.length ≤ 4 := by
          simp at c
          omega
        refine ⟨_, rfl, a, rfl, ⟨xs, SqT.of e1⟩, fun D hD => ?_⟩
        refine lc_bools (walk_tup (K := K) (xs := xs) (a := a)) (fun i => ∃ x, xs[i]? = some x ∧ Btw 0 3 x) hD (by omega) (fun H s => SqT.of (s _ _ e1)) ?_ ?_
        · rintro i x H1 H' kk hi s1 ⟨rfl, hx⟩ h
          exact ⟨rfl, _, rfl, x, 0, 3, B, H0, m, j, rfl, sb.same s1, hm, hk x (List.mem_of_getElem? hx), fun H4 b s4 hb => h b H4 s4 (at_one hx hb)⟩
        · rintro H1 bs s1 hD1 hb
          rw [all_at] at hb
          refine ⟨D, bs, rfl, SqL.of hD1, k _ _ s1 (hb.trans ⟨fun q => ⟨a, xs, rfl, e0, c', q⟩, fun ⟨b, ys, eb, h, _, q⟩ => ?_⟩)⟩
          cases eb
          obtain rfl : xs = ys := tup_same e0 h
          exact q
    · exact ⟨_, rfl, _, i1, _, rfl, iteT (k _ _ (Same.refl _) (nay fun ⟨b, ys, eb, h, _⟩ => no _ _ eb h))⟩
def rEqT (T : List Addr → Hp → Addr → Prop) : R2 := fun x y H Q => ∃ B m n z, Dat T B H m n x ∧ y = .str z ∧ ∀ b H', Same H H' → (b = true ↔ x = .str z) → Q (.bl b) H'
def rLenQ (K : PySem.W.Frag) : List V → Hp → VK → Prop := fun xs H Q => ∃ p ys, xs = [.ref p] ∧ (SqL K H p ys ∨ SqT K H p ys) ∧ Q (.int ys.length) H
theorem call_lenQ {X : Cx} : CallR X (.builtin "len") (rLenQ X.K) := call_len_seq
abbrev nIsTablePair : List Str := ["value", "before", "letter", "after", "other", "half"]
theorem scIsTablePair : FnScope nIsTablePair ["value"] (defScope sIsTablePair) := ⟨rfl, rfl, rfl, by decide +kernel, rfl, by decide +kernel, by decide +kernel⟩
/-- a pair, over the heap -/
def TwoAt (H : Hp) (v : V) : Prop := ∃ p x y, v = .ref p ∧ H p = some (.tup [x, y])
theorem ok_is_table_pair (O : Own K T) {f : Addr} {fd fdI fdB fdL : FuncData} (F : Fun K "is_table_pair" "is_table_pair" sIsTablePair f fd) (X : WTxt mg fI fL) (Y : FTxt mg fB) (FI : Fun K "is_integer" "is_integer" sIsInteger fI fdI) (bI : Binds K fdI ["value"] [])
    (FB : Fun K "is_between" "is_between" sIsBetween fB fdB) (bB : Binds K fdB ["value", "least", "most"] []) (FL : Fun K "is_letter" "is_letter" sIsLetter fL fdL) (bL : Binds K fdL ["value"] [])
    (hE : ∀ X : Cx, X.prog = P → X.w = w → X.K = K → X.mg = mg → X.base = base → Room 2 X.A → OpR X (compareOp .Eq) (rEqT T)) : FnOk P w K mg base CX0 3 f fd ["value"] (spIs T IsPair) := by
  have GB : FnOk P w K mg base CX0 2 fB fdB ["value", "least", "most"] (spBetween T) := ok_is_between O FB X FI bI
  have GL : FnOk P w K mg base CX0 1 fL fdL ["value"] (spIs T fun _ => IsLet) := ok_is_letter O FL X
  refine F.ok scIsTablePair (fun vs H Q E h => ?_) (fun cdv A outer s H vs Q E hr h => ?_)
  · obtain ⟨v, B, H0, m, n, rfl, _⟩ := h
    rfl
  · obtain ⟨v, B, H0, m, n, rfl, sb, hm, d, k⟩ := h
    have hr1 : Room 1 _ := hr.mono (by decide)
    refine ⟨_, pss_cons (ps_if (PW.pt (pw_or (pt_not (pt_val (pe_isi (N := "tuple") (pv 0) X.isin X.tup))) (pw_or1 (pt_cmpR op_ne (pe_callB call_len_seq (by rfl) X.len PySem.boot_len (pa_cons (pv 0) pa_nil)) pe_int (nomark _))))) (pss_one (ps_ret pe_bl)) pss_nil)
      (pss_cons (ps_if (pt_not (pt_val (pe_callB (cr_all rfl) (by rfl) X.all (by decide +kernel) (pa_cons (pe_lc (own := [("half", 5)]) (g := gName 5) (tt := tYes) (te := tAndV (tIsi K "tuple" (tVar 5)) (tOp rEq (tCB (rLenQ K) (tCons (tVar 5) tNil)) (tC (.int 2)))) rfl scIsTablePair.nd (pi_tup (pv 0))
          (blkOk_by (N := nIsTablePair) (sc := defScope sIsTablePair) (by decide +kernel)) (fun _ _ _ _ _ => pg_name (i := 5) scIsTablePair.nd rfl (Or.inl rfl)) (fun _ _ _ _ _ => pts_nil)
          (fun _ _ _ _ _ => pe_and (pe_isi (N := "tuple") (pv 5) X.isin X.tup) (pe_one (pe_cmpR op_eq (pe_callB call_lenQ (by rfl) X.len PySem.boot_len (pa_cons (pv 5) pa_nil)) pe_int (nomark _))))) pa_nil)))) (pss_one (ps_ret pe_bl)) pss_nil)
      (pss_cons (ps_asg (pv 0) (pg_tup rfl (pgs_cons (pg_tup rfl (pgs_cons (pg_name (i := 1) scIsTablePair.nd rfl (Or.inl rfl)) (pgs_cons (pg_name (i := 2) scIsTablePair.nd rfl (Or.inl rfl)) pgs_nil)))
          (pgs_cons (pg_tup rfl (pgs_cons (pg_name (i := 3) scIsTablePair.nd rfl (Or.inl rfl)) (pgs_cons (pg_name (i := 4) scIsTablePair.nd rfl (Or.inl rfl)) pgs_nil))) pgs_nil))))
      (pss_cons (ps_if (PW.pt (pw_or (pt_not (pt_val (pe_call GB hr rfl Y.btw FB.kp bB .nil pass0 (pa_cons (pv 1) (pa_cons pe_int (pa_cons (pe_gcon rfl Y.mst) pa_nil)))))) (pw_or1 (pt_not (pt_val (pe_call GB hr rfl Y.btw FB.kp bB .nil pass0 (pa_cons (pv 3) (pa_cons pe_int (pa_cons (pe_gcon rfl Y.mst) pa_nil))))))))) (pss_one (ps_ret pe_bl)) pss_nil)
      (pss_one (ps_ret (pe_and (pe_call GL hr1 rfl X.fl FL.kp bL .nil pass0 (pa_cons (pv 2) pa_nil)) (pe_one (pe_or (pe_call GL hr1 rfl X.fl FL.kp bL .nil pass0 (pa_cons (pv 4) pa_nil)) (pe_one (pe_cmpR (hE _ rfl rfl rfl rfl rfl hr) (pv 4) pe_str (nomark _))))))))))), ?_⟩
    rcases d.isTup O sb with ⟨a, xs, j, rfl, na, e0, e1, hl, hk, i1⟩ | ⟨no, i1⟩
    · refine ⟨_, rfl, _, i1, _, rfl, iteF ⟨_, rfl, a, xs, rfl, .inr (SqT.of e1), rfl, _, rfl, ?_⟩⟩
      refine ite2 (fun c => ?_) (fun c => ?_)
      · refine k _ _ (Same.refl _) (nay fun ⟨b, p, q, x, l, y, o, eb, h, _⟩ => ?_)
        cases eb
        obtain rfl := tup_same e0 h
        simp at c
      · have c' : xs.length = 2 := by
          have c2 : (V.int xs.length) = .int 2 := by simpa using c
          injection c2 with c2
          omega
        obtain ⟨u1, u2, rfl⟩ : ∃ u1 u2, xs = [u1, u2] := by
          match xs, c' with
          | [l, u], _ => exact ⟨l, u, rfl⟩
        refine ⟨_, rfl, a, rfl, ⟨_, SqT.of e1⟩, fun D hD => ?_⟩
        refine lc_bools (walk_tup (K := K) (xs := [u1, u2]) (a := a)) (fun i => ∃ x, ([u1, u2] : List V)[i]? = some x ∧ TwoAt H0 x) hD (by show 2 ≤ 1000; decide) (fun H s => SqT.of (s _ _ e1)) ?_ ?_
        · rintro i x H1 H' kk hi s1 ⟨rfl, hx⟩ h
          have dx := hk x (List.mem_of_getElem? hx)
          refine ⟨rfl, _, rfl, ?_⟩
          rcases dx.isTup O (sb.same s1) with ⟨p, ys, j2, rfl, np, f0, f1, fl, fk, i2⟩ | ⟨no2, i2⟩
          · refine ⟨_, i2, _, rfl, iteT ⟨_, rfl, p, ys, rfl, .inr (SqT.of f1), rfl, h _ _ (Same.refl _) (at_one (p := TwoAt H0) hx ?_)⟩⟩
            rw [decide_eq_true_iff]
            constructor
            · intro q
              injection q with q
              match ys, (by omega : ys.length = 2) with
              | [y1, y2], _ => exact ⟨p, y1, y2, rfl, f0⟩
            · rintro ⟨p', y1, y2, e, g⟩
              cases e
              rw [tup_same f0 g]
              rfl
          · refine ⟨_, i2, _, rfl, iteF (h _ _ (Same.refl _) (at_one (p := TwoAt H0) hx (nay ?_)))⟩
            rintro ⟨p', y1, y2, e, g⟩
            exact no2 _ _ e g
        · rintro H1 bs s1 hD1 hb
          rw [all_at] at hb
          refine ⟨D, bs, rfl, SqL.of hD1, _, rfl, ?_⟩
          have un : ∀ {pr : Prop}, (∀ p q x l y o, u1 = .ref p → u2 = .ref q → H0 p = some (.tup [x, l]) → H0 q = some (.tup [y, o]) → Btw 0 8 x → Btw 0 8 y → IsLet l → (IsLet o ∨ o = .str (Str.ofString "")) → pr) → IsPair H0 (.ref a) → pr := fun {pr} g ⟨b, p, q, x, l, y, o, eb, h, h1, h2, b1, b2, l1, l2⟩ => by
            cases eb
            have e := tup_same e0 h
            injection e with ea er
            injection er with eb' _
            exact g p q x l y o ea eb' h1 h2 b1 b2 l1 l2
          cases hbs : bs.all id with
          | false =>
            rw [hbs] at hb
            refine iteT (k _ _ s1 (nay (un fun p q x l y o ea eb h1 h2 _ _ _ _ => Bool.noConfusion (hb.mpr fun z hz => ?_))))
            have hz' : z = u1 ∨ z = u2 := by simpa using hz
            rcases hz' with rfl | rfl
            · exact ⟨p, x, l, ea, h1⟩
            · exact ⟨q, y, o, eb, h2⟩
          | true =>
            have two := hb.mp hbs
            obtain ⟨p, x, l, rfl, hp⟩ := two u1 (by simp)
            obtain ⟨q, y, o, rfl, hq⟩ := two u2 (by simp)
            rcases (hk (.ref p) (by simp)).isTup O (sb.same s1) with ⟨p', ys, j1, ep, _, f0, f1, _, fk, _⟩ | ⟨nop, _⟩
            case inr => exact (nop _ _ rfl hp).elim
            cases ep
            obtain rfl : ys = [x, l] := tup_same f0 hp
            rcases (hk (.ref q) (by simp)).isTup O (sb.same s1) with ⟨q', zs, j2, eq, _, g0, g1, _, gk, _⟩ | ⟨noq, _⟩
            case inr => exact (noq _ _ rfl hq).elim
            cases eq
            obtain rfl : zs = [y, o] := tup_same g0 hq
            have un2 : ∀ {pr : Prop}, (Btw 0 8 x → Btw 0 8 y → IsLet l → (IsLet o ∨ o = .str (Str.ofString "")) → pr) → IsPair H0 (.ref a) → pr := fun {pr} g => un fun p9 q9 x9 l9 y9 o9 ea eb h1 h2 b1 b2 l1 l2 => by
              cases ea
              cases eb
              cases tup_same hp h1
              cases tup_same hq h2
              exact g b1 b2 l1 l2
            have S1 := sb.same s1
            refine iteF ⟨_, rfl, a, _, rfl, SqT.of (s1 _ _ e1), rfl, _, _, rfl, ⟨p, _, rfl, SqT.of f1, rfl, _, _, rfl, _, _, rfl, rfl, _, _, rfl, q, _, rfl, SqT.of g1, rfl, _, _, rfl, _, _, rfl, rfl, rfl, ?_⟩⟩
            refine ⟨_, rfl, x, 0, 8, B, H0, m, j1, rfl, S1, hm, fk x (by simp), fun H2 b2 s2 hb2 => ⟨_, rfl, ?_⟩⟩
            cases b2 with
            | false => exact iteT (k _ _ (s1.trans s2) (nay (un2 fun z _ _ _ => Bool.noConfusion (hb2.mpr z))))
            | true =>
              have S2 := S1.same s2
              refine iteF ⟨_, rfl, y, 0, 8, B, H0, m, j2, rfl, S2, hm, gk y (by simp), fun H3 b3 s3 hb3 => ⟨_, rfl, ?_⟩⟩
              cases b3 with
              | false => exact iteT (k _ _ ((s1.trans s2).trans s3) (nay (un2 fun _ z _ _ => Bool.noConfusion (hb3.mpr z))))
              | true =>
                have S3 := S2.same s3
                refine iteF ⟨_, rfl, l, B, H0, m, j1, rfl, S3, hm, fk l (by simp), fun H4 b4 s4 hb4 => ⟨b4, rfl, ?_⟩⟩
                have s14 := ((s1.trans s2).trans s3).trans s4
                cases b4 with
                | false => exact iteF (k _ _ s14 (nay (un2 fun _ _ z _ => Bool.noConfusion (hb4.mpr z))))
                | true =>
                  have S4 := S3.same s4
                  have pack : (IsLet o ∨ o = .str (Str.ofString "")) → IsPair H0 (.ref a) := fun z => ⟨a, p, q, x, l, y, o, rfl, e0, hp, hq, hb2.mp rfl, hb3.mp rfl, hb4.mp rfl, z⟩
                  refine iteT ⟨_, rfl, o, B, H0, m, j2, rfl, S4, hm, gk o (by simp), fun H5 b5 s5 hb5 => ⟨b5, rfl, ?_⟩⟩
                  have s15 := s14.trans s5
                  cases b5 with
                  | true => exact iteT (k _ _ s15 (yea (pack (.inl (hb5.mp rfl)))))
                  | false =>
                    refine iteF ⟨_, rfl, B, m, j2, _, (gk o (by simp)).mono O (S4.same s5), rfl, fun b6 H6 s6 hb6 => k _ _ (s15.trans s6) (hb6.trans ⟨fun z => pack (.inr z), un2 fun _ _ _ z => z.elim (fun z => Bool.noConfusion (hb5.mpr z)) id⟩)⟩
    · exact ⟨_, rfl, _, i1, _, rfl, iteT (k _ _ (Same.refl _) (nay fun ⟨b, p, q, x, l, y, o, eb, h, _⟩ => no _ _ eb h))⟩
end
end Wd

set_option Elab.async false
set_option linter.all false
set_option maxRecDepth 100000
set_option maxHeartbeats 4000000
/-! (int, text) < (int, text). -/
namespace PL
open PySem PySem.Spec PyProof.Rows L2
def rLtP (K : PySem.W.Frag) : R2 := fun x y H Q => ∃ (a b : Addr) (d e : Int × Str), x = .ref a ∧ y = .ref b ∧ SqT K H a [.int d.1, .str d.2] ∧ SqT K H b [.int e.1, .str e.2] ∧ Q (.bl (PySem.W.DatumOrd.lt d e)) H
theorem op_ltP {X : Cx} (hu : X.A.units + 64 < cLine) : OpR X (compareOp .Lt) (rLtP X.K) := by
  intro pins s σ H x y v u Q I rx ry h
  obtain ⟨a, b, d, e, rfl, rfl, ha, hb, q⟩ := h
  have p1 : Dp X.K H (.ref a) (.tuple [.int d.1, .str d.2]) := .tup ha (.cons (.int _) (.cons (.str _) .nil))
  have p2 : Dp X.K H (.ref b) (.tuple [.int e.1, .str e.2]) := .tup hb (.cons (.int _) (.cons (.str _) .nil))
  obtain ⟨as, r1⟩ := Dp.reads I _ _ v p1 rx
  obtain ⟨bs, r2⟩ := Dp.reads I _ _ u p2 ry
  refine PySem.W.lt_datum (x := d) (y := e) ⟨as, r1⟩ ⟨bs, r2⟩ (Nat.lt_of_le_of_lt (Nat.add_le_add_left ?_ _) hu) ⟨.bl _, H, I, rfl, q⟩
  decide
theorem lt_iff (d e : Int × Str) : PySem.W.DatumOrd.lt d e = true ↔ d.1 < e.1 ∨ (d.1 = e.1 ∧ d.2.cps.toList < e.2.cps.toList) := by
  show (if d.1 = e.1 then decide (d.2.cps.toList < e.2.cps.toList) else decide (d.1 < e.1)) = true ↔ _
  split
  · rename_i h
    rw [decide_eq_true_iff]
    exact ⟨fun q => .inr ⟨h, q⟩, fun q => q.elim (fun q => by omega) (·.2)⟩
  · rename_i h
    rw [decide_eq_true_iff]
    exact ⟨.inl, fun q => q.elim id fun q => (h q.1).elim⟩
end PL

set_option Elab.async false
set_option linter.all false
set_option maxRecDepth 100000
set_option maxHeartbeats 4000000
namespace Wd
open PySem L2
def PairLt (H : Hp) (x y : V) : Prop := ∃ (t t' p q p' q' : Addr) (d e : Int × Str), x = .ref t ∧ y = .ref t' ∧ H t = some (.tup [.ref p, .ref q]) ∧ H t' = some (.tup [.ref p', .ref q']) ∧ H p = some (.tup [.int d.1, .str d.2]) ∧ H p' = some (.tup [.int e.1, .str e.2]) ∧ PySem.W.DatumOrd.lt d e = true
def IsTable (H : Hp) (v : V) : Prop := ∃ a xs, v = .ref a ∧ H a = some (.tup xs) ∧ 1 ≤ xs.length ∧ xs.length ≤ 20 ∧ (∀ x ∈ xs, IsPair H x) ∧ ∀ i, i < xs.length - 1 → ∃ x y, xs[i]? = some x ∧ xs[i + 1]? = some y ∧ PairLt H x y
section
variable {P : Program} {w : World} {K : PySem.W.Frag} {mg : Str → Option Value} {base : Heap} {T : List Addr → Hp → Addr → Prop} {fI fL fB fP : Addr}
/-- what a pair's key is, over both heaps -/
theorem pair_key (O : Own K T) {B : List Addr} {H0 H : Hp} {m n : Nat} {x : V} (sb : Ob B H0 H) (d : Dat T B H0 m n x) (h : IsPair H0 x) :
    ∃ (t p q : Addr) (e : Int × Str), x = .ref t ∧ H0 t = some (.tup [.ref p, .ref q]) ∧ H0 p = some (.tup [.int e.1, .str e.2]) ∧ H t = some (.tup [.ref p, .ref q]) ∧ H p = some (.tup [.int e.1, .str e.2]) := by
  obtain ⟨t, p, q, s, l, y, o, rfl, h1, h2, _, ⟨i, rfl, _⟩, _, ⟨c, rfl, _⟩, _⟩ := h
  rcases d.isTup O sb with ⟨t', xs, j, e, _, f0, f1, _, fk, _⟩ | ⟨no, _⟩
  · cases e
    obtain rfl := tup_same f0 h1
    rcases (fk (.ref p) (by simp)).isTup O sb with ⟨p', ys, j2, e2, _, g0, g1, _, _, _⟩ | ⟨no, _⟩
    · cases e2
      obtain rfl := tup_same g0 h2
      exact ⟨t, p, q, (i, ⟨#[c]⟩), rfl, h1, h2, f1, g1⟩
    · exact (no _ _ rfl h2).elim
  · exact (no _ _ rfl h1).elim
abbrev nIsTable : List Str := ["value", "pair", "k"]
theorem scIsTable : FnScope nIsTable ["value"] (defScope sIsTable) := ⟨rfl, rfl, rfl, by decide +kernel, rfl, by decide +kernel, by decide +kernel⟩
theorem ok_is_table (O : Own K T) {f : Addr} {fd fdI fdB fdL fdP : FuncData} (F : Fun K "is_table" "is_table" sIsTable f fd) (X : WTxt mg fI fL) (Y : FTxt mg fB) (mP : mg "is_table_pair" = some (.ref fP)) (FI : Fun K "is_integer" "is_integer" sIsInteger fI fdI) (bI : Binds K fdI ["value"] [])
    (FB : Fun K "is_between" "is_between" sIsBetween fB fdB) (bB : Binds K fdB ["value", "least", "most"] []) (FL : Fun K "is_letter" "is_letter" sIsLetter fL fdL) (bL : Binds K fdL ["value"] []) (FP : Fun K "is_table_pair" "is_table_pair" sIsTablePair fP fdP) (bP : Binds K fdP ["value"] [])
    (hE : ∀ X : Cx, X.prog = P → X.w = w → X.K = K → X.mg = mg → X.base = base → Room 2 X.A → OpR X (compareOp .Eq) (rEqT T)) : FnOk P w K mg base CX0 4 f fd ["value"] (spIs T IsTable) := by
  have GP : FnOk P w K mg base CX0 3 fP fdP ["value"] (spIs T IsPair) := ok_is_table_pair O FP X Y FI bI FB bB FL bL hE
  refine F.ok scIsTable (fun vs H Q E h => ?_) (fun cdv A outer s H vs Q E hr h => ?_)
  · obtain ⟨v, B, H0, m, n, rfl, _⟩ := h
    rfl
  · obtain ⟨v, B, H0, m, n, rfl, sb, hm, d, k⟩ := h
    refine ⟨_, pss_cons (ps_if (PW.pt (pw_or (pt_not (pt_val (pe_isi (N := "tuple") (pv 0) X.isin X.tup))) (pw_or1 (pt_not (pt_chain op_le op_le pe_int (pe_callB call_len_seq (by rfl) X.len PySem.boot_len (pa_cons (pv 0) pa_nil)) (pe_gcon rfl Y.mpa)))))) (pss_one (ps_ret pe_bl)) pss_nil)
      (pss_cons (ps_if (pt_not (pt_val (pe_callB (cr_all rfl) (by rfl) X.all (by decide +kernel) (pa_cons (pe_lc (own := [("pair", 1)]) (g := gName 1) (tt := tYes) rfl scIsTable.nd (pi_tup (pv 0))
          (blkOk_by (N := nIsTable) (sc := defScope sIsTable) (by decide +kernel)) (fun _ _ _ _ _ => pg_name (i := 1) scIsTable.nd rfl (Or.inl rfl)) (fun _ _ _ _ _ => pts_nil)
          (fun _ _ _ _ _ => pe_call GP hr rfl mP FP.kp bP .nil pass0 (pa_cons (pv 1) pa_nil))) pa_nil)))) (pss_one (ps_ret pe_bl)) pss_nil)
      (pss_one (ps_ret (pe_callB (cr_all rfl) (by rfl) X.all (by decide +kernel) (pa_cons (pe_lc (own := [("k", 2)]) (g := gName 2) (tt := tYes) rfl scIsTable.nd
          (pi_range1 rfl X.range (pa_cons (pe_op op_sub (pe_callB call_len_seq (by rfl) X.len PySem.boot_len (pa_cons (pv 0) pa_nil)) pe_int) pa_nil))
          (blkOk_by (N := nIsTable) (sc := defScope sIsTable) (by decide +kernel)) (fun _ _ _ _ _ => pg_name (i := 2) scIsTable.nd rfl (Or.inl rfl)) (fun _ _ _ _ _ => pts_nil)
          (fun _ _ _ _ _ => pe_cmpR (r := PL.rLtP K) (PL.op_ltP hr.units) (pe_ix (r := rIxT K) ix_tup (pe_ix (r := rIxT K) ix_tup (pv 0) (pv 2) (fun _ _ => rfl)) pe_int (fun _ _ => rfl))
            (pe_ix (r := rIxT K) ix_tup (pe_ix (r := rIxT K) ix_tup (pv 0) (pe_op op_add (pv 2) pe_int) (fun _ _ => rfl)) pe_int (fun _ _ => rfl)) (nomark _))) pa_nil))))), ?_⟩
    rcases d.isTup O sb with ⟨a, xs, j, rfl, na, e0, e1, hl, hk, i1⟩ | ⟨no, i1⟩
    · have un : ∀ {pr : Prop}, (1 ≤ xs.length → xs.length ≤ 20 → (∀ x ∈ xs, IsPair H0 x) → (∀ i, i < xs.length - 1 → ∃ x y, xs[i]? = some x ∧ xs[i + 1]? = some y ∧ PairLt H0 x y) → pr) → IsTable H0 (.ref a) → pr := fun {pr} g ⟨b, ys, eb, h, q1, q2, q3, q4⟩ => by
        cases eb
        obtain rfl : xs = ys := tup_same e0 h
        exact g q1 q2 q3 q4
      refine ⟨_, rfl, _, i1, _, rfl, iteF ⟨_, rfl, a, xs, rfl, .inr (SqT.of e1), _, _, rfl, rfl, _, rfl, ?_⟩⟩
      refine ite2 (fun c1 => ?_) (fun c1 => ?_)
      · refine ⟨_, _, rfl, rfl, _, rfl, ?_⟩
        refine ite2 (fun c2 => ?_) (fun c2 => ?_)
        · refine k _ _ (Same.refl _) (nay (un fun _ q _ _ => ?_))
          simp at c2
          omega
        · have c1' : (1 : Int) ≤ xs.length := of_decide_eq_true c1
          have c2' : (xs.length : Int) ≤ 20 := by simpa using c2
          refine ⟨_, rfl, a, rfl, ⟨xs, SqT.of e1⟩, fun D hD => ?_⟩
          refine lc_bools (walk_tup (K := K) (xs := xs) (a := a)) (fun i => ∃ x, xs[i]? = some x ∧ IsPair H0 x) hD (by omega) (fun H s => SqT.of (s _ _ e1)) ?_ ?_
          · rintro i x H1 H' kk hi s1 ⟨rfl, hx⟩ h
            exact ⟨rfl, _, rfl, x, B, H0, m, j, rfl, sb.same s1, hm, hk x (List.mem_of_getElem? hx), fun H4 b s4 hb => h b H4 s4 (at_one (p := IsPair H0) hx hb)⟩
          · rintro H1 bs s1 hD1 hb
            rw [all_at] at hb
            have e2 := s1 _ _ e1
            refine ⟨D, bs, rfl, SqL.of hD1, _, rfl, ?_⟩
            cases hbs : bs.all id with
            | false =>
              rw [hbs] at hb
              exact iteT (k _ _ s1 (nay (un fun _ _ q _ => Bool.noConfusion (hb.mpr q))))
            | true =>
              have prs := hb.mp hbs
              refine iteF ⟨_, rfl, a, _, rfl, .inr (SqT.of e2), _, _, rfl, rfl, _, rfl, by omega, by omega, fun D2 hD2 => ?_⟩
              have en : ((xs.length : Int) - 1).toNat = xs.length - 1 := by omega
              refine lc_bools (walk_range (n := ((xs.length : Int) - 1).toNat)) (fun i => ∃ x y, xs[i]? = some x ∧ xs[i + 1]? = some y ∧ PairLt H0 x y) hD2 (by omega) (fun _ _ => trivial) ?_ ?_
              · rintro i x H2 H' kk hi s2 ⟨rfl, rfl⟩ h
                have hi1 : i < xs.length := by omega
                have hi2 : i + 1 < xs.length := by omega
                have g1 := List.getElem?_eq_getElem hi1
                have g2 := List.getElem?_eq_getElem hi2
                have S2 := (sb.same s1).same s2
                obtain ⟨t, p, q, dd, ex, z1, z2, z3, z4⟩ := pair_key O S2 (hk _ (List.getElem_mem hi1)) (prs _ (List.getElem_mem hi1))
                obtain ⟨t', p', q', ee, ey, y1, y2, y3, y4⟩ := pair_key O S2 (hk _ (List.getElem_mem hi2)) (prs _ (List.getElem_mem hi2))
                rw [ex] at g1
                rw [ey] at g2
                have n1 : atI xs (0 + (i : Int)) = some (.ref t) := at_nn (by omega) (by rw [show (0 + (i : Int)).toNat = i by omega]; exact g1)
                have n2 : atI xs (0 + (i : Int) + 1) = some (.ref t') := at_nn (by omega) (by rw [show (0 + (i : Int) + 1).toNat = i + 1 by omega]; exact g2)
                have f2 := s2 _ _ e2
                refine ⟨rfl, _, rfl, _, rfl, a, _, _, _, rfl, rfl, SqT.of f2, n1, t, _, _, _, rfl, rfl, SqT.of z3, atI_nat (j := 0) rfl, ?_⟩
                refine ⟨_, rfl, _, rfl, _, _, rfl, rfl, a, _, _, _, rfl, rfl, SqT.of f2, n2, t', _, _, _, rfl, rfl, SqT.of y3, atI_nat (j := 0) rfl, ?_⟩
                refine ⟨p, p', dd, ee, rfl, rfl, SqT.of z4, SqT.of y4, h _ _ (Same.refl _) ⟨fun r => ⟨_, _, g1, g2, t, t', p, q, p', q', dd, ee, rfl, rfl, z1, y1, z2, y2, r⟩, ?_⟩⟩
                rintro ⟨x, y, h1, h2, u, u', a1, a2, a3, a4, d1, d2, rfl, rfl, m1, m2, m3, m4, r⟩
                rw [g1] at h1
                rw [g2] at h2
                cases h1
                cases h2
                cases tup_same z1 m1
                cases tup_same y1 m2
                have k1 := tup_same z2 m3
                have k2 := tup_same y2 m4
                obtain ⟨i1, s1⟩ := dd
                obtain ⟨i2, s2⟩ := ee
                obtain ⟨j1, w1⟩ := d1
                obtain ⟨j2, w2⟩ := d2
                cases k1
                cases k2
                exact r
              · rintro H2 bs2 s2 hD2' hb2
                rw [en] at hb2
                exact ⟨D2, bs2, rfl, SqL.of hD2', k _ _ (s1.trans s2) (hb2.trans ⟨fun r => ⟨a, xs, rfl, e0, by omega, by omega, prs, r⟩, un fun _ _ _ r => r⟩)⟩
      · refine ⟨_, rfl, iteT (k _ _ (Same.refl _) (nay (un fun q _ _ _ => c1 ?_)))⟩
        exact decide_eq_true (by omega)
    · exact ⟨_, rfl, _, i1, _, rfl, iteT (k _ _ (Same.refl _) (nay fun ⟨b, ys, eb, h, _⟩ => no _ _ eb h))⟩
end
end Wd

set_option Elab.async false
set_option linter.all false
set_option maxRecDepth 100000
set_option maxHeartbeats 4000000
namespace Wd
open PySem L2
inductive Kind where | name | letter | letters | places | table | delay | count | room | width
  deriving DecidableEq
def Kind.str : Kind → Str
  | .name => Str.ofString "name" | .letter => Str.ofString "letter" | .letters => Str.ofString "letters" | .places => Str.ofString "places" | .table => Str.ofString "table"
  | .delay => Str.ofString "delay" | .count => Str.ofString "count" | .room => Str.ofString "room" | .width => Str.ofString "width"
def ten40 : Int := 10 ^ 40 - 1
/-- the limits of the kinds that are numbers -/
def lims : Kind → Int × Int
  | .delay => (1, ten40) | .count => (1, 9) | .room => (1, 3) | _ => (0, 4)
def Arg (H : Hp) : Kind → V → Prop
  | .name, v => IsName v | .letter, v => IsLet v | .letters, v => IsLetters H v | .places, v => IsPlaces H v | .table, v => IsTable H v
  | .delay, v => Btw 1 ten40 v | .count, v => Btw 1 9 v | .room, v => Btw 1 3 v | .width, v => Btw 0 4 v
def spArg (T : List Addr → Hp → Addr → Prop) : Sp := fun vs H Q _ => ∃ (v : V) (kd : Kind) (B : List Addr) (H0 : Hp) (m n : Nat), vs = [v, .str kd.str] ∧ Ob B H0 H ∧ m ≤ 1000 ∧ Dat T B H0 m n v ∧
  ∀ H' b, Same H H' → (b = true ↔ Arg H0 kd v) → Q (.bl b) H'
/-- a def that stands at its name -/
structure At (P : Program) (w : World) (K : PySem.W.Frag) (mg : Str → Option Value) (base : Heap) (k : Nat) (x : Str) (f : Addr) (fd : FuncData) (ps : List Str) (sp : Sp) : Prop where
  m : mg x = some (.ref f)
  kp : PySem.W.keepIn K (.ref f) = true
  b : Binds K fd ps []
  g : FnOk P w K mg base CX0 k f fd ps sp
structure RTxt (K : PySem.W.Frag) (w : World) (mg : Str → Option Value) (dR : Addr) : Prop where
  g : ∃ u, mg "RANGES" = some u ∧ RelV (.ref dR) u
  at_ : ∀ kd : Kind, (kd matches .delay | .count | .room | .width) → ∃ t, KDct K w dR kd.str (.ref t) ∧ ∀ H, SqT K H t [.int (lims kd).1, .int (lims kd).2]
section
variable {P : Program} {w : World} {K : PySem.W.Frag} {mg : Str → Option Value} {base : Heap} {T : List Addr → Hp → Addr → Prop} {dR f1 f2 f3 f4 f5 f6 : Addr} {d1 d2 d3 d4 d5 d6 : FuncData}
abbrev nIsArg : List Str := ["value", "kind", "least", "most"]
theorem scIsArg : FnScope nIsArg ["value", "kind"] (defScope sIsArgument) := ⟨rfl, rfl, rfl, by decide +kernel, rfl, by decide +kernel, by decide +kernel⟩
theorem ok_is_argument {f : Addr} {fd : FuncData} (F : Fun K "is_argument" "is_argument" sIsArgument f fd) (R : RTxt K w mg dR) (A1 : At P w K mg base 2 "is_name" f1 d1 ["value"] (spIs T fun _ => IsName)) (A2 : At P w K mg base 1 "is_letter" f2 d2 ["value"] (spIs T fun _ => IsLet))
    (A3 : At P w K mg base 2 "is_letters" f3 d3 ["value"] (spIs T IsLetters)) (A4 : At P w K mg base 3 "is_places" f4 d4 ["value"] (spIs T IsPlaces)) (A5 : At P w K mg base 4 "is_table" f5 d5 ["value"] (spIs T IsTable)) (A6 : At P w K mg base 2 "is_between" f6 d6 ["value", "least", "most"] (spBetween T)) :
    FnOk P w K mg base CX0 5 f fd ["value", "kind"] (spArg T) := by
  refine F.ok scIsArg (fun vs H Q E h => ?_) (fun cdv A outer s H vs Q E hr h => ?_)
  · obtain ⟨v, kd, B, H0, m, n, rfl, _⟩ := h
    rfl
  · obtain ⟨v, kd, B, H0, m, n, rfl, sb, hm, d, k⟩ := h
    have rm : ∀ {j : Nat}, j ≤ 4 → Room j _ := fun h => hr.mono h
    refine ⟨_, pss_cons (ps_if (pt_cmpR op_eq (pv 1) pe_str (nomark _)) (pss_one (ps_ret (pe_call A1.g (rm (by decide)) rfl A1.m A1.kp A1.b .nil pass0 (pa_cons (pv 0) pa_nil)))) pss_nil)
      (pss_cons (ps_if (pt_cmpR op_eq (pv 1) pe_str (nomark _)) (pss_one (ps_ret (pe_call A2.g (rm (by decide)) rfl A2.m A2.kp A2.b .nil pass0 (pa_cons (pv 0) pa_nil)))) pss_nil)
      (pss_cons (ps_if (pt_cmpR op_eq (pv 1) pe_str (nomark _)) (pss_one (ps_ret (pe_call A3.g (rm (by decide)) rfl A3.m A3.kp A3.b .nil pass0 (pa_cons (pv 0) pa_nil)))) pss_nil)
      (pss_cons (ps_if (pt_cmpR op_eq (pv 1) pe_str (nomark _)) (pss_one (ps_ret (pe_call A4.g (rm (by decide)) rfl A4.m A4.kp A4.b .nil pass0 (pa_cons (pv 0) pa_nil)))) pss_nil)
      (pss_cons (ps_if (pt_cmpR op_eq (pv 1) pe_str (nomark _)) (pss_one (ps_ret (pe_call A5.g (rm (by decide)) rfl A5.m A5.kp A5.b .nil pass0 (pa_cons (pv 0) pa_nil)))) pss_nil)
      (pss_cons (ps_asg (pe_ix ix_kdict (pe_gcon rfl R.g) (pv 1) (fun _ _ => rfl)) (pg_tup rfl (pgs_cons (pg_name (i := 2) scIsArg.nd rfl (Or.inl rfl)) (pgs_cons (pg_name (i := 3) scIsArg.nd rfl (Or.inl rfl)) pgs_nil))))
      (pss_one (ps_ret (pe_call A6.g (rm (by decide)) rfl A6.m A6.kp A6.b .nil pass0 (pa_cons (pv 0) (pa_cons (pv 2) (pa_cons (pv 3) pa_nil))))))))))), ?_⟩
    have ne : ∀ {a b : Str}, (a == b) = false → ¬ decide (V.str a = V.str b) = true := fun h q => by
      have e := of_decide_eq_true q
      injection e with e
      rw [e, beq_self_eq_true] at h
      cases h
    have is : ∀ {Pr : Hp → V → Prop}, (∀ H' b, Same H H' → (b = true ↔ Pr H0 v) → Q (.bl b) H') → ∃ (v1 : V) (B : List Addr) (H0 : Hp) (m n : Nat), [v] = [v1] ∧ Ob B H0 H ∧ m ≤ 1000 ∧ Dat T B H0 m n v1 ∧ ∀ H' b, Same H H' → (b = true ↔ Pr H0 v1) → Q (.bl b) H' :=
      fun q => ⟨v, B, H0, m, n, rfl, sb, hm, d, q⟩
    have no : ∀ {a b : Str} {A' B' : Prop}, (a == b) = false → B' → if decide (V.str a = V.str b) = true then A' else B' := fun h q => by
      rw [if_neg (ne h)]
      exact q
    have num : ∀ kd' : Kind, (kd' matches .delay | .count | .room | .width) → kd = kd' → (Arg H0 kd' v ↔ Btw (lims kd').1 (lims kd').2 v) → True := fun _ _ _ _ => trivial
    cases kd with
    | name => exact ⟨_, rfl, rfl, _, rfl, iteT ⟨_, rfl, is k⟩⟩
    | letter => exact ⟨_, rfl, rfl, _, rfl, no rfl ⟨_, rfl, rfl, _, rfl, iteT ⟨_, rfl, is k⟩⟩⟩
    | letters => exact ⟨_, rfl, rfl, _, rfl, no rfl ⟨_, rfl, rfl, _, rfl, no rfl ⟨_, rfl, rfl, _, rfl, iteT ⟨_, rfl, is k⟩⟩⟩⟩
    | places => exact ⟨_, rfl, rfl, _, rfl, no rfl ⟨_, rfl, rfl, _, rfl, no rfl ⟨_, rfl, rfl, _, rfl, no rfl ⟨_, rfl, rfl, _, rfl, iteT ⟨_, rfl, is k⟩⟩⟩⟩⟩
    | table => exact ⟨_, rfl, rfl, _, rfl, no rfl ⟨_, rfl, rfl, _, rfl, no rfl ⟨_, rfl, rfl, _, rfl, no rfl ⟨_, rfl, rfl, _, rfl, no rfl ⟨_, rfl, rfl, _, rfl, iteT ⟨_, rfl, is k⟩⟩⟩⟩⟩⟩
    | delay =>
      obtain ⟨t, h1, h2⟩ := R.at_ .delay rfl
      exact ⟨_, rfl, rfl, _, rfl, no rfl ⟨_, rfl, rfl, _, rfl, no rfl ⟨_, rfl, rfl, _, rfl, no rfl ⟨_, rfl, rfl, _, rfl, no rfl ⟨_, rfl, rfl, _, rfl, no rfl ⟨_, rfl, dR, _, _, rfl, rfl, h1, t, _, rfl, h2 _, rfl, _, _, rfl, _, _, rfl, rfl, _, rfl, _, rfl, _, rfl, v, _, _, B, H0, m, n, rfl, sb, hm, d, k⟩⟩⟩⟩⟩⟩
    | count =>
      obtain ⟨t, h1, h2⟩ := R.at_ .count rfl
      exact ⟨_, rfl, rfl, _, rfl, no rfl ⟨_, rfl, rfl, _, rfl, no rfl ⟨_, rfl, rfl, _, rfl, no rfl ⟨_, rfl, rfl, _, rfl, no rfl ⟨_, rfl, rfl, _, rfl, no rfl ⟨_, rfl, dR, _, _, rfl, rfl, h1, t, _, rfl, h2 _, rfl, _, _, rfl, _, _, rfl, rfl, _, rfl, _, rfl, _, rfl, v, _, _, B, H0, m, n, rfl, sb, hm, d, k⟩⟩⟩⟩⟩⟩
    | room =>
      obtain ⟨t, h1, h2⟩ := R.at_ .room rfl
      exact ⟨_, rfl, rfl, _, rfl, no rfl ⟨_, rfl, rfl, _, rfl, no rfl ⟨_, rfl, rfl, _, rfl, no rfl ⟨_, rfl, rfl, _, rfl, no rfl ⟨_, rfl, rfl, _, rfl, no rfl ⟨_, rfl, dR, _, _, rfl, rfl, h1, t, _, rfl, h2 _, rfl, _, _, rfl, _, _, rfl, rfl, _, rfl, _, rfl, _, rfl, v, _, _, B, H0, m, n, rfl, sb, hm, d, k⟩⟩⟩⟩⟩⟩
    | width =>
      obtain ⟨t, h1, h2⟩ := R.at_ .width rfl
      exact ⟨_, rfl, rfl, _, rfl, no rfl ⟨_, rfl, rfl, _, rfl, no rfl ⟨_, rfl, rfl, _, rfl, no rfl ⟨_, rfl, rfl, _, rfl, no rfl ⟨_, rfl, rfl, _, rfl, no rfl ⟨_, rfl, dR, _, _, rfl, rfl, h1, t, _, rfl, h2 _, rfl, _, _, rfl, _, _, rfl, rfl, _, rfl, _, rfl, _, rfl, v, _, _, B, H0, m, n, rfl, sb, hm, d, k⟩⟩⟩⟩⟩⟩
end
end Wd

set_option Elab.async false
set_option linter.all false
set_option maxRecDepth 100000
set_option maxHeartbeats 4000000
namespace Wd
open PySem L2
def kindS : Option Kind → Str
  | none => Str.ofString "part"
  | some kd => kd.str
/-- the words of trees, with what stands behind each of them (none: a part) -/
def sig : List (Str × List (Option Kind)) := [("source", [some .name]), ("never", [some .width]), ("one", [some .letter]), ("after", [some .delay, some .letter]), ("every", [some .delay, some .letter]), ("told", [some .width]), ("it", []),
  ("only", [some .letters, none]), ("pick", [some .places, none]), ("fold", [some .table, none]), ("first", [some .count, none]), ("changes", [none]), ("pairs", [none]), ("quiet", [some .delay, none]), ("spaced", [some .delay, none]),
  ("late", [some .delay, some .room, none]), ("again", [none]), ("+", [none, none]), ("&", [none, none]), ("at", [none, none]), ("until", [none, none]), ("then", [none, none]), ("else", [some .delay, none, none]), ("switch", [none, none]), ("busy", [none, none])].map
  fun p => (Str.ofString p.1, p.2)
def HasForm (H : Hp) (v : V) : Prop := ∃ a z ks xs, v = .ref a ∧ H a = some (.tup (.str z :: xs)) ∧ (z, ks) ∈ sig ∧ xs.length = ks.length ∧ ∀ (i : Nat) (kd : Kind) (x : V), ks[i]? = some (some kd) → xs[i]? = some x → Arg H kd x
/-- the written dict ARGUMENTS: its keys, and what is written there -/
structure STxt (K : PySem.W.Frag) (w : World) (mg : Str → Option Value) (dA : Addr) (es : Array DictEntry) (nA : Nat) : Prop where
  g : ∃ u, mg "ARGUMENTS" = some u ∧ RelV (.ref dA) u
  k : KDict K w dA es nA
  mem : ∀ z : Str, ∃ r, PySem.W.nsIn K dA z = some r ∧ (r.isSome = true ↔ ∃ ks, (z, ks) ∈ sig)
  at_ : ∀ p ∈ sig, ∃ t, KDct K w dA p.1 (.ref t) ∧ ∀ H, SqT K H t (p.2.map fun o => V.str (kindS o))
theorem sig_one : ∀ p ∈ sig, ∀ q ∈ sig, p.1 = q.1 → p.2 = q.2 := by decide +kernel
theorem sig_len : ∀ p ∈ sig, p.2.length ≤ 3 := by decide +kernel
section
variable {P : Program} {w : World} {K : PySem.W.Frag} {mg : Str → Option Value} {base : Heap} {T : List Addr → Hp → Addr → Prop} {dA fI fL fA : Addr} {es : Array DictEntry} {nA : Nat} {dfA : FuncData}
abbrev nHasForm : List Str := ["value", "kinds", "k"]
theorem scHasForm : FnScope nHasForm ["value"] (defScope sHasForm) := ⟨rfl, rfl, rfl, by decide +kernel, rfl, by decide +kernel, by decide +kernel⟩
theorem kind_part (kd : Kind) : (kd.str == Str.ofString "part") = false := by cases kd <;> rfl
theorem ok_has_form (O : Own K T) {f : Addr} {fd : FuncData} (F : Fun K "has_form" "has_form" sHasForm f fd) (X : WTxt mg fI fL) (Z : STxt K w mg dA es nA) (A : At P w K mg base 5 "is_argument" fA dfA ["value", "kind"] (spArg T)) :
    FnOk P w K mg base CX0 6 f fd ["value"] (spIs T HasForm) := by
  refine F.ok scHasForm (fun vs H Q E h => ?_) (fun cdv Ar outer s H vs Q E hr h => ?_)
  · obtain ⟨v, B, H0, m, n, rfl, _⟩ := h
    rfl
  · obtain ⟨v, B, H0, m, n, rfl, sb, hm, d, k⟩ := h
    refine ⟨_, pss_cons (ps_if (PW.pt (pw_or (pt_not (pt_val (pe_isi (N := "tuple") (pv 0) X.isin X.tup))) (pw_or1 (pt_cmpR op_eq (pe_callB call_len_seq (by rfl) X.len PySem.boot_len (pa_cons (pv 0) pa_nil)) pe_int (nomark _))))) (pss_one (ps_ret pe_bl)) pss_nil)
      (pss_cons (ps_if (PW.pt (pw_or (pt_not (pt_val (pe_isi (N := "str") (pe_ix ix_tup (pv 0) pe_int (fun _ _ => rfl)) X.isin X.str))) (pw_or1 (pt_cmpR (op_notIn_kd Z.k) (pe_ix ix_tup (pv 0) pe_int (fun _ _ => rfl)) (pe_gcon rfl Z.g) (by rfl))))) (pss_one (ps_ret pe_bl)) pss_nil)
      (pss_cons (ps_set (i := 1) scHasForm.nd rfl (Or.inr rfl) (pe_ix ix_kdict (pe_gcon rfl Z.g) (pe_ix ix_tup (pv 0) pe_int (fun _ _ => rfl)) (fun _ _ => rfl)))
      (pss_cons (ps_if (pt_cmpR op_ne (pe_callB call_len_seq (by rfl) X.len PySem.boot_len (pa_cons (pv 0) pa_nil)) (pe_op op_add pe_int (pe_callB call_len_seq (by rfl) X.len PySem.boot_len (pa_cons (pv 1) pa_nil))) (nomark _)) (pss_one (ps_ret pe_bl)) pss_nil)
      (pss_one (ps_ret (pe_callB (cr_all rfl) (by rfl) X.all (by decide +kernel) (pa_cons (pe_lc (own := [("k", 2)]) (g := gName 2) (tt := tYes) rfl scHasForm.nd
          (pi_range1 rfl X.range (pa_cons (pe_callB call_len_seq (by rfl) X.len PySem.boot_len (pa_cons (pv 1) pa_nil)) pa_nil)) (blkOk_by (N := nHasForm) (sc := defScope sHasForm) (by decide +kernel)) (fun _ _ _ _ _ => pg_name (i := 2) scHasForm.nd rfl (Or.inl rfl)) (fun _ _ _ _ _ => pts_nil)
          (fun _ _ _ _ _ => pe_or (pe_cmpR op_eq (pe_ix (r := rIxT K) ix_tup (pv 1) (pv 2) (fun _ _ => rfl)) pe_str (nomark _))
            (pe_one (pe_call A.g hr rfl A.m A.kp A.b .nil pass0 (pa_cons (pe_ix (r := rIxT K) ix_tup (pv 0) (pe_op op_add (pv 2) pe_int) (fun _ _ => rfl)) (pa_cons (pe_ix (r := rIxT K) ix_tup (pv 1) (pv 2) (fun _ _ => rfl)) pa_nil)))))) pa_nil))))))), ?_⟩
    rcases d.isTup O sb with ⟨a, xs, j, rfl, na, e0, e1, hl, hk, i1⟩ | ⟨no, i1⟩
    · refine ⟨_, rfl, _, i1, _, rfl, iteF ⟨_, rfl, a, xs, rfl, .inr (SqT.of e1), rfl, _, rfl, ?_⟩⟩
      refine ite2 (fun c => ?_) (fun c => ?_)
      · refine k _ _ (Same.refl _) (nay fun ⟨b, z, ks, ys, eb, h, _⟩ => ?_)
        cases eb
        obtain rfl := tup_same e0 h
        have c' := of_decide_eq_true c
        injection c' with c'
        rw [List.length_cons] at c'
        omega
      · obtain ⟨x0, xr, rfl⟩ : ∃ x0 xr, xs = x0 :: xr := by
          cases xs with
          | nil => exact (c rfl).elim
          | cons x0 xr => exact ⟨x0, xr, rfl⟩
        have un : ∀ {pr : Prop}, (∀ z ks, x0 = .str z → (z, ks) ∈ sig → xr.length = ks.length → (∀ (i : Nat) (kd : Kind) (x : V), ks[i]? = some (some kd) → xr[i]? = some x → Arg H0 kd x) → pr) → HasForm H0 (.ref a) → pr := fun {pr} g ⟨b, z, ks, ys, eb, h, q1, q2, q3⟩ => by
          cases eb
          have e := tup_same e0 h
          injection e with ea er
          subst er
          exact g z ks ea q1 q2 q3
        refine ⟨_, rfl, a, _, _, x0, rfl, rfl, SqT.of e1, atI_nat (j := 0) rfl, ?_⟩
        rcases (hk x0 (by simp)).isStr O sb with ⟨z, rfl, hz, i2⟩ | ⟨ns, i2⟩
        · obtain ⟨r, hr1, hr2⟩ := Z.mem z
          refine ⟨_, i2, _, rfl, iteF ⟨_, rfl, a, _, _, _, rfl, rfl, SqT.of e1, atI_nat (j := 0) rfl, z, r, rfl, rfl, hr1, _, rfl, ?_⟩⟩
          cases hs : r.isSome with
          | false =>
            rw [hs] at hr2
            refine iteT (k _ _ (Same.refl _) (nay (un fun z' ks e q _ _ => ?_)))
            injection e with e
            exact Bool.noConfusion (hr2.mpr ⟨ks, e ▸ q⟩)
          | true =>
            obtain ⟨ks, hks⟩ := hr2.mp hs
            obtain ⟨t, ht1, ht2'⟩ := Z.at_ _ hks
            have ht2 : ∀ H, SqT K H t (ks.map fun o => V.str (kindS o)) := ht2'
            clear ht2'
            have l3 : ks.length ≤ 3 := sig_len _ hks
            have lm : (ks.map fun o => V.str (kindS o)).length = ks.length := List.length_map _
            have one : ∀ ks', (z, ks') ∈ sig → ks' = ks := fun ks' h' => sig_one _ h' _ hks rfl
            refine iteF ⟨_, rfl, a, _, _, _, rfl, rfl, SqT.of e1, atI_nat (j := 0) rfl, dA, z, _, rfl, rfl, ht1, ?_⟩
            refine ⟨_, rfl, a, _, rfl, .inr (SqT.of e1), _, rfl, t, _, rfl, .inr (ht2 _), _, _, rfl, rfl, rfl, _, rfl, ?_⟩
            refine ite2 (fun c2 => ?_) (fun c2 => ?_)
            · refine k _ _ (Same.refl _) (nay (un fun z' ks' e q1 q2 _ => ?_))
              injection e with e
              subst e
              obtain rfl := one ks' q1
              have : decide (V.int (((V.str z :: xr).length : Nat) : Int) = V.int (1 + (((ks'.map fun o => V.str (kindS o)).length : Nat) : Int))) = true := decide_eq_true (by rw [List.length_cons, lm, q2]; congr 1; omega)
              rw [this] at c2
              exact Bool.noConfusion c2
            · have lx : xr.length = ks.length := by
                have c3 : V.int (((V.str z :: xr).length : Nat) : Int) = V.int (1 + (((ks.map fun o => V.str (kindS o)).length : Nat) : Int)) := by
                  have := c2
                  simp only [Bool.not_eq_true', decide_eq_false_iff_not, Decidable.not_not] at this
                  exact this
                injection c3 with c3
                rw [List.length_cons, lm] at c3
                omega
              refine ⟨_, rfl, t, _, rfl, .inr (ht2 _), _, rfl, by omega, by omega, fun D hD => ?_⟩
              have en : (((ks.map fun o => V.str (kindS o)).length : Nat) : Int).toNat = ks.length := by omega
              refine lc_bools (walk_range (n := (((ks.map fun o => V.str (kindS o)).length : Nat) : Int).toNat)) (fun i => ∀ kd x, ks[i]? = some (some kd) → xr[i]? = some x → Arg H0 kd x) hD (by omega) (fun _ _ => trivial) ?_ ?_
              · rintro i x H1 H' kk hi s1 ⟨rfl, rfl⟩ h
                have hi1 : i < ks.length := by omega
                have hi2 : i < xr.length := by omega
                have gk : (ks.map fun o => V.str (kindS o))[i]? = some (.str (kindS ks[i])) := by rw [List.getElem?_map, List.getElem?_eq_getElem hi1]; rfl
                have nk : atI (ks.map fun o => V.str (kindS o)) (0 + (i : Int)) = some (.str (kindS ks[i])) := at_nn (by omega) (by rw [show (0 + (i : Int)).toNat = i by omega]; exact gk)
                have nx : atI (V.str z :: xr) (0 + (i : Int) + 1) = some xr[i] := at_nn (by omega) (by rw [show (0 + (i : Int) + 1).toNat = i + 1 by omega]; simp [hi2])
                refine ⟨rfl, _, rfl, _, rfl, t, _, _, _, rfl, rfl, ht2 _, nk, rfl, _, rfl, ?_⟩
                cases ho : ks[i] with
                | none =>
                  refine iteT (h _ _ (Same.refl _) (yea fun kd x h1 _ => ?_))
                  rw [List.getElem?_eq_getElem hi1, ho] at h1
                  cases h1
                | some kd =>
                  have np : decide (V.str (kindS (some kd)) = V.str (Str.ofString "part")) = false := decide_eq_false fun q => by
                    injection q with q
                    have := kind_part kd
                    rw [show kd.str = Str.ofString "part" from q, beq_self_eq_true] at this
                    cases this
                  rw [np]
                  rw [ho] at nk
                  refine iteF ⟨_, rfl, _, rfl, _, _, rfl, rfl, a, _, _, _, rfl, rfl, SqT.of (s1 _ _ e1), nx, _, rfl, _, rfl, t, _, _, _, rfl, rfl, ht2 _, nk, xr[i], kd, B, H0, m, j, rfl, sb.same s1, hm, hk _ (List.mem_cons_of_mem _ (List.getElem_mem hi2)), fun H4 b s4 hb => h b H4 s4 (hb.trans ⟨fun q kd' x' h1 h2 => ?_, fun q => q kd _ (by rw [List.getElem?_eq_getElem hi1, ho]) (List.getElem?_eq_getElem hi2)⟩)⟩
                  rw [List.getElem?_eq_getElem hi1, ho] at h1
                  rw [List.getElem?_eq_getElem hi2] at h2
                  cases h1
                  cases h2
                  exact q
              · rintro H1 bs s1 hD1 hb
                refine ⟨D, bs, rfl, SqL.of hD1, k _ _ s1 (hb.trans ⟨fun q => ⟨a, z, ks, xr, rfl, e0, hks, lx, fun i kd x h1 h2 => ?_⟩, un fun z' ks' e q1 q2 q3 i hi kd x h1 h2 => ?_⟩)⟩
                · have hi : i < ks.length := by
                    rcases Nat.lt_or_ge i ks.length with h | h
                    · exact h
                    · rw [List.getElem?_eq_none h] at h1
                      cases h1
                  exact q i (by omega) kd x h1 h2
                · injection e with e
                  subst e
                  obtain rfl := one ks' q1
                  exact q3 i kd x h1 h2
        · refine ⟨_, i2, _, rfl, iteT (k _ _ (Same.refl _) (nay (un fun z ks e _ _ _ => ns _ e)))⟩
    · exact ⟨_, rfl, _, i1, _, rfl, iteT (k _ _ (Same.refl _) (nay fun ⟨b, z, ks, ys, eb, h, _⟩ => no _ _ eb h))⟩
end
end Wd

set_option Elab.async false
set_option linter.all false
set_option maxRecDepth 100000
set_option maxHeartbeats 4000000
namespace Wd
open PySem L2
/-- the parts among what stands behind a word -/
def partsL : List (Option Kind) → List V → List V
  | none :: ks, x :: xs => x :: partsL ks xs
  | some _ :: ks, _ :: xs => partsL ks xs
  | _, _ => []
theorem parts_snoc : ∀ (ks : List (Option Kind)) (xs : List V) (o : Option Kind) (x : V), ks.length = xs.length → partsL (ks ++ [o]) (xs ++ [x]) = partsL ks xs ++ (match o with | none => [x] | some _ => [])
  | [], [], none, _, _ => rfl
  | [], [], some _, _, _ => rfl
  | [], _ :: _, _, _, h => nomatch h
  | _ :: _, [], _, _, h => nomatch h
  | none :: ks, y :: xs, o, x, h => by
    show y :: partsL (ks ++ [o]) (xs ++ [x]) = (y :: partsL ks xs) ++ _
    rw [parts_snoc ks xs o x (Nat.succ.inj h)]
    rfl
  | some _ :: ks, y :: xs, o, x, h => by
    show partsL (ks ++ [o]) (xs ++ [x]) = partsL ks xs ++ _
    exact parts_snoc ks xs o x (Nat.succ.inj h)
theorem parts_len : ∀ (ks : List (Option Kind)) (xs : List V), (partsL ks xs).length ≤ ks.length
  | [], _ => Nat.le_refl _
  | none :: _, [] => Nat.zero_le _
  | some _ :: _, [] => Nat.zero_le _
  | none :: ks, _ :: xs => Nat.succ_le_succ (parts_len ks xs)
  | some _ :: ks, _ :: xs => Nat.le_succ_of_le (parts_len ks xs)
def spParts : Sp := fun vs H Q _ => ∃ (a : Addr) (z : Str) (ks : List (Option Kind)) (xs : List V), vs = [.ref a] ∧ H a = some (.tup (.str z :: xs)) ∧ (z, ks) ∈ sig ∧ xs.length = ks.length ∧
  ∀ H' t, Same H H' → H t = none → H' t = some (.tup (partsL ks xs)) → Q (.ref t) H'
section
variable {P : Program} {w : World} {K : PySem.W.Frag} {mg : Str → Option Value} {base : Heap} {dA fI fL : Addr} {es : Array DictEntry} {nA : Nat}
abbrev nPartsOf : List Str := ["tree", "kinds", "k"]
theorem scPartsOf : FnScope nPartsOf ["tree"] (defScope sPartsOf) := ⟨rfl, rfl, rfl, by decide +kernel, rfl, by decide +kernel, by decide +kernel⟩
theorem ok_parts_of {f : Addr} {fd : FuncData} (F : Fun K "parts_of" "parts_of" sPartsOf f fd) (X : WTxt mg fI fL) (Z : STxt K w mg dA es nA) : FnOk P w K mg base CX0 1 f fd ["tree"] spParts := by
  refine F.ok scPartsOf (fun vs H Q E h => ?_) (fun cdv A outer s H vs Q E hr h => ?_)
  · obtain ⟨a, z, ks, xs, rfl, _⟩ := h
    rfl
  · obtain ⟨a, z, ks, xs, rfl, e1, hks, lx, k⟩ := h
    refine ⟨_, pss_cons (ps_set (i := 1) scPartsOf.nd rfl (Or.inr rfl) (pe_ix ix_kdict (pe_gcon rfl Z.g) (pe_ix ix_tup (pv 0) pe_int (fun _ _ => rfl)) (fun _ _ => rfl)))
      (pss_one (ps_ret (pe_callTy call_tuple_of (by rfl) X.tup (by decide +kernel) (pa_cons (pe_lc (own := [("k", 2)]) (g := gName 2) rfl scPartsOf.nd
          (pi_range1 rfl X.range (pa_cons (pe_callB call_len_seq (by rfl) X.len PySem.boot_len (pa_cons (pv 1) pa_nil)) pa_nil)) (blkOk_by (N := nPartsOf) (sc := defScope sPartsOf) (by decide +kernel)) (fun _ _ _ _ _ => pg_name (i := 2) scPartsOf.nd rfl (Or.inl rfl))
          (fun _ _ _ _ _ => pts_one (pt_cmpR op_eq (pe_ix (r := rIxT K) ix_tup (pv 1) (pv 2) (fun _ _ => rfl)) pe_str (nomark _))) (fun _ _ _ _ _ => pe_ix (r := rIxT K) ix_tup (pv 0) (pe_op op_add (pv 2) pe_int) (fun _ _ => rfl))) pa_nil)))), ?_⟩
    obtain ⟨t, ht1, ht2'⟩ := Z.at_ _ hks
    have ht2 : ∀ H, SqT K H t (ks.map fun o => V.str (kindS o)) := ht2'
    clear ht2'
    have l3 : ks.length ≤ 3 := sig_len _ hks
    have lm : (ks.map fun o => V.str (kindS o)).length = ks.length := List.length_map _
    refine ⟨_, rfl, a, _, _, _, rfl, rfl, SqT.of e1, atI_nat (j := 0) rfl, dA, z, _, rfl, rfl, ht1, ?_⟩
    refine ⟨_, rfl, t, _, rfl, .inr (ht2 _), _, rfl, by omega, by omega, fun D hD => ?_⟩
    have en : (((ks.map fun o => V.str (kindS o)).length : Nat) : Int).toNat = ks.length := by omega
    refine lc_range (lo := 0) (n := (((ks.map fun o => V.str (kindS o)).length : Nat) : Int).toNat) (fun i H' => Same H H' ∧ H' D = some (.lst (partsL (ks.take i) (xs.take i)))) ⟨fun b o e => by rw [upd_ne (ne_of_none e hD)]; exact e, upd_same⟩ ?_ ?_
    · rintro i H1 hi ⟨s1, hD1⟩
      have hi1 : i < ks.length := by omega
      have hi2 : i < xs.length := by omega
      have gk : (ks.map fun o => V.str (kindS o))[i]? = some (.str (kindS ks[i])) := by rw [List.getElem?_map, List.getElem?_eq_getElem hi1]; rfl
      have nk : atI (ks.map fun o => V.str (kindS o)) (0 + (i : Int)) = some (.str (kindS ks[i])) := at_nn (by omega) (by rw [show (0 + (i : Int)).toNat = i by omega]; exact gk)
      have nx : atI (V.str z :: xs) (0 + (i : Int) + 1) = some xs[i] := at_nn (by omega) (by rw [show (0 + (i : Int) + 1).toNat = i + 1 by omega]; simp [hi2])
      have tk : ks.take (i + 1) = ks.take i ++ [ks[i]] := by rw [List.take_add_one, List.getElem?_eq_getElem hi1]; rfl
      have tx : xs.take (i + 1) = xs.take i ++ [xs[i]] := by rw [List.take_add_one, List.getElem?_eq_getElem hi2]; rfl
      have st := parts_snoc (ks.take i) (xs.take i) ks[i] xs[i] (by rw [List.length_take, List.length_take]; omega)
      refine ⟨rfl, _, rfl, _, rfl, t, _, _, _, rfl, rfl, ht2 _, nk, rfl, _, rfl, ?_⟩
      cases ho : ks[i] with
      | none =>
        rw [ho] at st
        have lp := parts_len (ks.take i) (xs.take i)
        refine iteT ⟨_, rfl, _, rfl, _, _, rfl, rfl, a, _, _, _, rfl, rfl, SqT.of (s1 _ _ e1), nx, _, hD1, small1000 (by rw [List.length_take] at lp; omega), fun b o e => ?_, ?_⟩
        · rw [upd_ne (ne_of_none e hD)]
          exact s1 _ _ e
        · rw [upd_same, tk, tx, ho, st]
      | some kd =>
        rw [ho] at st
        have np : decide (V.str (kindS (some kd)) = V.str (Str.ofString "part")) = false := decide_eq_false fun q => by
          injection q with q
          have := kind_part kd
          rw [show kd.str = Str.ofString "part" from q, beq_self_eq_true] at this
          cases this
        rw [np]
        refine iteF ⟨s1, ?_⟩
        rw [tk, tx, ho, st, List.append_nil]
        exact hD1
    · rintro H1 ⟨s1, hD1⟩
      have whole : partsL (ks.take (((ks.map fun o => V.str (kindS o)).length : Nat) : Int).toNat) (xs.take (((ks.map fun o => V.str (kindS o)).length : Nat) : Int).toNat) = partsL ks xs := by
        rw [en, List.take_of_length_le (Nat.le_refl _), List.take_of_length_le (by omega)]
      rw [whole] at hD1
      refine ⟨D, _, rfl, .inl ⟨SqL.of hD1, fun p hp => k _ p (fun b o e => ?_) (s1.free hp) upd_same⟩⟩
      rw [upd_ne (ne_of_none (s1 _ _ e) hp)]
      exact s1 _ _ e
end
end Wd

set_option Elab.async false
set_option linter.all false
set_option maxRecDepth 100000
set_option maxHeartbeats 4000000
namespace Wd
open PySem PySem.Spec L2 CwR
/-- name = [word for word in .. if word != c]: the new list, and the name that holds it, at once -/
theorem inv_new {X : Cx} {pins : List (Addr × Obj)} {σ : St} {H : Hp} {s : Shared} {i : Nat} {y : Str} {D : Addr} {xs : List V} {h' : Heap} {tk : Nat} {m : Str → Option Value}
    (I : Inv X pins σ H s) (hN : X.N.Nodup) (hi : X.N[i]? = some y) (hk : X.env.kindOf y = some .local) (hD : s.heap.get? D = none) (ns0 : s.heap.Ns X.env.locals m)
    (vis : ∀ (j : Nat) (x : Str) (v : V), X.N[j]? = some x → σ[j]? = some (some v) → Vis X.env.scope x → ∃ u, RelV v u ∧ Look X.env s.heap m x u)
    (ns : h'.Ns X.env.locals fun z => if z = y then some (.ref D) else m z)
    (kp : ∀ b o, b ≠ X.env.locals → s.heap.get? b = some o → h'.get? b = some o) (new : ObjOk X.prog X.w (upd H D (.lst xs)) h' D (.lst xs)) :
    Inv X pins (σ.set i (some (.ref D))) (upd H D (.lst xs)) { s with heap := h', toks := tk } := by
  have hn : H D = none := I.hok.gone hD
  have isnt : ∀ {b : Addr} {o : Obj}, s.heap.get? b = some o → b ≠ D := fun e z => by
    rw [z, hD] at e
    cases e
  obtain ⟨oL, _, _, eL, _⟩ := id ns0
  have hiσ : i < σ.length := by
    rw [I.len]
    exact (List.getElem?_eq_some_iff.mp hi).1
  have lowL : ∀ {b : Addr} {o : Obj}, X.s_0.heap.get? b = some o → b ≠ X.env.locals := fun e => Nat.ne_of_lt (Nat.lt_of_lt_of_le (Heap.lt_size e) I.ok.above)
  have un : Un X.fs X.ex X.H_0 (upd H D (.lst xs)) X.s_0.heap h' :=
    { keep := fun b o e n hb hx => kp b o (lowL e) (I.base.keep b o e n hb hx)
      slot := fun b o e n hb hx => by
        obtain ⟨sl, e1⟩ := I.base.slot b o e n hb hx
        exact ⟨sl, kp b _ (lowL e) e1⟩
      free := fun b o e n hx => by
        obtain ⟨o1, e1⟩ := I.base.there b o e hx
        rw [upd_ne (isnt e1)]
        exact I.base.free b o e n hx
      there := fun b o e hx => by
        obtain ⟨o1, e1⟩ := I.base.there b o e hx
        exact ⟨o1, kp b o1 (lowL e) e1⟩
      tups := fun b ys e => by
        have q := I.base.tups b ys e
        rw [upd_ne (ne_of_none q hn)]
        exact q
      frzs := fun b o u e => by
        have q := I.base.frzs b o u e
        rw [upd_ne (ne_of_none q hn)]
        exact q
      tbls := fun b ps e => by
        obtain ⟨more, q⟩ := I.base.tbls b ps e
        exact ⟨more, by rw [upd_ne (ne_of_none q hn)]; exact q⟩ }
  refine { ok := I.ok, os := I.os, bare := I.bare, base := un, loc := ⟨_, ns, fun j x v e1 e2 e3 => ?_⟩, cell := fun x c e => ?_, free := ?_, freeC := fun x c e => ?_, pin := fun p hp => ?_, hok := fun b o e => ?_, len := by rw [List.length_set]; exact I.len }
  · by_cases hj : j = i
    · subst hj
      rw [hi] at e1
      cases e1
      rw [List.getElem?_set_self hiσ] at e2
      cases e2
      exact ⟨.ref D, rfl, .inl ⟨hk, by simp⟩⟩
    · rw [List.getElem?_set_ne (Ne.symm hj)] at e2
      obtain ⟨u, r, q⟩ := vis j x v e1 e2 e3
      refine ⟨u, r, ?_⟩
      rcases q with ⟨k, e⟩ | ⟨k, c, e, o, z1, z2⟩
      · refine .inl ⟨k, ?_⟩
        have : x ≠ y := fun z => hj (nodup_ix hN e1 (z ▸ hi))
        simp [this, e]
      · exact .inr ⟨k, c, e, o, kp c o (I.cne x c e) z1, z2⟩
  · obtain ⟨v, o, z1, z2⟩ := I.cell x c e
    exact ⟨v, o, kp c o (I.cne x c e) z1, z2⟩
  · rw [upd_ne (isnt eL)]
    exact I.free
  · obtain ⟨v, o, z1, z2⟩ := I.cell x c e
    rw [upd_ne (isnt z1)]
    exact I.freeC x c e
  · obtain ⟨e, n, ne, nf, d⟩ := I.pin p hp
    exact ⟨kp _ _ ne e, by rw [upd_ne (isnt e)]; exact n, ne, nf, d⟩
  · by_cases hb : b = D
    · subst hb
      rw [upd_same] at e
      cases e
      exact new
    · rw [upd_ne hb] at e
      refine (I.hok b o e).stay (fun c u hc q => kp c u ?_ q) (fun c q => by rw [upd_ne (ne_of_none q hn)]; exact q) fun c ys q => by rw [upd_ne (ne_of_none q hn)]; exact q
      rintro rfl
      rcases hc with rfl | hc
      · rw [I.free] at e
        cases e
      · rw [I.free] at hc
        cases hc
def pNe (c : Str) : Value → Bool := fun v => match v with
  | .str z _ => z != c
  | _ => true
theorem vals_filter {c : Str} : ∀ {zs : List Str} {us ws : List Value}, Vals (zs.map V.str) us → Paired (fun v y => v = y) (us.filter (pNe c)) ws → Vals ((zs.filter (· != c)).map V.str) ws
  | [], _, _, .nil, .nil => .nil
  | z :: zs, _, ws, .cons r rs, h => by
    obtain ⟨t, rfl⟩ := r
    cases hz : (z != c) with
    | true =>
      rw [List.filter_cons_of_pos (show pNe c (.str z t) = true from hz)] at h
      rw [List.filter_cons_of_pos (p := fun x => x != c) hz]
      cases h with
      | cons e hs => exact .cons (e ▸ ⟨t, rfl⟩) (vals_filter rs hs)
    | false =>
      rw [List.filter_cons_of_neg (show ¬ pNe c (.str z t) = true from fun q => by rw [show pNe c (.str z t) = false from hz] at q; cases q)] at h
      rw [List.filter_cons_of_neg (p := fun x => x != c) (by rw [hz]; exact Bool.false_ne_true)]
      exact vals_filter rs h
def tAsgNe (ti : TE) (i : Nat) (c : Str) : TS := fun D σ H => ti σ H fun v H1 => ∃ (a : Addr) (zs : List Str), v = .ref a ∧ H1 a = some (.lst (zs.map V.str)) ∧ ∀ d, H1 d = none → D.nx (σ.set i (some (.ref d))) (upd H1 d (.lst ((zs.filter (· != c)).map V.str)))
theorem pst_asgNe {X : Cx} {i : Nat} {x y c : Str} {px py pe pc cp p2 pos spos : Pos} {j : Nat} {iter : Expr} {scope : Scope} {ti : TE} (hc : X.calm = true) (hN : X.N.Nodup) (hi : X.N[i]? = some y) (hyl : X.env.scope.names.lookup y = some .local)
    (hsw : swapsWith (.ListComp (.Name x pe) [⟨.Name x px, iter, [.Compare (.Name x pc) [.NotEq] [.Constant (.str c) j cp] p2], 0⟩] scope pos) (some (.Name y py)) spos.line X.env = pure true) (hit : PET X iter ti)
    (kind : scope.kind = .function) (uniq : ∀ z ∈ scope.names, scope.names.lookup z.1 = some z.2) (fr : ∀ z ∈ scope.names, z.2 ≠ .free) (ce : ∀ z ∈ scope.names, z.2 ≠ .cell) (hx : scope.names.lookup x = some .local)
    (hs : ∀ z, foldedSetIterable iter X.env z = pure z := by intro _; rfl) (hd : (x == ("__debug__" : Str)) = false := by decide) :
    PST X (.Assign [.Name y py] (.ListComp (.Name x pe) [⟨.Name x px, iter, [.Compare (.Name x pc) [.NotEq] [.Constant (.str c) j cp] p2], 0⟩] scope pos) spos) (tAsgNe ti i c) := by
  intro pins s σ H D h0 I h
  have hh := I.ok.hd hc
  have hkk : (X.env.scope.kind == .class || (X.env.scope.kind == .module && X.env.locals != X.env.globals)) = false := by rw [I.ok.kind]; rfl
  refine wpAny_Assign_ListComp_free (pNe c) (fun v u => v = u) hsw (closureFor_none fr) ce kind (fun z hz e => by rw [uniq z hz, e]) hx hyl hkk
    (thn (hit pins s σ H _ h0 I h) fun v s1 ⟨vv, H1, I1, r1, a, zs, ev, ha, q⟩ => ?_) hs
  subst ev
  cases r1
  obtain ⟨zl, its, n, rv, ea⟩ := I1.hok a _ ha
  have hl : s1.heap.IsList a its.toArray := ⟨_, ea, rfl, n, rfl⟩
  refine wpAny_pyIter_list hl ?_
  have hlt : a < s1.heap.objs.size := Heap.lt_size ea
  obtain ⟨m, ns0, vis⟩ := id I1.loc
  have up : ∀ b o, s1.heap.get? b = some o → (s1.heap.push { cls := .type "list_iterator", data := .fields #[.ref a, .int 0 0] }).get? b = some o := fun b o e => Heap.get?_push_of_some _ e
  have aStr : ∀ (k : Nat) (v : Value), its.toArray[k]? = some v → ∃ z t, v = .str z t := fun k v hv => by
    have hv : its[k]? = some v := by simpa using hv
    have hk : k < its.length := (List.getElem?_eq_some_iff.mp hv).1
    have hk2 : k < (zs.map V.str).length := by rw [rv.length]; exact hk
    obtain ⟨u, e1, r⟩ := rv.get (List.getElem?_eq_getElem hk2)
    rw [hv] at e1
    cases e1
    rw [List.getElem_map] at r
    obtain ⟨t, e⟩ := r
    exact ⟨_, t, e⟩
  obtain ⟨oL, _, _, eL, _⟩ := id ns0
  have nloc : X.env.locals ∉ [s1.heap.objs.size] := fun z => by
    rw [List.mem_singleton] at z
    have := Heap.lt_size eL
    rw [z] at this
    exact absurd this (Nat.lt_irrefl _)
  refine ⟨s1.heap.objs.size, _, _, _, _, _, m, rfl, Walks.list hh s1.heap.objs.size a (Nat.ne_of_lt hlt) its.toArray, by rw [List.size_toArray, ← rv.length]; exact zl, ⟨⟨_, Heap.get?_push_size _ rfl, rfl, rfl⟩, hl.push _⟩, fun b hb => ?_, nloc, ?_, ⟨?_, ?_⟩, ?_⟩
  · show b < (s1.heap.push _).objs.size
    rw [Heap.size_push]
    rcases List.mem_cons.mp hb with rfl | hb
    · exact Nat.lt_succ_self _
    · rw [List.mem_singleton.mp hb]
      exact Nat.lt_succ_of_lt hlt
  · exact ns0.keeps up
  · intro C k v s3 m3 E' _ hv hn3 hm3 _ _
    obtain ⟨z, t, rfl⟩ := aStr k v hv
    refine wpAny_tests_one (wpAny_isTrue_Compare1 (wpAny_Name (wpAny_loadName_local kind (lookup_relabel_local hx) hn3 hm3 (Calls.Constant_str (PyProof.Rows.ne_str (wpAny_truthy_bool ⟨?_, _, _, rfl, fun _ _ e => e⟩)))) hd))
    rfl
  · intro C k v s3 m3 E' _ hv _ hn3 hm3 _ _
    exact wpAny_Name (wpAny_loadName_local kind (lookup_relabel_local hx) hn3 hm3 ⟨rfl, _, _, rfl, fun _ _ e => e⟩) hd
  · intro D1 h1 tk ys vs hD _ hpl hlen hP hF hns hkeep
    have hD1 : s1.heap.get? D1 = none := by
      cases e : s1.heap.get? D1 with
      | none => rfl
      | some o => rw [up _ _ e] at hD; cases hD
    have evs : vs = its := List.ext_getElem? fun k => by
      by_cases hk : k < vs.length
      · have := hP k vs[k] (List.getElem?_eq_getElem hk)
        rw [List.getElem?_eq_getElem hk]
        simpa using this.symm
      · rw [List.getElem?_eq_none (by omega), List.getElem?_eq_none (by rw [List.size_toArray] at hlen; omega)]
    rw [evs] at hF
    have vf := vals_filter rv hF
    obtain ⟨n1, e1⟩ := hpl
    have lz : (zs.filter (· != c)).length ≤ zs.length := List.length_filter_le _ _
    rw [List.length_map] at zl
    refine ⟨_, _, inv_new (s := s1) (xs := (zs.filter (· != c)).map V.str) I1 hN hi hyl hD1 ns0 vis hns (fun b o hb e => hkeep b o hb ?_ (up b o e)) ⟨by rw [List.length_map]; omega, ys.toList, n1, vf, ?_⟩, q D1 (I1.hok.gone hD1)⟩
    · intro z
      rw [List.mem_singleton] at z
      have := Heap.lt_size e
      rw [z] at this
      exact absurd this (Nat.lt_irrefl _)
    · rw [Array.toArray_toList]
      exact e1
end Wd

set_option Elab.async false
set_option linter.all false
set_option maxRecDepth 100000
set_option maxHeartbeats 4000000
namespace Wd
open PySem TL
/-! ### the words of a text -/
/-- a text with blanks around its parentheses -/
def wide : List Nat → List Nat
  | [] => []
  | c :: r => (if c = 40 then [32, 40, 32] else if c = 41 then [32, 41, 32] else [c]) ++ wide r
theorem wide_app : ∀ (a b : List Nat), wide (a ++ b) = wide a ++ wide b
  | [], b => rfl
  | c :: r, b => by
    show _ ++ wide (r ++ b) = (_ ++ wide r) ++ wide b
    rw [wide_app r b, List.append_assoc]
theorem wide_len : ∀ a : List Nat, (wide a).length ≤ 3 * a.length
  | [] => Nat.le_refl _
  | c :: r => by
    have h := wide_len r
    show (_ ++ wide r).length ≤ 3 * (r.length + 1)
    rw [List.length_append]
    split
    · show 3 + _ ≤ _
      omega
    · split
      · show 3 + _ ≤ _
        omega
      · show 1 + _ ≤ _
        omega
theorem repl_one (c : Nat) (z : List Nat) : ∀ l : List Nat, StrLaws.replL [c] z l = l.flatMap fun x => if x = c then z else [x]
  | [] => StrLaws.replL_nil
  | d :: r => by
    rw [List.flatMap_cons, ← repl_one c z r]
    by_cases h : d = c
    · subst h
      rw [StrLaws.replL_hit (by simp) (by simp), if_pos rfl]
      rfl
    · rw [StrLaws.replL_miss (by simpa using h), if_neg h]
      rfl
theorem wide_two : ∀ l : List Nat, StrLaws.replL [41] [32, 41, 32] (StrLaws.replL [40] [32, 40, 32] l) = wide l
  | [] => by
    rw [StrLaws.replL_nil, StrLaws.replL_nil]
    rfl
  | c :: r => by
    have ih := wide_two r
    rw [repl_one, repl_one] at ih ⊢
    rw [List.flatMap_cons, List.flatMap_append, ih]
    show _ = _ ++ wide r
    by_cases h : c = 40
    · subst h
      rfl
    · rw [if_neg h, if_neg h]
      by_cases h1 : c = 41
      · subst h1
        rfl
      · rw [if_neg h1]
        show ([c].flatMap fun x => if x = 41 then [32, 41, 32] else [x]) ++ _ = _
        rw [List.flatMap_cons, if_neg h1]
        rfl
/-- the words between blanks, those that are not empty -/
def wordsL (l : List Nat) : List (List Nat) := (spl [32] 0 [] l).filter (· != [])
theorem spl_join_app {P R : List (List Nat)} (h1 : P ≠ []) (h2 : R ≠ []) : joinL [32] P ++ 32 :: joinL [32] R = joinL [32] (P ++ R) := by
  induction P with
  | nil => exact absurd rfl h1
  | cons p P ih =>
    cases P with
    | nil =>
      cases R with
      | nil => exact absurd rfl h2
      | cons r R => rfl
    | cons q P =>
      show (p ++ ([32] ++ joinL [32] (q :: P))) ++ _ = p ++ ([32] ++ joinL [32] ((q :: P) ++ R))
      rw [← ih (by simp)]
      simp
/-- every list is its parts, joined -/
theorem parts_of_list : ∀ l : List Nat, ∃ P : List (List Nat), P ≠ [] ∧ (∀ p ∈ P, 32 ∉ p) ∧ l = joinL [32] P
  | [] => ⟨[[]], by simp, by simp, rfl⟩
  | c :: r => by
    obtain ⟨P, h1, h2, h3⟩ := parts_of_list r
    by_cases h : c = 32
    · refine ⟨[] :: P, by simp, fun p hp => ?_, ?_⟩
      · rcases List.mem_cons.mp hp with rfl | hp
        · simp
        · exact h2 p hp
      · rw [h, h3]
        exact spl_join_app (P := [[]]) (by simp) h1
    · cases P with
      | nil => exact absurd rfl h1
      | cons p P =>
        refine ⟨(c :: p) :: P, by simp, fun q hq => ?_, ?_⟩
        · rcases List.mem_cons.mp hq with rfl | hq
          · have := h2 p (by simp)
            simp [Ne.symm h, this]
          · exact h2 q (by simp [hq])
        · rw [h3]
          cases P with
          | nil => rfl
          | cons q P => rfl
theorem wordsL_join {P : List (List Nat)} (h1 : P ≠ []) (h2 : ∀ p ∈ P, 32 ∉ p) : wordsL (joinL [32] P) = P.filter (· != []) := by
  unfold wordsL
  rw [spl_join h1 h2]
theorem wordsL_app (a b : List Nat) : wordsL (a ++ 32 :: b) = wordsL a ++ wordsL b := by
  obtain ⟨P, p1, p2, p3⟩ := parts_of_list a
  obtain ⟨R, r1, r2, r3⟩ := parts_of_list b
  rw [p3, r3, spl_join_app p1 r1, wordsL_join p1 p2, wordsL_join r1 r2, wordsL_join (by simp [p1]) (fun p hp => (List.mem_append.mp hp).elim (p2 p) (r2 p)), List.filter_append]
theorem wordsL_nil : wordsL [] = [] := rfl
theorem wordsL_one {w : List Nat} (h : w ≠ []) (hw : 32 ∉ w) : wordsL w = [w] := by
  have e := wordsL_join (P := [w]) (by simp) (by simpa using hw)
  rw [show joinL [32] [w] = w from rfl] at e
  rw [e, List.filter_cons_of_pos (by simpa using h)]
  rfl
/-! ### words and their text -/
/-- the text of words; the truth says whether a blank is due -/
def jw : Bool → List (List Nat) → List Nat
  | _, [] => []
  | b, w :: ws => (if b = true ∧ w ≠ [41] then [32] else []) ++ (w ++ jw (decide (w ≠ [40])) ws)
/-- a word that is no parenthesis and without any, and without blanks -/
def Plain (w : List Nat) : Prop := w ≠ [] ∧ 32 ∉ w ∧ 40 ∉ w ∧ 41 ∉ w
def Tok8 (w : List Nat) : Prop := w = [40] ∨ w = [41] ∨ Plain w
theorem wide_plain : ∀ {w : List Nat}, 40 ∉ w → 41 ∉ w → wide w = w
  | [], _, _ => rfl
  | c :: r, h1, h2 => by
    have a : c ≠ 40 := fun e => h1 (by simp [e])
    have b : c ≠ 41 := fun e => h2 (by simp [e])
    show (if c = 40 then [32, 40, 32] else if c = 41 then [32, 41, 32] else [c]) ++ wide r = _
    rw [if_neg a, if_neg b, wide_plain (fun e => h1 (by simp [e])) (fun e => h2 (by simp [e]))]
    rfl
/-- behind a word there is nothing, or a blank -/
theorem wide_next : ∀ ws : List (List Nat), (∀ w ∈ ws, Tok8 w) → wide (jw true ws) = [] ∨ ∃ r, wide (jw true ws) = 32 :: r
  | [], _ => .inl rfl
  | w :: ws, h => by
    right
    show ∃ r, wide ((if true = true ∧ w ≠ [41] then [32] else []) ++ (w ++ jw (decide (w ≠ [40])) ws)) = 32 :: r
    by_cases e : w = [41]
    · rw [if_neg (fun q => q.2 e), e]
      exact ⟨_, rfl⟩
    · rw [if_pos ⟨rfl, e⟩]
      exact ⟨_, rfl⟩
theorem words_sep (b : Bool) (w : List Nat) (x : List Nat) : wordsL (wide ((if b = true ∧ w ≠ [41] then [32] else []) ++ x)) = wordsL (wide x) := by
  split
  · show wordsL ([] ++ 32 :: wide x) = _
    rw [wordsL_app]
    rfl
  · rfl
/-- THE READ-BACK: the words of the text of words -/
theorem words_back : ∀ (ws : List (List Nat)) (b : Bool), (∀ w ∈ ws, Tok8 w) → wordsL (wide (jw b ws)) = ws
  | [], _, _ => rfl
  | w :: ws, b, h => by
    have hw := h w (by simp)
    have hs : ∀ v ∈ ws, Tok8 v := fun v hv => h v (by simp [hv])
    show wordsL (wide (_ ++ (w ++ jw (decide (w ≠ [40])) ws))) = _
    rw [words_sep]
    have ih := words_back ws (decide (w ≠ [40])) hs
    rcases hw with e | e | ⟨h1, h2, h3, h4⟩
    · subst e
      show wordsL ([] ++ 32 :: ([40] ++ 32 :: wide (jw (decide (([40] : List Nat) ≠ [40])) ws))) = _
      rw [wordsL_app, wordsL_app, ih]
      rfl
    · subst e
      show wordsL ([] ++ 32 :: ([41] ++ 32 :: wide (jw (decide (([41] : List Nat) ≠ [40])) ws))) = _
      rw [wordsL_app, wordsL_app, ih]
      rfl
    · have n40 : w ≠ [40] := fun e => h3 (by simp [e])
      rw [decide_eq_true n40] at ih ⊢
      rw [wide_app, wide_plain h3 h4]
      rcases wide_next ws hs with e | ⟨r, e⟩
      · rw [e] at ih ⊢
        rw [List.append_nil, wordsL_one h1 h2, ← ih]
        rfl
      · rw [e] at ih ⊢
        rw [wordsL_app, wordsL_one h1 h2]
        have : wordsL (32 :: r) = wordsL r := by
          have := wordsL_app [] r
          exact this
        rw [this] at ih
        rw [ih]
        rfl
/-! ### units: words that stand together -/
def Unit8 (u : List (List Nat)) (x : List Nat) : Prop := ∀ (b : Bool) (rest : List (List Nat)), jw b (u ++ rest) = (if b = true then [32] else []) ++ (x ++ jw true rest)
theorem unit_word {w : List Nat} (h : Plain w) : Unit8 [w] w := fun b rest => by
  have n40 : w ≠ [40] := fun e => h.2.2.1 (by simp [e])
  have n41 : w ≠ [41] := fun e => h.2.2.2 (by simp [e])
  show (if b = true ∧ w ≠ [41] then [32] else []) ++ (w ++ jw (decide (w ≠ [40])) rest) = _
  rw [decide_eq_true n40]
  cases b with
  | true => rw [if_pos ⟨rfl, n41⟩, if_pos rfl]
  | false => rw [if_neg (fun q => Bool.noConfusion q.1), if_neg Bool.false_ne_true]
theorem units_join : ∀ {us : List (List (List Nat))} {xs : List (List Nat)}, Paired Unit8 us xs → xs ≠ [] → ∀ rest, jw false (us.flatten ++ rest) = joinL [32] xs ++ jw true rest
  | _, _, .nil, h, _ => absurd rfl h
  | _, _, @Paired.cons _ _ _ u x us xs hu hs, _, rest => by
    rw [List.flatten_cons, List.append_assoc, hu false, if_neg Bool.false_ne_true, List.nil_append]
    have more : ∀ {us : List (List (List Nat))} {xs : List (List Nat)}, Paired Unit8 us xs → ∀ x, x ++ jw true (us.flatten ++ rest) = joinL [32] (x :: xs) ++ jw true rest := by
      intro us xs h
      induction h with
      | nil => intro x; rfl
      | @cons u y us ys hu hs ih =>
        intro x
        rw [List.flatten_cons, List.append_assoc, hu true, if_pos rfl, ih y]
        show _ = (x ++ ([32] ++ joinL [32] (y :: ys))) ++ _
        rw [List.append_assoc, List.append_assoc]
    exact more hs x
/-- words in parentheses -/
theorem unit_par {us : List (List (List Nat))} {xs : List (List Nat)} (h : Paired Unit8 us xs) (ne : xs ≠ []) : Unit8 ([40] :: (us.flatten ++ [[41]])) ([40] ++ (joinL [32] xs ++ [41])) := fun b rest => by
  show (if b = true ∧ ([40] : List Nat) ≠ [41] then [32] else []) ++ ([40] ++ jw (decide (([40] : List Nat) ≠ [40])) ((us.flatten ++ [[41]]) ++ rest)) = _
  rw [show (decide (([40] : List Nat) ≠ [40])) = false by decide, List.append_assoc, units_join h ne]
  show _ ++ ([40] ++ (joinL [32] xs ++ ((if true = true ∧ ([41] : List Nat) ≠ [41] then [32] else []) ++ ([41] ++ jw (decide (([41] : List Nat) ≠ [40])) rest)))) = _
  rw [show (decide (([41] : List Nat) ≠ [40])) = true by decide, if_neg (show ¬ (true = true ∧ ([41] : List Nat) ≠ [41]) from fun q => q.2 rfl)]
  cases b with
  | true =>
    rw [if_pos ⟨rfl, by decide⟩, if_pos rfl]
    simp
  | false =>
    rw [if_neg (fun q => Bool.noConfusion q.1), if_neg Bool.false_ne_true]
    simp
end Wd

set_option Elab.async false
set_option linter.all false
set_option maxRecDepth 100000
set_option maxHeartbeats 4000000
namespace Wd
open PySem TL
/-! ### trees -/
/-- a pair of a table: state, letter, the state after it, the letter told (0: none) -/
structure Ent where
  s : Nat
  l : Nat
  t : Nat
  o : Option Nat
inductive Ar where
  | num (n : Nat)
  | ltr (c : Nat)
  | lets (cs : List Nat)
  | places (ps : List Nat)
  | table (es : List Ent)
inductive Tr where
  | it
  | src (z : Str)
  | op0 (w : Str) (as : List Ar)
  | op1 (w : Str) (as : List Ar) (t : Tr)
  | op2 (w : Str) (as : List Ar) (t u : Tr)
def entL (e : Ent) : List Nat := numL e.s ++ ([e.l] ++ (numL e.t ++ [e.o.getD 45]))
def Ar.text : Ar → List Nat
  | num n => numL n
  | ltr c => [c]
  | lets cs => cs
  | places ps => if ps = [] then [45] else joinL [44] (ps.map numL)
  | table es => joinL [44] (es.map entL)
/-- the ten thousand million .. less one: the greatest delay -/
def maxD : Nat := 10 ^ 40 - 1
structure Ent.Ok (e : Ent) : Prop where
  s : e.s ≤ 8
  l : low e.l
  t : e.t ≤ 8
  o : ∀ c, e.o = some c → low c
def Ar.Ok : Kind → Ar → Prop
  | .delay, .num n => 1 ≤ n ∧ n ≤ maxD
  | .count, .num n => 1 ≤ n ∧ n ≤ 9
  | .room, .num n => 1 ≤ n ∧ n ≤ 3
  | .width, .num n => n ≤ 4
  | .letter, .ltr c => low c
  | .letters, .lets cs => Letters cs
  | .places, .places ps => ps.length ≤ 4 ∧ ∀ p ∈ ps, p ≤ 3
  | .table, .table es => 1 ≤ es.length ∧ es.length ≤ 20 ∧ (∀ e ∈ es, e.Ok) ∧ es.Pairwise fun a b => a.s < b.s ∨ a.s = b.s ∧ a.l < b.l
  | _, _ => False
def Tr.word : Tr → Str
  | it => Str.ofString "it"
  | src _ => Str.ofString "source"
  | op0 w _ => w
  | op1 w _ _ => w
  | op2 w _ _ _ => w
def Tr.args : Tr → List Ar
  | it => []
  | src _ => []
  | op0 _ as => as
  | op1 _ as _ => as
  | op2 _ as _ _ => as
def Tr.parts : Tr → List Tr
  | op1 _ _ t => [t]
  | op2 _ _ t u => [t, u]
  | _ => []
def Tr.isOp : Tr → Bool
  | it => false
  | src _ => false
  | _ => true
def Tr.size : Tr → Nat
  | op1 _ _ t => 1 + t.size
  | op2 _ _ t u => 1 + (t.size + u.size)
  | _ => 1
theorem Tr.size_pos : ∀ t : Tr, 1 ≤ t.size
  | it => Nat.le_refl _
  | src _ => Nat.le_refl _
  | op0 _ _ => Nat.le_refl _
  | op1 _ _ t => Nat.le_add_right _ _
  | op2 _ _ t u => Nat.le_add_right _ _
theorem Tr.size_parts : ∀ t : Tr, t.size = 1 + (t.parts.map Tr.size).sum
  | it => rfl
  | src _ => rfl
  | op0 _ _ => rfl
  | op1 _ _ t => rfl
  | op2 _ _ t u => rfl
/-- the words of a tree -/
def Tr.toks : Tr → List (List Nat)
  | it => [tl (Str.ofString "it")]
  | src z => [tl z]
  | op0 w as => [40] :: (([tl w] :: (as.map fun a => [a.text])).flatten ++ [[41]])
  | op1 w as t => [40] :: (([tl w] :: ((as.map fun a => [a.text]) ++ [t.toks])).flatten ++ [[41]])
  | op2 w as t u => [40] :: (([tl w] :: ((as.map fun a => [a.text]) ++ [t.toks, u.toks])).flatten ++ [[41]])
/-- the text of a tree -/
def Tr.text : Tr → List Nat
  | it => tl (Str.ofString "it")
  | src z => tl z
  | op0 w as => [40] ++ (joinL [32] (tl w :: as.map Ar.text) ++ [41])
  | op1 w as t => [40] ++ (joinL [32] (tl w :: (as.map Ar.text ++ [t.text])) ++ [41])
  | op2 w as t u => [40] ++ (joinL [32] (tl w :: (as.map Ar.text ++ [t.text, u.text])) ++ [41])
theorem Tr.toks_op : ∀ {t : Tr}, t.isOp = true → t.toks = [40] :: (([tl t.word] :: ((t.args.map fun a => [a.text]) ++ t.parts.map Tr.toks)).flatten ++ [[41]])
  | op0 w as, _ => by
    show [40] :: (([tl w] :: (as.map fun a => [a.text])).flatten ++ [[41]]) = [40] :: (([tl w] :: ((as.map fun a => [a.text]) ++ [])).flatten ++ [[41]])
    rw [List.append_nil]
  | op1 w as t, _ => rfl
  | op2 w as t u, _ => rfl
theorem Tr.text_op : ∀ {t : Tr}, t.isOp = true → t.text = [40] ++ (joinL [32] (tl t.word :: (t.args.map Ar.text ++ t.parts.map Tr.text)) ++ [41])
  | op0 w as, _ => by
    show [40] ++ (joinL [32] (tl w :: as.map Ar.text) ++ [41]) = [40] ++ (joinL [32] (tl w :: (as.map Ar.text ++ [])) ++ [41])
    rw [List.append_nil]
  | op1 w as t, _ => rfl
  | op2 w as t u, _ => rfl
/-- what stands behind the words of the operators -/
def Tr.sigs (t : Tr) (ks : List Kind) : Prop := (t.word, ks.map some ++ List.replicate t.parts.length none) ∈ sig ∧ Paired Ar.Ok ks t.args
def Tr.Ok : Tr → Prop
  | it => True
  | src z => NameS z
  | op0 w as => (∃ ks, (op0 w as).sigs ks) ∧ w ≠ Str.ofString "it" ∧ w ≠ Str.ofString "source"
  | op1 w as t => ((∃ ks, (op1 w as t).sigs ks) ∧ w ≠ Str.ofString "it" ∧ w ≠ Str.ofString "source") ∧ t.Ok
  | op2 w as t u => ((∃ ks, (op2 w as t u).sigs ks) ∧ w ≠ Str.ofString "it" ∧ w ≠ Str.ofString "source") ∧ t.Ok ∧ u.Ok
theorem Tr.Ok.op : ∀ {t : Tr}, t.Ok → t.isOp = true → (∃ ks, t.sigs ks) ∧ t.word ≠ Str.ofString "it" ∧ t.word ≠ Str.ofString "source"
  | op0 _ _, h, _ => h
  | op1 _ _ _, h, _ => h.1
  | op2 _ _ _ _, h, _ => h.1
theorem Tr.Ok.parts : ∀ {t : Tr}, t.Ok → ∀ u ∈ t.parts, u.Ok
  | it, _, _, hu => nomatch hu
  | src _, _, _, hu => nomatch hu
  | op0 _ _, _, _, hu => nomatch hu
  | op1 _ _ t, h, u, hu => by
    rw [List.mem_singleton.mp hu]
    exact h.2
  | op2 _ _ t u, h, v, hv => by
    rcases List.mem_cons.mp hv with rfl | hv
    · exact h.2.1
    · rw [List.mem_singleton.mp hv]
      exact h.2.2
/-! ### their texts -/
theorem low_plain {c : Nat} (h : low c) : c ≠ 32 ∧ c ≠ 40 ∧ c ≠ 41 := by
  unfold low at h
  omega
theorem plain_of {w : List Nat} (h : w ≠ []) (hc : ∀ c ∈ w, c ≠ 32 ∧ c ≠ 40 ∧ c ≠ 41) : Plain w :=
  ⟨h, fun q => (hc 32 q).1 rfl, fun q => (hc 40 q).2.1 rfl, fun q => (hc 41 q).2.2 rfl⟩
theorem num_signs (n : Nat) : ∀ c ∈ numL n, c ≠ 32 ∧ c ≠ 40 ∧ c ≠ 41 := fun c hc => by
  have := numL_digits n c hc
  omega
theorem join_signs {P : Nat → Prop} {s : Nat} (hs : P s) : ∀ {xs : List (List Nat)}, (∀ x ∈ xs, ∀ c ∈ x, P c) → ∀ c ∈ joinL [s] xs, P c
  | [], _, c, hc => nomatch hc
  | [x], h, c, hc => h x (by simp) c hc
  | x :: y :: r, h, c, hc => by
    rcases List.mem_append.mp hc with hc | hc
    · exact h x (by simp) c hc
    · rcases List.mem_append.mp hc with hc | hc
      · rw [List.mem_singleton.mp hc]
        exact hs
      · exact join_signs hs (fun z hz => h z (by simp [hz])) c hc
theorem join_ne {s : Nat} : ∀ {xs : List (List Nat)}, xs ≠ [] → (∀ x ∈ xs, x ≠ []) → joinL [s] xs ≠ []
  | [], h, _ => absurd rfl h
  | [x], _, h => h x (by simp)
  | x :: y :: r, _, h => fun e => h x (by simp) (List.append_eq_nil_iff.mp e).1
theorem ent_signs {e : Ent} (h : e.Ok) : ∀ c ∈ entL e, c ≠ 32 ∧ c ≠ 40 ∧ c ≠ 41 := fun c hc => by
  unfold entL at hc
  rcases List.mem_append.mp hc with hc | hc
  · exact num_signs _ c hc
  · rcases List.mem_append.mp hc with hc | hc
    · rw [List.mem_singleton.mp hc]
      exact low_plain h.l
    · rcases List.mem_append.mp hc with hc | hc
      · exact num_signs _ c hc
      · rw [List.mem_singleton.mp hc]
        cases ho : e.o with
        | none => decide
        | some d => exact low_plain (h.o d ho)
theorem ent_ne (e : Ent) : entL e ≠ [] := fun q => numL_ne e.s (List.append_eq_nil_iff.mp q).1
theorem Ar.Ok.plain : ∀ {k : Kind} {a : Ar}, a.Ok k → Plain a.text
  | .delay, .num n, _ => plain_of (numL_ne n) (num_signs n)
  | .count, .num n, _ => plain_of (numL_ne n) (num_signs n)
  | .room, .num n, _ => plain_of (numL_ne n) (num_signs n)
  | .width, .num n, _ => plain_of (numL_ne n) (num_signs n)
  | .letter, .ltr c, h => plain_of (by simp [Ar.text]) fun d hd => by
    rw [List.mem_singleton.mp hd]
    exact low_plain h
  | .letters, .lets cs, h => plain_of h.1 fun d hd => low_plain (h.2.1 d hd)
  | .places, .places ps, h => by
    by_cases e : ps = []
    · subst e
      exact plain_of (by decide) (by decide)
    · have e2 : (Ar.places ps).text = joinL [44] (ps.map numL) := if_neg e
      rw [e2]
      refine plain_of (join_ne (by simpa using e) fun x hx => ?_) (join_signs (by decide) fun x hx => ?_)
      · obtain ⟨n, _, rfl⟩ := List.mem_map.mp hx
        exact numL_ne n
      · obtain ⟨n, _, rfl⟩ := List.mem_map.mp hx
        exact num_signs n
  | .table, .table es, h => by
    have ne : es ≠ [] := fun e => by
      have := h.1
      rw [e] at this
      exact absurd this (by decide)
    refine plain_of (join_ne (by simpa using ne) fun x hx => ?_) (join_signs (by decide) fun x hx => ?_)
    · obtain ⟨n, _, rfl⟩ := List.mem_map.mp hx
      exact ent_ne n
    · obtain ⟨n, hn, rfl⟩ := List.mem_map.mp hx
      exact ent_signs (h.2.2.1 n hn)
theorem paired_ok : ∀ {ks : List Kind} {as : List Ar}, Paired Ar.Ok ks as → ∀ a ∈ as, ∃ k, a.Ok k
  | _, _, .nil, _, ha => nomatch ha
  | _, _, .cons h hs, b, hb => by
    rcases List.mem_cons.mp hb with rfl | hb
    · exact ⟨_, h⟩
    · exact paired_ok hs b hb
theorem sig_plain : ∀ p ∈ sig, Plain (tl p.1) := by
  have : ∀ p ∈ sig, ((tl p.1) != [] && !(tl p.1).contains 32 && !(tl p.1).contains 40 && !(tl p.1).contains 41) = true := by decide +kernel
  intro p hp
  have q := this p hp
  simp only [Bool.and_eq_true, bne_iff_ne, Bool.not_eq_true', List.contains_eq_mem, decide_eq_false_iff_not] at q
  exact ⟨q.1.1.1, q.1.1.2, q.1.2, q.2⟩
theorem name_plain {z : Str} (h : NameS z) : Plain (tl z) := by
  obtain ⟨h1, h2, h3, h4⟩ := h
  refine plain_of (fun e => ?_) fun c hc => low_plain (h3 c hc)
  have : (tl z).length = z.length := (len_tl z).symm
  rw [e] at this
  have : z.length = 0 := this.symm
  omega
theorem it_plain : Plain (tl (Str.ofString "it")) := sig_plain (Str.ofString "it", []) (by decide +kernel)
theorem paired_units {as : List Ar} (h : ∀ a ∈ as, ∃ k, a.Ok k) {us : List (List (List Nat))} {xs : List (List Nat)} (q : Paired Unit8 us xs) : Paired Unit8 ((as.map fun a => [a.text]) ++ us) (as.map Ar.text ++ xs) := by
  induction as with
  | nil => exact q
  | cons a as ih =>
    obtain ⟨k, hk⟩ := h a (by simp)
    exact .cons (unit_word hk.plain) (ih fun b hb => h b (by simp [hb]))
/-- a tree's words make its text -/
theorem Tr.unit : ∀ {t : Tr}, t.Ok → Unit8 t.toks t.text
  | it, _ => unit_word it_plain
  | src z, h => unit_word (name_plain h)
  | op0 w as, h => by
    obtain ⟨⟨ks, h1, h2⟩, _⟩ := h
    have hw : Plain (tl w) := sig_plain _ h1
    have q := paired_units (paired_ok h2) (Paired.nil (F := Unit8))
    rw [List.append_nil, List.append_nil] at q
    exact unit_par (.cons (unit_word hw) q) (by simp)
  | op1 w as t, h => by
    obtain ⟨⟨⟨ks, h1, h2⟩, _⟩, ht⟩ := h
    have hw : Plain (tl w) := sig_plain _ h1
    exact unit_par (.cons (unit_word hw) (paired_units (paired_ok h2) (.cons (Tr.unit ht) .nil))) (by simp)
  | op2 w as t u, h => by
    obtain ⟨⟨⟨ks, h1, h2⟩, _⟩, ht, hu⟩ := h
    have hw : Plain (tl w) := sig_plain _ h1
    exact unit_par (.cons (unit_word hw) (paired_units (paired_ok h2) (.cons (Tr.unit ht) (.cons (Tr.unit hu) .nil)))) (by simp)
theorem Tr.text_jw {t : Tr} (h : t.Ok) : jw false t.toks = t.text := by
  have := Tr.unit h false []
  rw [List.append_nil, if_neg Bool.false_ne_true, List.nil_append] at this
  rw [this]
  show _ ++ jw true [] = _
  exact List.append_nil _
theorem args_tok {as : List Ar} (h : ∀ a ∈ as, ∃ k, a.Ok k) : ∀ x ∈ (as.map fun a => [a.text]).flatten, Tok8 x := fun x hx => by
  obtain ⟨l, hl, hx⟩ := List.mem_flatten.mp hx
  obtain ⟨a, ha, rfl⟩ := List.mem_map.mp hl
  obtain ⟨k, hk⟩ := h a ha
  rw [List.mem_singleton.mp hx]
  exact .inr (.inr hk.plain)
theorem Tr.tok8 : ∀ {t : Tr}, t.Ok → ∀ w ∈ t.toks, Tok8 w
  | it, _, w, hw => by
    rw [List.mem_singleton.mp hw]
    exact .inr (.inr it_plain)
  | src z, h, w, hw => by
    rw [List.mem_singleton.mp hw]
    exact .inr (.inr (name_plain h))
  | op0 w as, h, x, hx => by
    obtain ⟨⟨ks, h1, h2⟩, _⟩ := h
    rcases List.mem_cons.mp hx with rfl | hx
    · exact .inl rfl
    · rcases List.mem_append.mp hx with hx | hx
      · rw [List.flatten_cons] at hx
        rcases List.mem_append.mp hx with hx | hx
        · rw [List.mem_singleton.mp hx]
          exact .inr (.inr (sig_plain _ h1))
        · exact args_tok (paired_ok h2) x hx
      · rw [List.mem_singleton.mp hx]
        exact .inr (.inl rfl)
  | op1 w as t, h, x, hx => by
    obtain ⟨⟨⟨ks, h1, h2⟩, _⟩, ht⟩ := h
    rcases List.mem_cons.mp hx with rfl | hx
    · exact .inl rfl
    · rcases List.mem_append.mp hx with hx | hx
      · rw [List.flatten_cons, List.flatten_append] at hx
        rcases List.mem_append.mp hx with hx | hx
        · rw [List.mem_singleton.mp hx]
          exact .inr (.inr (sig_plain _ h1))
        · rcases List.mem_append.mp hx with hx | hx
          · exact args_tok (paired_ok h2) x hx
          · rw [List.flatten_cons, List.flatten_nil, List.append_nil] at hx
            exact Tr.tok8 ht x hx
      · rw [List.mem_singleton.mp hx]
        exact .inr (.inl rfl)
  | op2 w as t u, h, x, hx => by
    obtain ⟨⟨⟨ks, h1, h2⟩, _⟩, ht, hu⟩ := h
    rcases List.mem_cons.mp hx with rfl | hx
    · exact .inl rfl
    · rcases List.mem_append.mp hx with hx | hx
      · rw [List.flatten_cons, List.flatten_append] at hx
        rcases List.mem_append.mp hx with hx | hx
        · rw [List.mem_singleton.mp hx]
          exact .inr (.inr (sig_plain _ h1))
        · rcases List.mem_append.mp hx with hx | hx
          · exact args_tok (paired_ok h2) x hx
          · rw [List.flatten_cons, List.flatten_cons, List.flatten_nil, List.append_nil] at hx
            rcases List.mem_append.mp hx with hx | hx
            · exact Tr.tok8 ht x hx
            · exact Tr.tok8 hu x hx
      · rw [List.mem_singleton.mp hx]
        exact .inr (.inl rfl)
/-- THE WORDS of a tree's text -/
theorem Tr.words {t : Tr} (h : t.Ok) : wordsL (wide t.text) = t.toks := by
  rw [← Tr.text_jw h]
  exact words_back _ _ (Tr.tok8 h)
end Wd

set_option Elab.async false
set_option linter.all false
set_option maxRecDepth 100000
set_option maxHeartbeats 4000000
set_option pp.maxSteps 400
set_option pp.deepTerms false
namespace Wd
open PySem L2 TL
open SX (S)
/-- words as values -/
def wV (ws : List (List Nat)) : List V := ws.map fun w => V.str (S w)
theorem wV_len (ws : List (List Nat)) : (wV ws).length = ws.length := List.length_map _
theorem wV_get {ws : List (List Nat)} {i : Nat} (h : i < ws.length) : (wV ws)[i]? = some (.str (S ws[i])) := by
  unfold wV
  rw [List.getElem?_map, List.getElem?_eq_getElem h]
  rfl
theorem wV_eq (ws : List (List Nat)) : wV ws = (ws.map S).map V.str := by
  unfold wV
  rw [List.map_map]
  rfl
/-- the words with the blanks between them -/
def sgJ : Bool → List (List Nat) → List (List Nat)
  | _, [] => []
  | b, w :: ws => (if b = true ∧ w ≠ [41] then [[32]] else []) ++ (w :: sgJ (decide (w ≠ [40])) ws)
theorem sgJ_flat : ∀ (ws : List (List Nat)) (b : Bool), (sgJ b ws).flatten = jw b ws
  | [], _ => rfl
  | w :: ws, b => by
    show ((if b = true ∧ w ≠ [41] then [[32]] else []) ++ (w :: sgJ (decide (w ≠ [40])) ws)).flatten = (if b = true ∧ w ≠ [41] then [32] else []) ++ (w ++ jw (decide (w ≠ [40])) ws)
    rw [List.flatten_append, List.flatten_cons, sgJ_flat ws]
    split <;> rfl
def flagS (b : Bool) : List (List Nat) → Bool
  | [] => b
  | w :: ws => flagS (decide (w ≠ [40])) ws
theorem sgJ_snoc : ∀ (us : List (List Nat)) (b : Bool) (w : List Nat), sgJ b (us ++ [w]) = sgJ b us ++ ((if flagS b us = true ∧ w ≠ [41] then [[32]] else []) ++ [w])
  | [], b, w => rfl
  | u :: us, b, w => by
    show _ ++ (u :: sgJ _ (us ++ [w])) = (_ ++ (u :: sgJ _ us)) ++ _
    rw [sgJ_snoc us, List.append_assoc]
    rfl
theorem flagS_snoc : ∀ (us : List (List Nat)) (b : Bool) (w : List Nat), flagS b (us ++ [w]) = decide (w ≠ [40])
  | [], _, _ => rfl
  | _ :: us, _, w => flagS_snoc us _ w
theorem sgJ_len : ∀ (ws : List (List Nat)) (b : Bool), (sgJ b ws).length ≤ 2 * ws.length
  | [], _ => Nat.le_refl _
  | w :: ws, b => by
    have h := sgJ_len ws (decide (w ≠ [40]))
    show (_ ++ (w :: sgJ _ ws)).length ≤ 2 * (ws.length + 1)
    rw [List.length_append, List.length_cons]
    split
    · show 1 + _ ≤ _
      omega
    · show 0 + _ ≤ _
      omega
theorem flag_at {ws : List (List Nat)} {i : Nat} (h : i < ws.length) : flagS false (ws.take (i + 1)) = decide (ws[i] ≠ [40]) := by
  rw [List.take_add_one, List.getElem?_eq_getElem h]
  exact flagS_snoc _ _ _
theorem V_S {a b : List Nat} : (V.str (S a) = V.str (S b)) ↔ a = b := ⟨fun q => by injection q with q; exact SX.S_inj q, fun q => by rw [q]⟩
theorem same_new {H : Hp} {a : Addr} {o : HO} (h : H a = none) : Same H (upd H a o) := fun b u e => by
  rw [upd_ne (ne_of_none e h)]
  exact e
def spJoined : Sp := fun vs H Q _ => ∃ (a : Addr) (ws : List (List Nat)), vs = [.ref a] ∧ H a = some (.lst (wV ws)) ∧ ws.length ≤ 100000 ∧ (jw false ws).length ≤ 1000000 ∧
  ∀ H', Same H H' → Q (.str (S (jw false ws))) H'
structure JTxt (mg : Str → Option Value) : Prop where
  enum : mg "enumerate" = none
  isin : mg "isinstance" = none
  str : mg "str" = none
section
variable {P : Program} {w : World} {K : PySem.W.Frag} {mg : Str → Option Value} {base : Heap}
abbrev nJoined : List Str := ["words", "signs", "index", "word"]
theorem scJoined : FnScope nJoined ["words"] (defScope sJoinedWords) := ⟨rfl, rfl, rfl, by decide +kernel, rfl, by decide +kernel, by decide +kernel⟩
theorem ok_joined {f : Addr} {fd : FuncData} (F : Fun K "joined_words" "joined_words" sJoinedWords f fd) (X : JTxt mg) : FnOk P w K mg base CX0 1 f fd ["words"] spJoined := by
  refine F.ok scJoined (fun vs H Q E h => ?_) (fun cdv A outer s H vs Q E hr h => ?_)
  · obtain ⟨a, ws, rfl, _⟩ := h
    rfl
  · obtain ⟨a, ws, rfl, ea0, lw, lj, q⟩ := h
    have nd := scJoined.nd
    refine ⟨_, pss_cons (ps_set (i := 1) nd rfl (Or.inl rfl) (pe_lst pa_nil))
      (pss_cons (ps_for PassesOwn.never rfl (pi_enum (by rfl) X.enum (pa_cons (pv 0) pa_nil)) (pg_tup rfl (pgs_cons (pg_name (i := 2) nd rfl (Or.inl rfl)) (pgs_cons (pg_name (i := 3) nd rfl (Or.inl rfl)) pgs_nil)))
          (pss_cons (ps_if (PW.pt (pw_and (pt_cmpR op_gt (pv 2) pe_int (nomark _)) (pw_and (pt_cmpR op_ne (pe_ix ix_list (pv 0) (pe_op op_sub (pv 2) pe_int) (fun _ _ => rfl)) pe_str (nomark _)) (pw_and1 (pt_cmpR op_ne (pv 3) pe_str (nomark _))))))
            (pss_one (ps_expr (pe_bm PySem.F.plainAttrs_list PySem.F.slot_list_append PySem.F.type_list_append mt_append (pv 1) (pa_cons pe_str pa_nil)))) pss_nil)
          (pss_one (ps_expr (pe_bm PySem.F.plainAttrs_list PySem.F.slot_list_append PySem.F.type_list_append mt_append (pv 1) (pa_cons (pv 3) pa_nil))))))
      (pss_one (ps_ret (pe_join pe_str (pv 1))))), ?_⟩
    refine ⟨(by show 0 ≤ sizeLine; decide), fun D hD => ?_⟩
    have sD := same_new (o := .lst []) hD
    have qD : (upd H D (.lst [])) D = some (.lst []) := upd_same
    generalize upd H D (.lst []) = H1 at sD qD
    refine ⟨_, rfl, a, _, rfl, SqL.of (sD _ _ ea0), ?_⟩
    refine for_it (n := (wV ws).length) (walk_enum (K := K) (a := a) (xs := wV ws)) (fun i σ H' => ∃ v2 v3 : Option V, σ = [some (.ref a), some (.ref D), v2, v3] ∧ Same H H' ∧ H' D = some (.lst (wV (sgJ false (ws.take i)))))
      ⟨_, _, rfl, sD, qD⟩ (fun _ _ _ _ ⟨_, _, _, s, _⟩ => SqL.of (s _ _ ea0)) ?_ ?_
    · rintro i x σ H1 H' hi ⟨v2, v3, rfl, sH, eD⟩ ⟨T, x1, y1, rfl, hT, rfl, h3, h4⟩
      rw [wV_len] at hi
      have g1 : some (V.int (i : Nat)) = some x1 := h3
      have g2 : (wV ws)[i]? = some y1 := h4
      rw [wV_get hi] at g2
      cases g1
      cases g2
      have sT := same_new (o := .tup [.int (i : Nat), .str (S ws[i])]) hT
      have qT : (upd H1 T (.tup [.int (i : Nat), .str (S ws[i])])) T = some (.tup [.int (i : Nat), .str (S ws[i])]) := upd_same
      generalize upd H1 T (.tup [.int (i : Nat), .str (S ws[i])]) = H2 at sT qT
      have sH2 := sH.trans sT
      have eD2 := sT _ _ eD
      have hD2 : H D = none := hD
      have tk : ws.take (i + 1) = ws.take i ++ [ws[i]] := by rw [List.take_add_one, List.getElem?_eq_getElem hi]; rfl
      have lt : (ws.take i).length ≤ i := List.length_take_le _ _
      have ls := sgJ_len (ws.take i) false
      have small : ∀ {k : Nat}, k ≤ 200010 → k < sizeLine := fun {k} h => Nat.lt_of_le_of_lt h (by decide)
      have keep : ∀ {H3 : Hp} {o : HO}, Same H H3 → Same H (upd H3 D o) := fun {H3 o} s b ob e => by
        rw [upd_ne (ne_of_none e hD2)]
        exact s b ob e
      -- the sign goes behind the others, whether there is a blank or not
      have last : ∀ (H3 : Hp) (zs : List (List Nat)), Same H H3 → H3 D = some (.lst (wV zs)) → zs.length ≤ 200005 → sgJ false (ws.take (i + 1)) = zs ++ [ws[i]] →
          ∃ l xs y, V.ref D = .ref l ∧ [V.str (S ws[i])] = [y] ∧ H3 l = some (.lst xs) ∧ xs.length < sizeLine ∧ ∃ v2 v3 : Option V, [some (V.ref a), some (V.ref D), some (V.int (i : Nat)), some (V.str (S ws[i]))] = [some (V.ref a), some (V.ref D), v2, v3] ∧ Same H (upd H3 l (.lst (xs ++ [y]))) ∧ (upd H3 l (.lst (xs ++ [y]))) D = some (.lst (wV (sgJ false (ws.take (i + 1))))) := by
        intro H3 zs s3 e3 l3 eq
        refine ⟨D, _, _, rfl, rfl, e3, small (by rw [wV_len]; omega), _, _, rfl, keep s3, ?_⟩
        rw [upd_same, eq]
        unfold wV
        rw [List.map_append]
        rfl
      refine ⟨T, _, rfl, SqT.of qT, rfl, _, _, rfl, _, _, rfl, rfl, _, rfl, _, _, rfl, rfl, _, rfl, ?_⟩
      refine ite2 (fun c1 => ?_) (fun c1 => ?_)
      · have i0 : 0 < i := by simpa using c1
        have hp : i - 1 < ws.length := by omega
        have ip : atI (wV ws) ((i : Int) - 1) = some (.str (S ws[i - 1])) := at_nn (by omega) (by rw [show ((i : Int) - 1).toNat = i - 1 by omega]; exact wV_get hp)
        have fl : flagS false (ws.take i) = decide (ws[i - 1] ≠ [40]) := by
          have := flag_at hp
          rwa [show i - 1 + 1 = i by omega] at this
        refine ⟨_, rfl, _, rfl, _, _, rfl, rfl, a, _, _, _, rfl, rfl, SqL.of (sH2 _ _ ea0), ip, rfl, _, rfl, ?_⟩
        refine ite2 (fun c2 => ?_) (fun c2 => ?_)
        · have n40 : ws[i - 1] ≠ [40] := fun e => by
            rw [e] at c2
            exact Bool.noConfusion c2
          rw [decide_eq_true n40] at fl
          refine ⟨_, rfl, rfl, _, rfl, ?_⟩
          refine ite2 (fun c3 => ?_) (fun c3 => ?_)
          · have n41 : ws[i] ≠ [41] := fun e => by
              rw [e] at c3
              exact Bool.noConfusion c3
            refine ⟨_, rfl, .inl ⟨rfl, _, SqL.of eD2⟩, D, _, _, rfl, rfl, eD2, small (by rw [wV_len]; omega), ?_⟩
            have e3 : (upd H2 D (.lst (wV (sgJ false (ws.take i)) ++ [V.str (Str.ofString " ")]))) D = some (.lst (wV (sgJ false (ws.take i) ++ [[32]]))) := by
              rw [upd_same]
              unfold wV
              rw [List.map_append]
              rfl
            refine ⟨_, rfl, .inl ⟨rfl, _, SqL.of e3⟩, _, rfl, last _ _ (keep sH2) e3 (by rw [List.length_append]; show _ + 1 ≤ _; omega) ?_⟩
            rw [tk, sgJ_snoc, fl, if_pos ⟨rfl, n41⟩, List.append_assoc]
          · have e41 : ws[i] = [41] := by
              have : V.str (S ws[i]) = V.str (S [41]) := by
                have z : (!decide (V.str (S ws[i]) = V.str (Str.ofString ")"))) = false := by simpa using c3
                have z2 := of_decide_eq_true (show decide (V.str (S ws[i]) = V.str (Str.ofString ")")) = true by
                  cases h9 : decide (V.str (S ws[i]) = V.str (Str.ofString ")")) with
                  | true => rfl
                  | false => rw [h9] at z; cases z)
                rw [z2]
                rfl
              exact V_S.mp this
            refine ⟨_, rfl, .inl ⟨rfl, _, SqL.of eD2⟩, _, rfl, last _ _ sH2 eD2 (by omega) ?_⟩
            rw [tk, sgJ_snoc, if_neg (fun z => z.2 e41)]
            rfl
        · have e40 : ws[i - 1] = [40] := by
            have : V.str (S ws[i - 1]) = V.str (S [40]) := by
              have z2 := of_decide_eq_true (show decide (V.str (S ws[i - 1]) = V.str (Str.ofString "(")) = true by
                cases h9 : decide (V.str (S ws[i - 1]) = V.str (Str.ofString "(")) with
                | true => rfl
                | false => exact (c2 (by rw [h9]; rfl)).elim)
              rw [z2]
              rfl
            exact V_S.mp this
          rw [decide_eq_false (not_not_intro e40)] at fl
          refine ⟨_, rfl, .inl ⟨rfl, _, SqL.of eD2⟩, _, rfl, last _ _ sH2 eD2 (by omega) ?_⟩
          rw [tk, sgJ_snoc, fl, if_neg (fun z => Bool.noConfusion z.1)]
          rfl
      · have i0 : i = 0 := by
          rcases Nat.eq_zero_or_pos i with h | h
          · exact h
          · exact (c1 (by simpa using h)).elim
        refine ⟨_, rfl, .inl ⟨rfl, _, SqL.of eD2⟩, _, rfl, last _ _ sH2 eD2 (by omega) ?_⟩
        have f0 : flagS false (ws.take i) = false := by rw [i0]; rfl
        rw [tk, sgJ_snoc, f0, if_neg (fun z => Bool.noConfusion z.1)]
        rfl
    · rintro σ H9 ⟨v2, v3, rfl, sH, eD⟩
      rw [wV_len, List.take_of_length_le (Nat.le_refl _)] at eD
      dsimp only
      refine ⟨⟨_, rfl⟩, _, rfl, _, _, (sgJ false ws).map S, rfl, rfl, .inl (SqL.of (by rw [← wV_eq]; exact eD)), ?_, ?_⟩
      · rw [SX.lens, List.length_map]
        have : ((sgJ false ws).map (·.length)).sum = (jw false ws).length := by rw [← sgJ_flat, List.length_flatten]
        rw [this]
        show _ + _ * 0 ≤ _
        omega
      · have e := SX.join_S [] (sgJ false ws)
        have e2 : joinL [] (sgJ false ws) = (sgJ false ws).flatten := by
          generalize sgJ false ws = zs
          have g : ∀ zs : List (List Nat), joinL [] zs = zs.flatten := by
            intro zs
            induction zs with
            | nil => rfl
            | cons z zs ih =>
              cases zs with
              | nil => simp [joinL]
              | cons y ys =>
                show z ++ ([] ++ joinL [] (y :: ys)) = z ++ (y :: ys).flatten
                rw [ih, List.nil_append]
          exact g zs
        rw [e2, sgJ_flat] at e
        show Q (V.str (Txt.join (S []) _)) H9
        rw [e]
        exact q _ sH
end
end Wd

set_option Elab.async false
set_option linter.all false
set_option maxRecDepth 100000
set_option maxHeartbeats 4000000
set_option pp.maxSteps 400
set_option pp.deepTerms false
namespace Wd
open PySem PySem.Spec L2 TL CwR
open SX (S)
def tSplitC (to : TE) (b : Str) : TE := fun σ H Q => to σ H fun v H1 => ∃ a, v = .str a ∧ a.length + 2 ≤ sizeLine ∧ ∀ p, H1 p = none → Q (.ref p) (upd H1 p (.lst ((Txt.split a b).map V.str)))
/-- e.split(..) of a written text, where e wants a token -/
theorem pet_split {X : Cx} {o : Expr} {to : TE} {b : Str} {j : Nat} {c0 apos pos : Pos} (ho : PET X o to) (hb : (b.length == 0) = false := by decide)
    (hst : starEach [.Constant (.str b) j c0] X.env = [(false, eval (.Constant (.str b) j c0) X.env)] := by rfl)
    (hbase : attributeBase o "split" X.env (eval o X.env) = eval o X.env := by rfl) (hline : (apos.endLine == pos.line) = true := by rfl) :
    PET X (.Call (.Attribute o "split" apos) [.Constant (.str b) j c0] [] pos) (tSplitC to b) := by
  intro pins s σ H Q h0 I h
  refine PySem.Call_method1 hbase hst hline (thn (ho pins s σ H _ h0 I h) fun v s1 ⟨x, H1, I1, r1, a, e, hz, q⟩ => ?_)
  subst e
  obtain ⟨t, e⟩ := r1
  subst e
  refine ⟨"str", _, PySem.F.plainAttrs_str, PySem.F.slot_str_split, PySem.F.type_str_split, typeIs_str _ _ _, (fun _ e => nomatch e), Calls.callWith_builtin rfl (Calls.evalArgs_plain (Calls.spliced_cons (Calls.Constant_str (Calls.spliced_nil ?_))))⟩
  exact mt_split pins _ σ H1 (.str a) [.str b] _ _ Q (I1.tok _) ⟨t, rfl⟩ (.cons ⟨_, rfl⟩ .nil) ⟨a, b, rfl, rfl, hb, hz, q⟩
/-- the words of the text of a tree -/
def spWordsOf : Sp := fun vs H Q _ => ∃ (ws : List (List Nat)) (x : List Nat), vs = [.str (S x)] ∧ x.length ≤ 100000 ∧ wordsL (wide x) = ws ∧ jw false ws = x ∧ ws.length ≤ 100000 ∧
  ∀ H' a, Same H H' → H a = none → H' a = some (.lst (wV ws)) → Q (.ref a) H'
theorem split_words {x : List Nat} : ((Txt.split (S x) (S [32])).filter (· != S [])) = (wordsL x).map S := by
  rw [SX.split_S (by simp) (by decide)]
  unfold wordsL
  rw [List.filter_map]
  congr 1
  refine List.filter_congr fun p _ => ?_
  show (S p != S []) = (p != [])
  unfold bne
  rw [SX.S_beq]
theorem wide_repl (x : List Nat) : Txt.replace (Txt.replace (S x) (S [40]) (S [32, 40, 32])) (S [41]) (S [32, 41, 32]) = S (wide x) := by
  refine TL.ext_tl ?_
  show (Txt.replace _ _ _).cps.toList = wide x
  rw [StrLaws.replace_list (by decide), StrLaws.replace_list (by decide)]
  exact wide_two x
theorem repl_len (x : List Nat) : (Txt.replace (S x) (S [40]) (S [32, 40, 32])).length ≤ 4 * x.length + 3 := by
  have h := TK.replace_len (S x) (S [40]) (S [32, 40, 32])
  have a : (S x).length = x.length := SX.S_len x
  have b : (S [32, 40, 32]).length = 3 := rfl
  rw [a, b] at h
  omega
section
variable {P : Program} {w : World} {K : PySem.W.Frag} {mg : Str → Option Value} {base : Heap}
abbrev nWordsOf : List Str := ["text", "words", "word"]
theorem scWordsOf : FnScope nWordsOf ["text"] (defScope sWordsOf) := ⟨rfl, rfl, rfl, by decide +kernel, rfl, by decide +kernel, by decide +kernel⟩
theorem ok_words_of {f fJ : Addr} {fd fdJ : FuncData} (F : Fun K "words_of" "words_of" sWordsOf f fd) (X : JTxt mg) (J : At P w K mg base 1 "joined_words" fJ fdJ ["words"] spJoined) : FnOk P w K mg base CX0 2 f fd ["text"] spWordsOf := by
  obtain ⟨oc, od, kV, doc, pm, an, cdv, ct, osl, rfl, lk, hcd⟩ := F.ex
  refine fn_ofT lk hcd scWordsOf (by decide +kernel) (by decide) (fun vs H Q E h => ?_) (fun A outer s H vs Q E hr h => ?_)
  · obtain ⟨ws, x, rfl, _⟩ := h
    rfl
  · obtain ⟨ws, x, rfl, lx, hw, hj, lw, q⟩ := h
    have nd := scWordsOf.nd
    refine ⟨_, psst_cons (PST.of (ps_if (pt_not (pt_val (pe_isi (N := "str") (pv 0) X.isin X.str))) (pss_one ps_never) pss_nil))
      (psst_cons (pst_asgNe (i := 1) rfl nd rfl rfl (sw_true rfl rfl rfl (by decide +kernel)) (pet_split (pet_replT (pet_replC (pv 0)))) rfl (by decide +kernel) (by decide +kernel) (by decide +kernel) rfl)
      (PSsT.of (pss_cons (ps_if (pt_cmpR op_ne (pv 0) (pe_call J.g hr rfl J.m J.kp J.b .nil pass0 (pa_cons (pv 1) pa_nil)) (nomark _)) (pss_one ps_never) pss_nil)
      (pss_one (ps_ret (pv 1)))))), ?_⟩
    refine ⟨_, rfl, _, isi_ty (r := true) (.base (.str _)) (by decide), _, rfl, iteF ?_⟩
    have l1 := repl_len x
    have ln : (S x).length = x.length := SX.S_len x
    have lz : (Txt.replace (Txt.replace (S x) (S [40]) (S [32, 40, 32])) (S [41]) (S [32, 41, 32])).length ≤ 3 * x.length := by
      rw [wide_repl, SX.S_len]
      exact wide_len x
    refine ⟨_, rfl, S x, rfl, ?_, _, rfl, ?_, _, rfl, ?_, fun p hp => ?_⟩
    · show (S x).length + ((S x).length + 1) * 3 ≤ _
      omega
    · show (Txt.replace (S x) (S [40]) (S [32, 40, 32])).length + ((Txt.replace (S x) (S [40]) (S [32, 40, 32])).length + 1) * 3 ≤ _
      omega
    · show (Txt.replace (Txt.replace (S x) (S [40]) (S [32, 40, 32])) (S [41]) (S [32, 41, 32])).length + 2 ≤ _
      have : (16777216 : Nat) ≤ sizeLine := by decide
      omega
    · have s1 := same_new (o := .lst ((Txt.split (Txt.replace (Txt.replace (S x) (S [40]) (S [32, 40, 32])) (S [41]) (S [32, 41, 32])) (S [32])).map V.str)) hp
      refine ⟨p, _, rfl, upd_same, fun d hd => ?_⟩
      have ew : ((Txt.split (Txt.replace (Txt.replace (S x) (S [40]) (S [32, 40, 32])) (S [41]) (S [32, 41, 32])) (S [32])).filter (· != S [])) = ws.map S := by
        rw [wide_repl, split_words, hw]
      have s2 := s1.trans (same_new (o := .lst (((Txt.split (Txt.replace (Txt.replace (S x) (S [40]) (S [32, 40, 32])) (S [41]) (S [32, 41, 32])) (S [32])).filter (· != S [])).map V.str)) hd)
      have ed : (upd (upd H p (.lst ((Txt.split (Txt.replace (Txt.replace (S x) (S [40]) (S [32, 40, 32])) (S [41]) (S [32, 41, 32])) (S [32])).map V.str))) d (.lst (((Txt.split (Txt.replace (Txt.replace (S x) (S [40]) (S [32, 40, 32])) (S [41]) (S [32, 41, 32])) (S [32])).filter (· != S [])).map V.str))) d = some (.lst (wV ws)) := by
        rw [upd_same, ew, wV_eq]
      show tSeq _ _ _ _ (upd (upd H p (.lst ((Txt.split (Txt.replace (Txt.replace (S x) (S [40]) (S [32, 40, 32])) (S [41]) (S [32, 41, 32])) (S [32])).map V.str))) d (.lst (((Txt.split (Txt.replace (Txt.replace (S x) (S [40]) (S [32, 40, 32])) (S [41]) (S [32, 41, 32])) (S [32])).filter (· != S [])).map V.str)))
      have nd0 : H d = none := by
        cases e : H d with
        | none => rfl
        | some o =>
          exact absurd ((s1 _ _ e).symm.trans hd) (fun z => nomatch z)
      generalize (upd (upd H p (.lst ((Txt.split (Txt.replace (Txt.replace (S x) (S [40]) (S [32, 40, 32])) (S [41]) (S [32, 41, 32])) (S [32])).map V.str))) d (.lst (((Txt.split (Txt.replace (Txt.replace (S x) (S [40]) (S [32, 40, 32])) (S [41]) (S [32, 41, 32])) (S [32])).filter (· != S [])).map V.str))) = H2 at s2 ed
      refine ⟨_, rfl, _, rfl, d, ws, rfl, ed, lw, by rw [hj]; omega, fun H3 s3 => ?_⟩
      refine ⟨rfl, _, rfl, ?_⟩
      rw [hj, decide_eq_true rfl]
      exact iteF ⟨_, rfl, q _ _ (s2.trans s3) nd0 (s3 _ _ ed)⟩
end
end Wd

set_option Elab.async false
set_option linter.all false
set_option maxRecDepth 100000
set_option maxHeartbeats 4000000
namespace Wd
open PySem PySem.Spec L2
namespace XT
open PySem.AutoSeq1
/-- xs.extend(t), t any tuple -/
theorem ext_tup (l b : Addr) (us vs : Array Value) (n k : Nat) (di : Option Addr) (sl : Array (Option Value)) (h0 : ¬(!us.isEmpty && Builtin.List.listTooLong (us.size + vs.size)) = true) (h1 : us.size ≤ sizeLine) (h2 : us.size + vs.size ≤ sizeLine + 1) :
    Meets (Builtin.«list.extend» ⟨[.ref l, .ref b], []⟩) (fun _ R s => s.heap.get? l = some { cls := .type "list", data := .seq us n } ∧ s.heap.get? b = some { cls := .type "tuple", dict := di, data := .seq vs k, slots := sl } ∧
      R (.ok (.ret Value.none)) { s with heap := s.heap.update l (Obj.mapSeq fun x => x ++ vs) }) := by
  refine .of_wp fun prog w A R s h => ?_
  obtain ⟨hp, gen, dr, tk, sys⟩ := s
  obtain ⟨el, eb, hR⟩ := h
  have z : (us ++ vs).size ≤ sizeLine + 1 := by
    rw [Array.size_append]
    exact h2
  wp_walk using (wpAny_updateSeq el rfl (hz := h1) (_hz' := z)), wpAny_loadPart' el, wpAny_loadPart' eb
  exact ⟨_, rfl, hR⟩
end XT
def rExtendT (K : PySem.W.Frag) : V → List V → Hp → VK → Prop := fun x vs H Q => ∃ l b xs zs, x = .ref l ∧ vs = [.ref b] ∧ H l = some (.lst xs) ∧ SqT K H b zs ∧ xs.length + zs.length ≤ sizeLine ∧ Q .non (upd H l (.lst (xs ++ zs)))
theorem mt_extendT {X : Cx} : MtM X "list.extend" (rExtendT X.K) := by
  intro pins s σ H x vs v args Q I rx rv h
  obtain ⟨l, b, xs, zs, rfl, rfl, el, tb, le, q⟩ := h
  cases rx
  obtain ⟨u, rfl, ru⟩ := rv.one
  cases ru
  obtain ⟨z1, us, n, r1, g1, e1⟩ := I.lstM el
  obtain ⟨ws, r2, ⟨⟨oc, di, od, sl⟩, eb, hc, k, hd⟩, z2⟩ := I.tuple tb
  cases hc
  cases hd
  have g2 := r2.length
  have fit : us.toArray.size + ws.toArray.size ≤ sizeLine := by
    simp only [List.size_toArray]
    omega
  have nl : ¬(!us.toArray.isEmpty && Builtin.List.listTooLong (us.toArray.size + ws.toArray.size)) = true := by
    rw [notLongL fit]
    simp
  refine call_meets PySem.F.slot_list_extend ⟨_, e1, rfl⟩ PySem.F.entry_list_extend (PySem.F.args_list_extend_2 _ _) (XT.ext_tup l b us.toArray ws.toArray n k di sl nl (by omega) (by omega)) ⟨e1, eb, .non, _, ?_, rfl, q⟩
  exact I.lset (its' := us ++ ws) el e1 (by simp) (r1.append r2) (by rw [List.length_append]; exact le)
end Wd

set_option Elab.async false
set_option linter.all false
set_option maxRecDepth 100000
set_option maxHeartbeats 4000000
set_option pp.maxSteps 400
set_option pp.deepTerms false
namespace Wd
open PySem L2 TL
open SX (S)
/-! ### trees on the heap -/
/-- the tuples stand as they were -/
def TK (H H' : Hp) : Prop := ∀ a xs, H a = some (.tup xs) → H' a = some (.tup xs)
theorem TK.refl (H : Hp) : TK H H := fun _ _ h => h
theorem TK.trans {H H1 H2 : Hp} (a : TK H H1) (b : TK H1 H2) : TK H H2 := fun c xs h => b c xs (a c xs h)
theorem TK.of {H H' : Hp} (s : Same H H') : TK H H' := fun a xs h => s _ _ h
theorem TK.lst {H : Hp} {l : Addr} {xs ys : List V} (h : H l = some (.lst xs)) : TK H (upd H l (.lst ys)) := fun a zs e => by
  rw [upd_ne (fun z => by rw [z, h] at e; cases e)]
  exact e
def numV (ps : List Nat) : List V := ps.map fun (n : Nat) => V.int (n : Int)
def optL : Option Nat → List Nat
  | none => []
  | some c => [c]
def EntAt (H : Hp) (e : Ent) (x : V) : Prop := ∃ t p q, x = .ref t ∧ H t = some (.tup [.ref p, .ref q]) ∧ H p = some (.tup [.int e.s, .str (S [e.l])]) ∧ H q = some (.tup [.int e.t, .str (S (optL e.o))])
def ArAt (H : Hp) : Ar → V → Prop
  | .num n, v => v = .int n
  | .ltr c, v => v = .str (S [c])
  | .lets cs, v => ∃ a, v = .ref a ∧ H a = some (.tup (letV cs))
  | .places ps, v => ∃ a, v = .ref a ∧ H a = some (.tup (numV ps))
  | .table es, v => ∃ a xs, v = .ref a ∧ H a = some (.tup xs) ∧ Paired (EntAt H) es xs
def TrAt (H : Hp) : Tr → V → Prop
  | .it, v => ∃ a, v = .ref a ∧ H a = some (.tup [.str (Str.ofString "it")])
  | .src z, v => ∃ a, v = .ref a ∧ H a = some (.tup [.str (Str.ofString "source"), .str z])
  | .op0 w as, v => ∃ a xs, v = .ref a ∧ H a = some (.tup (.str w :: xs)) ∧ Paired (ArAt H) as xs
  | .op1 w as t, v => ∃ a xs x, v = .ref a ∧ H a = some (.tup (.str w :: (xs ++ [x]))) ∧ Paired (ArAt H) as xs ∧ TrAt H t x
  | .op2 w as t u, v => ∃ a xs x y, v = .ref a ∧ H a = some (.tup (.str w :: (xs ++ [x, y]))) ∧ Paired (ArAt H) as xs ∧ TrAt H t x ∧ TrAt H u y
theorem paired_mono {α β : Type} {F G : α → β → Prop} (h : ∀ a b, F a b → G a b) : ∀ {xs : List α} {ys : List β}, Paired F xs ys → Paired G xs ys
  | _, _, .nil => .nil
  | _, _, .cons a as => .cons (h _ _ a) (paired_mono h as)
theorem EntAt.mono {H H' : Hp} (k : TK H H') {e : Ent} {x : V} : EntAt H e x → EntAt H' e x := fun ⟨t, p, q, e1, e2, e3, e4⟩ => ⟨t, p, q, e1, k _ _ e2, k _ _ e3, k _ _ e4⟩
theorem ArAt.mono {H H' : Hp} (k : TK H H') : ∀ {a : Ar} {v : V}, ArAt H a v → ArAt H' a v
  | .num _, _, h => h
  | .ltr _, _, h => h
  | .lets _, _, ⟨a, h1, h2⟩ => ⟨a, h1, k _ _ h2⟩
  | .places _, _, ⟨a, h1, h2⟩ => ⟨a, h1, k _ _ h2⟩
  | .table _, _, ⟨a, xs, h1, h2, h3⟩ => ⟨a, xs, h1, k _ _ h2, paired_mono (fun _ _ => EntAt.mono k) h3⟩
theorem TrAt.mono {H H' : Hp} (k : TK H H') : ∀ {t : Tr} {v : V}, TrAt H t v → TrAt H' t v
  | .it, _, ⟨a, h1, h2⟩ => ⟨a, h1, k _ _ h2⟩
  | .src _, _, ⟨a, h1, h2⟩ => ⟨a, h1, k _ _ h2⟩
  | .op0 _ _, _, ⟨a, xs, h1, h2, h3⟩ => ⟨a, xs, h1, k _ _ h2, paired_mono (fun _ _ => ArAt.mono k) h3⟩
  | .op1 _ _ _, _, ⟨a, xs, x, h1, h2, h3, h4⟩ => ⟨a, xs, x, h1, k _ _ h2, paired_mono (fun _ _ => ArAt.mono k) h3, TrAt.mono k h4⟩
  | .op2 _ _ _ _, _, ⟨a, xs, x, y, h1, h2, h3, h4, h5⟩ => ⟨a, xs, x, y, h1, k _ _ h2, paired_mono (fun _ _ => ArAt.mono k) h3, TrAt.mono k h4, TrAt.mono k h5⟩
/-- an operator: its word, its arguments, its parts -/
theorem TrAt.op {H : Hp} : ∀ {t : Tr} {v : V}, t.isOp = true → (TrAt H t v ↔ ∃ a xs ys, v = .ref a ∧ H a = some (.tup (.str t.word :: (xs ++ ys))) ∧ Paired (ArAt H) t.args xs ∧ Paired (TrAt H) t.parts ys)
  | .op0 w as, v, _ => ⟨fun ⟨a, xs, h1, h2, h3⟩ => ⟨a, xs, [], h1, by rw [List.append_nil]; exact h2, h3, .nil⟩, fun ⟨a, xs, ys, h1, h2, h3, h4⟩ => by
      cases h4
      rw [List.append_nil] at h2
      exact ⟨a, xs, h1, h2, h3⟩⟩
  | .op1 w as t, v, _ => ⟨fun ⟨a, xs, x, h1, h2, h3, h4⟩ => ⟨a, xs, [x], h1, h2, h3, .cons h4 .nil⟩, fun ⟨a, xs, ys, h1, h2, h3, h4⟩ => by
      cases h4 with
      | cons h4 h5 =>
        cases h5
        exact ⟨a, xs, _, h1, h2, h3, h4⟩⟩
  | .op2 w as t u, v, _ => ⟨fun ⟨a, xs, x, y, h1, h2, h3, h4, h5⟩ => ⟨a, xs, [x, y], h1, h2, h3, .cons h4 (.cons h5 .nil)⟩, fun ⟨a, xs, ys, h1, h2, h3, h4⟩ => by
      cases h4 with
      | cons h4 h5 =>
        cases h5 with
        | cons h5 h6 =>
          cases h6
          exact ⟨a, xs, _, _, h1, h2, h3, h4, h5⟩⟩
/-! ### they are data -/
theorem low_ok {cs : List Nat} (h : ∀ c ∈ cs, low c) : PyData.strOk (S cs) = true := by
  unfold PyData.strOk
  rw [Array.all_eq_true']
  intro c hc
  have := h c (by simpa [S] using hc)
  unfold low at this
  have : c < 1114112 := by omega
  simpa using this
theorem dat_num {T : List Addr → Hp → Addr → Prop} {H : Hp} {k : Nat} (n : Nat) : Dat T [] H 1000 (k + 1) (.int n) := .int _
theorem dat_let {T : List Addr → Hp → Addr → Prop} {H : Hp} {k : Nat} {c : Nat} (h : low c) : Dat T [] H 1000 (k + 1) (.str (S [c])) := .str _ (by show 1 ≤ 1000; decide) (low_ok (by simpa using h))
theorem ent_dat {T : List Addr → Hp → Addr → Prop} {H : Hp} {k : Nat} {e : Ent} {x : V} (o : e.Ok) : EntAt H e x → Dat T [] H 1000 (k + 3) x := fun ⟨t, p, q, e1, e2, e3, e4⟩ => by
  subst e1
  refine .tup (by simp) e2 (by show 2 ≤ 1000; decide) fun x hx => ?_
  rcases List.mem_cons.mp hx with rfl | hx
  · refine .tup (by simp) e3 (by show 2 ≤ 1000; decide) fun x hx => ?_
    rcases List.mem_cons.mp hx with rfl | hx
    · exact .int _
    · rw [List.mem_singleton.mp hx]
      exact dat_let o.l
  · rw [List.mem_singleton.mp hx]
    refine .tup (by simp) e4 (by show 2 ≤ 1000; decide) fun x hx => ?_
    rcases List.mem_cons.mp hx with rfl | hx
    · exact .int _
    · rw [List.mem_singleton.mp hx]
      cases ho : e.o with
      | none => exact .str _ (by show 0 ≤ 1000; decide) (by decide +kernel)
      | some c => exact dat_let (o.o c ho)
theorem paired_mem {α β : Type} {F : α → β → Prop} : ∀ {xs : List α} {ys : List β}, Paired F xs ys → ∀ y ∈ ys, ∃ x ∈ xs, F x y
  | _, _, .nil, _, h => nomatch h
  | _, _, .cons a as, y, h => by
    rcases List.mem_cons.mp h with rfl | h
    · exact ⟨_, by simp, a⟩
    · obtain ⟨x, hx, q⟩ := paired_mem as y h
      exact ⟨x, by simp [hx], q⟩
theorem asc_len : ∀ (cs : List Nat) (lo hi : Nat), cs.Pairwise (· < ·) → (∀ c ∈ cs, lo ≤ c ∧ c < hi) → lo + cs.length ≤ max lo hi
  | [], lo, hi, _, _ => Nat.le_max_left _ _
  | c :: cs, lo, hi, h, r => by
    have h1 := r c (by simp)
    have h2 := List.pairwise_cons.mp h
    have ih := asc_len cs (c + 1) hi h2.2 fun d hd => ⟨h2.1 d hd, (r d (by simp [hd])).2⟩
    rw [List.length_cons]
    omega
theorem letters_len {cs : List Nat} (h : Letters cs) : cs.length ≤ 26 := by
  have := asc_len cs 97 123 h.2.2 fun c hc => by
    have := h.2.1 c hc
    unfold low at this
    omega
  omega
theorem ar_dat {T : List Addr → Hp → Addr → Prop} {H : Hp} {k : Nat} : ∀ {kd : Kind} {a : Ar} {v : V}, a.Ok kd → ArAt H a v → Dat T [] H 1000 (k + 4) v
  | .delay, .num n, _, _, h => h ▸ dat_num n
  | .count, .num n, _, _, h => h ▸ dat_num n
  | .room, .num n, _, _, h => h ▸ dat_num n
  | .width, .num n, _, _, h => h ▸ dat_num n
  | .letter, .ltr c, _, o, h => h ▸ dat_let o
  | .letters, .lets cs, _, o, ⟨a, h1, h2⟩ => by
    subst h1
    refine .tup (by simp) h2 (by unfold letV; rw [List.length_map]; exact Nat.le_trans (letters_len o) (by decide)) fun x hx => ?_
    obtain ⟨c, hc, rfl⟩ := List.mem_map.mp hx
    exact dat_let (o.2.1 c hc)
  | .places, .places ps, _, o, ⟨a, h1, h2⟩ => by
    subst h1
    refine .tup (by simp) h2 (by unfold numV; rw [List.length_map]; exact Nat.le_trans o.1 (by decide)) fun x hx => ?_
    obtain ⟨c, hc, rfl⟩ := List.mem_map.mp hx
    exact dat_num c
  | .table, .table es, _, o, ⟨a, xs, h1, h2, h3⟩ => by
    subst h1
    refine .tup (by simp) h2 (by rw [← h3.length]; exact Nat.le_trans o.2.1 (by decide)) fun x hx => ?_
    obtain ⟨e, he, q⟩ := paired_mem h3 x hx
    exact ent_dat (o.2.2.1 e he) q
end Wd

set_option Elab.async false
set_option linter.all false
set_option maxRecDepth 100000
set_option maxHeartbeats 4000000
set_option pp.maxSteps 400
set_option pp.deepTerms false
namespace Wd
open PySem L2 TL
open SX (S)
theorem sig_ok : ∀ p ∈ sig, p.1.length ≤ 1000 ∧ PyData.strOk p.1 = true := by
  have : ∀ p ∈ sig, (decide (p.1.length ≤ 1000) && PyData.strOk p.1) = true := by decide +kernel
  intro p hp
  have q := this p hp
  rw [Bool.and_eq_true] at q
  exact ⟨of_decide_eq_true q.1, q.2⟩
theorem sig_dat {T : List Addr → Hp → Addr → Prop} {H : Hp} {k : Nat} {z : Str} {ks : List (Option Kind)} (h : (z, ks) ∈ sig) : Dat T [] H 1000 (k + 1) (.str z) := .str _ (sig_ok _ h).1 (sig_ok _ h).2
theorem name_dat {T : List Addr → Hp → Addr → Prop} {H : Hp} {k : Nat} {z : Str} (h : NameS z) : Dat T [] H 1000 (k + 1) (.str z) := by
  have e : S (tl z) = z := SX.S_tl z
  refine .str _ (Nat.le_trans h.2.1 (by decide)) ?_
  rw [← e]
  exact low_ok h.2.2.1
theorem args_dat {T : List Addr → Hp → Addr → Prop} {H : Hp} {k : Nat} {ks : List Kind} {as : List Ar} (o : Paired Ar.Ok ks as) : ∀ {xs : List V}, Paired (ArAt H) as xs → ∀ x ∈ xs, Dat T [] H 1000 (k + 4) x := by
  induction o with
  | nil =>
    intro xs h x hx
    cases h
    nomatch hx
  | cons o os ih =>
    intro xs h x hx
    cases h with
    | cons h hs =>
      rcases List.mem_cons.mp hx with rfl | hx
      · exact ar_dat o h
      · exact ih hs x hx
theorem sigs_len {t : Tr} {ks : List Kind} (h : t.sigs ks) : t.args.length ≤ 3 := by
  have := sig_len _ h.1
  rw [← h.2.length]
  simp only [List.length_append, List.length_map] at this
  omega
/-- a tree is data -/
theorem tr_dat {T : List Addr → Hp → Addr → Prop} {H : Hp} : ∀ {t : Tr} {v : V}, t.Ok → TrAt H t v → Dat T [] H 1000 (t.size + 4) v
  | .it, _, _, ⟨a, h1, h2⟩ => by
    subst h1
    refine .tup (by simp) h2 (by show 1 ≤ 1000; decide) fun x hx => ?_
    rw [List.mem_singleton.mp hx]
    exact sig_dat (ks := []) (by decide +kernel)
  | .src z, _, o, ⟨a, h1, h2⟩ => by
    subst h1
    refine .tup (by simp) h2 (by show 2 ≤ 1000; decide) fun x hx => ?_
    rcases List.mem_cons.mp hx with rfl | hx
    · exact sig_dat (ks := [some .name]) (by decide +kernel)
    · rw [List.mem_singleton.mp hx]
      exact name_dat o
  | .op0 w as, _, ⟨⟨ks, o⟩, _⟩, ⟨a, xs, h1, h2, h3⟩ => by
    subst h1
    have l := sigs_len o
    have l2 : as.length ≤ 3 := l
    refine .tup (by simp) h2 (by rw [List.length_cons, ← h3.length]; omega) fun x hx => ?_
    rcases List.mem_cons.mp hx with rfl | hx
    · exact sig_dat o.1
    · exact args_dat o.2 h3 x hx
  | .op1 w as t, _, ⟨⟨⟨ks, o⟩, _⟩, ot⟩, ⟨a, xs, y, h1, h2, h3, h4⟩ => by
    subst h1
    have l := sigs_len o
    have l2 : as.length ≤ 3 := l
    show Dat T [] H 1000 ((1 + t.size) + 4) _
    rw [show (1 + t.size) + 4 = (t.size + 4) + 1 by omega]
    refine .tup (by simp) h2 (by rw [List.length_cons, List.length_append, ← h3.length]; show _ + 1 + 1 ≤ _; omega) fun x hx => ?_
    rcases List.mem_cons.mp hx with rfl | hx
    · exact sig_dat o.1
    · rcases List.mem_append.mp hx with hx | hx
      · exact (args_dat (k := 0) o.2 h3 x hx).up (Nat.le_refl _) (by omega)
      · rw [List.mem_singleton.mp hx]
        exact tr_dat ot h4
  | .op2 w as t u, _, ⟨⟨⟨ks, o⟩, _⟩, ot, ou⟩, ⟨a, xs, y, z, h1, h2, h3, h4, h5⟩ => by
    subst h1
    have l := sigs_len o
    have l2 : as.length ≤ 3 := l
    show Dat T [] H 1000 ((1 + (t.size + u.size)) + 4) _
    rw [show (1 + (t.size + u.size)) + 4 = (t.size + u.size + 4) + 1 by omega]
    refine .tup (by simp) h2 (by rw [List.length_cons, List.length_append, ← h3.length]; show _ + 2 + 1 ≤ _; omega) fun x hx => ?_
    rcases List.mem_cons.mp hx with rfl | hx
    · exact sig_dat o.1
    · rcases List.mem_append.mp hx with hx | hx
      · exact (args_dat (k := 0) o.2 h3 x hx).up (Nat.le_refl _) (by omega)
      · rcases List.mem_cons.mp hx with rfl | hx
        · exact (tr_dat ot h4).up (Nat.le_refl _) (by omega)
        · rw [List.mem_singleton.mp hx]
          exact (tr_dat ou h5).up (Nat.le_refl _) (by omega)
/-! ### they have the form of trees -/
theorem ent_pair {H : Hp} {e : Ent} {x : V} (o : e.Ok) : EntAt H e x → IsPair H x := fun ⟨t, p, q, e1, e2, e3, e4⟩ => by
  have b8 : ∀ n : Nat, n ≤ 8 → Btw 0 8 (.int n) := fun n h => ⟨n, rfl, Int.lt_of_lt_of_le (by decide +kernel : -ten60 < 0) (by omega), Int.lt_of_le_of_lt (by omega : (n : Int) ≤ 8) (by decide +kernel), by omega, by omega⟩
  refine ⟨t, p, q, _, _, _, _, e1, e2, e3, e4, b8 _ o.s, b8 _ o.t, ⟨e.l, rfl, o.l⟩, ?_⟩
  cases ho : e.o with
  | none => exact .inr rfl
  | some c => exact .inl ⟨c, rfl, o.o c ho⟩
theorem btw_num {n : Nat} {lo hi : Int} (h1 : lo ≤ n) (h2 : (n : Int) ≤ hi) (h3 : hi < ten60) : Btw lo hi (.int n) := ⟨n, rfl, Int.lt_of_lt_of_le (by decide +kernel : -ten60 < 0) (by omega), Int.lt_of_le_of_lt h2 h3, h1, h2⟩
theorem sign_less {a b : Nat} (h : a < b) : (S [a]).cps.toList < (S [b]).cps.toList := of_decide_eq_true (sign_lt.mpr h)
theorem ent_lt {H : Hp} {e e2 : Ent} {x x2 : V} (lt : e.s < e2.s ∨ e.s = e2.s ∧ e.l < e2.l) : EntAt H e x → EntAt H e2 x2 → PairLt H x x2 := fun ⟨t, p, q, a1, a2, a3, a4⟩ ⟨t', p', q', b1, b2, b3, b4⟩ => by
  refine ⟨t, t', p, q, p', q', ((e.s : Int), S [e.l]), ((e2.s : Int), S [e2.l]), a1, b1, a2, b2, a3, b3, (PL.lt_iff _ _).mpr ?_⟩
  rcases lt with h | ⟨h, l⟩
  · exact .inl (by show (e.s : Int) < e2.s; omega)
  · exact .inr ⟨by show (e.s : Int) = e2.s; omega, sign_less l⟩
theorem pairs_at {H : Hp} : ∀ (es : List Ent) (xs : List V), (∀ e ∈ es, e.Ok) → es.Pairwise (fun a b => a.s < b.s ∨ a.s = b.s ∧ a.l < b.l) → Paired (EntAt H) es xs → (∀ x ∈ xs, IsPair H x) ∧ ∀ i, i < xs.length - 1 → ∃ x y, xs[i]? = some x ∧ xs[i + 1]? = some y ∧ PairLt H x y
  | [], _, _, _, h => by
    cases h
    exact ⟨(fun x hx => nomatch hx), fun i hi => absurd hi (Nat.not_lt_zero _)⟩
  | e :: es, ys, o, p, h => by
    cases h with
    | @cons _ x _ xs h hs =>
      have p2 := List.pairwise_cons.mp p
      obtain ⟨q1, q2⟩ := pairs_at es xs (fun e he => o e (by simp [he])) p2.2 hs
      refine ⟨fun y hy => ?_, fun i hi => ?_⟩
      · rcases List.mem_cons.mp hy with rfl | hy
        · exact ent_pair (o e (by simp)) h
        · exact q1 y hy
      · cases i with
        | zero =>
          cases hs with
          | nil => exact absurd hi (by simp)
          | @cons e2 x2 es2 xs2 h2 hs2 => exact ⟨x, x2, rfl, rfl, ent_lt (p2.1 e2 (by simp)) h h2⟩
        | succ i =>
          obtain ⟨y, z, a, b, c⟩ := q2 i (by rw [List.length_cons] at hi; omega)
          exact ⟨y, z, a, b, c⟩
theorem ar_arg {H : Hp} : ∀ {kd : Kind} {a : Ar} {v : V}, a.Ok kd → ArAt H a v → Arg H kd v
  | .delay, .num n, _, o, h => by
    have o1 : 1 ≤ n := o.1
    have o2 : n ≤ maxD := o.2
    have e : ((maxD : Nat) : Int) = ten40 := by decide +kernel
    exact h ▸ btw_num (by omega) (by omega) (by decide +kernel)
  | .count, .num n, _, o, h => by
    have o1 : 1 ≤ n := o.1
    have o2 : n ≤ 9 := o.2
    exact h ▸ btw_num (by omega) (by omega) (by decide +kernel)
  | .room, .num n, _, o, h => by
    have o1 : 1 ≤ n := o.1
    have o2 : n ≤ 3 := o.2
    exact h ▸ btw_num (by omega) (by omega) (by decide +kernel)
  | .width, .num n, _, o, h => by
    have o2 : n ≤ 4 := o
    exact h ▸ btw_num (by omega) (by omega) (by decide +kernel)
  | .letter, .ltr c, _, o, h => ⟨c, h, o⟩
  | .letters, .lets cs, _, o, ⟨a, h1, h2⟩ => ⟨a, cs, h1, h2, o⟩
  | .places, .places ps, _, o, ⟨a, h1, h2⟩ => by
    refine ⟨a, _, h1, h2, by unfold numV; rw [List.length_map]; exact o.1, fun x hx => ?_⟩
    obtain ⟨n, hn, rfl⟩ := List.mem_map.mp hx
    have := o.2 n hn
    exact btw_num (by omega) (by omega) (by decide +kernel)
  | .table, .table es, _, o, ⟨a, xs, h1, h2, h3⟩ => by
    have l := h3.length
    have o1 : 1 ≤ es.length := o.1
    have o2 : es.length ≤ 20 := o.2.1
    obtain ⟨q1, q2⟩ := pairs_at es xs o.2.2.1 o.2.2.2 h3
    exact ⟨a, xs, h1, h2, by omega, by omega, q1, q2⟩
theorem args_arg {H : Hp} {ks : List Kind} {as : List Ar} (o : Paired Ar.Ok ks as) : ∀ {xs : List V}, Paired (ArAt H) as xs → xs.length = ks.length ∧ ∀ (i : Nat) (kd : Kind) (x : V), ks[i]? = some kd → xs[i]? = some x → Arg H kd x := by
  induction o with
  | nil =>
    intro xs h
    cases h
    exact ⟨rfl, fun i kd x h1 => by simp at h1⟩
  | cons o os ih =>
    intro xs h
    cases h with
    | cons h hs =>
      obtain ⟨l, q⟩ := ih hs
      refine ⟨by rw [List.length_cons, List.length_cons, l], fun i kd x h1 h2 => ?_⟩
      cases i with
      | zero =>
        cases h1
        cases h2
        exact ar_arg o h
      | succ i => exact q i kd x h1 h2
/-- a tree as it stands there: its word, what belongs behind it, its parts -/
theorem tr_form {H : Hp} {t : Tr} {v : V} (o : t.Ok) (h : TrAt H t v) : ∃ a ks xs ys, v = .ref a ∧ H a = some (.tup (.str t.word :: xs)) ∧ (t.word, ks) ∈ sig ∧ xs.length = ks.length ∧
    (∀ (i : Nat) (kd : Kind) (x : V), ks[i]? = some (some kd) → xs[i]? = some x → Arg H kd x) ∧ partsL ks xs = ys ∧ Paired (TrAt H) t.parts ys := by
  cases ht : t.isOp with
  | true =>
    obtain ⟨⟨ks, o1, o2⟩, _⟩ := o.op ht
    obtain ⟨a, xs, ys, e1, e2, e3, e4⟩ := (TrAt.op ht).mp h
    obtain ⟨l, q⟩ := args_arg o2 e3
    have ly := e4.length
    refine ⟨a, _, _, ys, e1, e2, o1, by rw [List.length_append, List.length_append, List.length_map, List.length_replicate, l, ly], fun i kd x h1 h2 => ?_, ?_, e4⟩
    · rw [List.getElem?_append] at h1
      split at h1
      · rename_i hl
        rw [List.length_map] at hl
        rw [List.getElem?_append_left (by omega)] at h2
        rw [List.getElem?_map] at h1
        cases hk : ks[i]? with
        | none =>
          rw [hk] at h1
          cases h1
        | some k =>
          rw [hk] at h1
          cases h1
          exact q i _ x hk h2
      · have := List.eq_of_mem_replicate (List.mem_of_getElem? h1)
        cases this
    · rw [ly]
      have g1 : ∀ (ks : List Kind) (xs : List V) (r : List (Option Kind)), xs.length = ks.length → partsL (ks.map some ++ r) (xs ++ ys) = partsL r ys := by
        intro ks
        induction ks with
        | nil =>
          intro xs r h
          rw [List.eq_nil_of_length_eq_zero h]
          rfl
        | cons k ks ih =>
          intro xs r h
          cases xs with
          | nil => cases h
          | cons x xs => exact ih xs r (Nat.succ.inj h)
      rw [g1 ks xs _ l]
      have g2 : ∀ ys : List V, partsL (List.replicate ys.length none) ys = ys := by
        intro ys
        induction ys with
        | nil => rfl
        | cons y ys ih =>
          show y :: partsL (List.replicate ys.length none) ys = _
          rw [ih]
      exact g2 ys
  | false =>
    cases t with
    | it =>
      obtain ⟨a, e1, e2⟩ := h
      exact ⟨a, [], [], [], e1, e2, (by decide +kernel), rfl, (fun i kd x h1 => by simp at h1), rfl, .nil⟩
    | src z =>
      obtain ⟨a, e1, e2⟩ := h
      refine ⟨a, [some .name], [.str z], [], e1, e2, (show (Str.ofString "source", [some Kind.name]) ∈ sig by decide +kernel), rfl, fun i kd x h1 h2 => ?_, rfl, .nil⟩
      cases i with
      | zero =>
        cases h1
        cases h2
        exact ⟨z, rfl, o⟩
      | succ i => simp at h1
    | op0 w as => cases ht
    | op1 w as t => cases ht
    | op2 w as t u => cases ht
theorem tr_has {H : Hp} {t : Tr} {v : V} (o : t.Ok) (h : TrAt H t v) : HasForm H v := by
  obtain ⟨a, ks, xs, ys, e1, e2, e3, e4, e5, _⟩ := tr_form o h
  exact ⟨a, _, ks, xs, e1, e2, e3, e4, e5⟩
end Wd

set_option Elab.async false
set_option linter.all false
set_option maxRecDepth 100000
set_option maxHeartbeats 4000000
set_option pp.maxSteps 400
set_option pp.deepTerms false
namespace Wd
open PySem L2 TL
open SX (S)
abbrev noT : List Addr → Hp → Addr → Prop := fun _ _ _ => False
def spTree : Sp := fun vs H Q _ => ∃ (v : V) (t : Tr), vs = [v] ∧ TrAt H t v ∧ t.Ok ∧ t.size ≤ 12 ∧ ∀ H', Same H H' → Q (.bl true) H'
theorem paired_snoc {α β : Type} {F : α → β → Prop} : ∀ {ts : List α} {xs : List β} {y : β}, Paired F ts (xs ++ [y]) → ∃ us u, ts = us ++ [u] ∧ Paired F us xs ∧ F u y
  | ts, [], y, h => by
    cases h with
    | cons h hs =>
      cases hs
      exact ⟨[], _, rfl, .nil, h⟩
  | ts, x :: xs, y, h => by
    cases h with
    | cons h hs =>
      obtain ⟨us, u, rfl, h1, h2⟩ := paired_snoc hs
      exact ⟨_ :: us, u, rfl, .cons h h1, h2⟩
theorem paired_app {α β : Type} {F : α → β → Prop} : ∀ {ts us : List α} {xs ys : List β}, Paired F ts xs → Paired F us ys → Paired F (ts ++ us) (xs ++ ys)
  | _, _, _, _, .nil, h => h
  | _, _, _, _, .cons a as, h => .cons a (paired_app as h)
def sizes (ts : List Tr) : Nat := (ts.map Tr.size).sum
section
variable {P : Program} {w : World} {K : PySem.W.Frag} {mg : Str → Option Value} {base : Heap} {fH fP : Addr} {dH dP : FuncData}
abbrev nIsTree : List Str := ["value", "waiting", "many", "part"]
theorem scIsTree : FnScope nIsTree ["value"] (defScope sIsTree) := ⟨rfl, rfl, rfl, by decide +kernel, rfl, by decide +kernel, by decide +kernel⟩
theorem ok_is_tree {f : Addr} {fd : FuncData} (F : Fun K "is_tree" "is_tree" sIsTree f fd) (mp : ∃ u, mg "MAX_PARTS" = some u ∧ RelV (.int 12) u) (A : At P w K mg base 6 "has_form" fH dH ["value"] (spIs noT HasForm)) (B : At P w K mg base 1 "parts_of" fP dP ["tree"] spParts) :
    FnOk P w K mg base CX0 7 f fd ["value"] spTree := by
  refine F.ok scIsTree (fun vs H Q E h => ?_) (fun cdv Ar outer s H vs Q E hr h => ?_)
  · obtain ⟨v, t, rfl, _⟩ := h
    rfl
  · obtain ⟨v, t, rfl, tr, ok, sz, q⟩ := h
    have nd := scIsTree.nd
    refine ⟨_, pss_cons (ps_set (i := 1) nd rfl (Or.inl rfl) (pe_lst (pa_cons (pv 0) pa_nil)))
      (pss_cons (ps_set (i := 2) nd rfl (Or.inl rfl) pe_int)
      (pss_cons (ps_while PassesOwn.never (pt_truth (pv 1) (by intro _; rfl))
        (pss_cons (ps_set (i := 3) nd rfl (Or.inl rfl) (pe_bm0 PySem.F.plainAttrs_list PySem.F.slot_list_pop PySem.F.type_list_pop mt_pop (pv 1)))
        (pss_cons (ps_aug (i := 2) nd rfl (Or.inl rfl) pe_int ip_add)
        (pss_cons (ps_if (PW.pt (pw_or (pt_cmpR op_gt (pv 2) (pe_gcon rfl mp) (nomark _)) (pw_or1 (pt_not (pt_val (pe_call A.g hr rfl A.m A.kp A.b .nil pass0 (pa_cons (pv 3) pa_nil))))))) (pss_one (ps_ret pe_bl)) pss_nil)
        (pss_one (ps_expr (pe_bm PySem.F.plainAttrs_list PySem.F.slot_list_extend PySem.F.type_list_extend mt_extendT (pv 1) (pa_cons (pe_call B.g (hr.mono (by decide)) rfl B.m B.kp B.b .nil pass0 (pa_cons (pv 3) pa_nil)) pa_nil))))))))
      (pss_one (ps_ret pe_bl)))), ?_⟩
    refine ⟨_, rfl, (by show 1 ≤ sizeLine; decide), fun L hL => ?_⟩
    have sL := same_new (o := .lst [v]) hL
    have qL : (upd H L (.lst [v])) L = some (.lst [v]) := upd_same
    generalize upd H L (.lst [v]) = H1 at sL qL
    dsimp only [gName]
    rw [show (L2.start nIsTree [v]).set 1 (some (V.ref L)) = [some v, some (.ref L), none, none] from rfl]
    dsimp only [tSeq, tAsg, tC]
    dsimp only [gName]
    rw [show ([some v, some (V.ref L), none, none] : List (Option V)).set 2 (some (V.int 0)) = [some v, some (.ref L), some (.int (0 : Nat)), none] from rfl]
    refine while_by (fun σ H' => ∃ (ts : List Tr) (xs : List V) (m : Nat) (v3 : Option V), σ = [some v, some (.ref L), some (.int m), v3] ∧ Same H H' ∧ H' L = some (.lst xs) ∧ Paired (TrAt H') ts xs ∧ (∀ u ∈ ts, u.Ok) ∧ m + sizes ts ≤ 12)
      (fun σ _ => match σ with | [_, _, some (.int m), _] => (12 - m).toNat | _ => 0) ⟨[t], [v], 0, none, rfl, sL, qL, .cons (tr.mono (TK.of sL)) .nil, by simpa using ok, by show 0 + (t.size + 0) ≤ 12; omega⟩ ?_ ?_
    · rintro σ H2 ⟨ts, xs, m, v3, rfl, sH, eL, pr, oks, sm⟩
      refine ⟨_, rfl, _, .inl ⟨xs, SqL.of eL, rfl⟩, ?_⟩
      rcases List.eq_nil_or_concat xs with e | ⟨ys, y, e⟩
      · subst e
        exact iteF (q _ sH)
      · rw [List.concat_eq_append] at e
        subst e
        obtain ⟨us, u, rfl, pu, tu⟩ := paired_snoc pr
        have su : sizes (us ++ [u]) = sizes us + u.size := by
          unfold sizes
          rw [List.map_append, List.sum_append]
          show _ + (u.size + 0) = _
          omega
        have u1 := u.size_pos
        have hne : (!(ys ++ [y]).isEmpty) = true := by cases ys <;> rfl
        rw [hne]
        refine iteT ⟨_, rfl, .inl ⟨rfl, _, SqL.of eL⟩, L, _, y, rfl, rfl, eL, by simp, ?_⟩
        rw [List.dropLast_concat]
        have e3 : (upd H2 L (.lst ys)) L = some (.lst ys) := upd_same
        have k3 : TK H2 (upd H2 L (.lst ys)) := TK.lst eL
        have s3 : Same H (upd H2 L (.lst ys)) := fun b o e => by
          rw [upd_ne (ne_of_none e hL)]
          exact sH b o e
        generalize upd H2 L (.lst ys) = H3 at e3 k3 s3
        have tu := tu.mono k3
        have ou := oks u (by simp)
        refine ⟨_, rfl, _, _, rfl, rfl, ?_⟩
        refine ⟨_, rfl, _, _, rfl, rfl, _, rfl, ?_⟩
        rw [decide_eq_false (by omega : ¬ ((12 : Int) < (m : Int) + 1))]
        refine iteF ⟨_, rfl, y, [], H3, 1000, _, rfl, Ob.refl _ _, Nat.le_refl _, tr_dat ou tu, fun H4 b s4 hb => ⟨b, rfl, ?_⟩⟩
        rw [hb.mpr (tr_has ou tu)]
        obtain ⟨a, ks, zs, ps, rfl, f2, f3, f4, _, f6, f7⟩ := tr_form ou tu
        have f2 := s4 _ _ f2
        have e4 := s4 _ _ e3
        refine iteF ⟨_, rfl, .inl ⟨rfl, _, SqL.of e4⟩, _, rfl, a, _, ks, zs, rfl, f2, f3, f4, fun H5 b s5 hb5 e5 => ?_⟩
        have e5' := s5 _ _ e4
        rw [f6] at e5
        have l1 : ys.length ≤ 12 := by
          have g : ∀ {us : List Tr} {ys : List V}, Paired (TrAt H2) us ys → ys.length ≤ sizes us := by
            intro us ys h
            induction h with
            | nil => exact Nat.zero_le _
            | @cons c z cs zs h hs ih =>
              have := c.size_pos
              show zs.length + 1 ≤ c.size + sizes cs
              omega
          have := g pu
          omega
        have l2 : ps.length ≤ 3 := by
          have := parts_len ks zs
          rw [f6] at this
          exact Nat.le_trans this (sig_len _ f3)
        refine ⟨L, b, ys, ps, rfl, rfl, e5', SqT.of e5, Nat.le_trans (by omega : ys.length + ps.length ≤ 15) (by decide), ?_⟩
        have k5 : TK H3 H5 := (TK.of s4).trans (TK.of s5)
        have k6 : TK H5 (upd H5 L (.lst (ys ++ ps))) := TK.lst e5'
        have sz := u.size_parts
        refine ⟨⟨us ++ u.parts, ys ++ ps, m + 1, _, rfl, fun b o e => ?_, upd_same, paired_app (paired_mono (fun _ _ => TrAt.mono (k3.trans (k5.trans k6))) pu) (paired_mono (fun _ _ => TrAt.mono (k5.trans k6)) f7), fun z hz => ?_, ?_⟩, ?_⟩
        · rw [upd_ne (ne_of_none e hL)]
          exact s5 _ _ (s4 _ _ (s3 b o e))
        · rcases List.mem_append.mp hz with hz | hz
          · exact oks z (by simp [hz])
          · exact ou.parts z hz
        · have : sizes (us ++ u.parts) = sizes us + sizes u.parts := by
            unfold sizes
            rw [List.map_append, List.sum_append]
          have s2 : u.size = 1 + sizes u.parts := sz
          omega
        · show (12 - ((m : Int) + 1)).toNat < (12 - (m : Int)).toNat
          omega
    · intro σ H Q Q' hq h
      obtain ⟨x, e, k, tv, r⟩ := h
      exact ⟨x, e, k, tv, hq _ _ r⟩
end
end Wd

set_option Elab.async false
set_option linter.all false
set_option maxRecDepth 100000
set_option maxHeartbeats 4000000
set_option pp.maxSteps 400
set_option pp.deepTerms false
namespace Wd
open PySem L2 TL
open SX (S)
/-! ### numbers -/
theorem num_head : ∀ n : Nat, n ≠ 0 → ∀ c, (numL n)[0]? = some c → c ≠ 48 := by
  intro n
  induction n using Nat.strongRecOn with
  | _ n ih =>
    intro h0 c hc
    by_cases h : n < 10
    · rw [numL_lt h] at hc
      cases hc
      omega
    · rw [numL_step (by omega)] at hc
      have ne := numL_ne (n / 10)
      have hl : 0 < (numL (n / 10)).length := List.length_pos_iff.mpr ne
      rw [List.getElem?_append_left hl] at hc
      exact ih (n / 10) (by omega) (by omega) c hc
structure NTxt (mg : Str → Option Value) : Prop where
  len : mg "len" = none
  all : mg "all" = none
  int : mg "int" = none
  str : mg "str" = none
  tup : mg "tuple" = none
  range : mg "range" = none
  md : ∃ u, mg "MAX_DIGITS" = some u ∧ RelV (.int 60) u
  dg : ∃ u, mg "DIGITS" = some u ∧ RelV (.str (Str.ofString "0123456789")) u
  em : ∃ u, mg "EMPTY" = some u ∧ RelV (.str (S [45])) u
/-- the text of a number is read as this number -/
def spNum : Sp := fun vs H Q _ => ∃ n : Nat, vs = [.str (S (numL n))] ∧ (numL n).length ≤ 60 ∧ ∀ H', Same H H' → Q (.int n) H'
theorem digit_mem {c : Nat} (h : 48 ≤ c ∧ c ≤ 57) : c ∈ (Str.ofString "0123456789").cps.toList := by
  have e : (Str.ofString "0123456789").cps.toList = [48, 49, 50, 51, 52, 53, 54, 55, 56, 57] := by decide +kernel
  rw [e]
  have : c = 48 ∨ c = 49 ∨ c = 50 ∨ c = 51 ∨ c = 52 ∨ c = 53 ∨ c = 54 ∨ c = 55 ∨ c = 56 ∨ c = 57 := by omega
  simp
  omega
section
variable {P : Program} {w : World} {K : PySem.W.Frag} {mg : Str → Option Value} {base : Heap}
abbrev nReadNum : List Str := ["word", "sign"]
theorem scReadNum : FnScope nReadNum ["word"] (defScope sReadNumber) := ⟨rfl, rfl, rfl, by decide +kernel, rfl, by decide +kernel, by decide +kernel⟩
theorem ok_read_number {f : Addr} {fd : FuncData} (F : Fun K "read_number" "read_number" sReadNumber f fd) (X : NTxt mg) : FnOk P w K mg base CX0 1 f fd ["word"] spNum := by
  refine F.ok scReadNum (fun vs H Q E h => ?_) (fun cdv Ar outer s H vs Q E hr h => ?_)
  · obtain ⟨n, rfl, _⟩ := h
    rfl
  · obtain ⟨n, rfl, ln, q⟩ := h
    have nd := scReadNum.nd
    refine ⟨_, pss_cons (ps_if (PW.pt (pw_or (pt_cmpR op_eq (pv 0) pe_str (nomark _)) (pw_or (pt_cmpR op_gt (pe_callB call_len_str (by rfl) X.len PySem.boot_len (pa_cons (pv 0) pa_nil)) (pe_gcon rfl X.md) (nomark _)) (pw_or1 (pt_not (pt_val (pe_callB (cr_all rfl) (by rfl) X.all (by decide +kernel)
          (pa_cons (pe_lc (own := [("sign", 1)]) (g := gName 1) (tt := tYes) rfl nd (pi_str (pv 0)) (blkOk_by (N := nReadNum) (sc := defScope sReadNumber) (by decide +kernel)) (fun _ _ _ _ _ => pg_name (i := 1) nd rfl (Or.inl rfl)) (fun _ _ _ _ _ => pts_nil)
            (fun _ _ _ _ _ => pe_cmpR op_in_sign (pv 1) (pe_gcon rfl X.dg) (by rfl))) pa_nil))))))))
          (pss_one (ps_ret pe_non)) pss_nil)
      (pss_one (ps_ret (pe_ifExp (PW.pt (pw_or (pt_cmpR op_eq (pv 0) pe_str (nomark _)) (pw_or1 (pt_cmpR op_ne (pe_ix ix_str (pv 0) pe_int (fun _ _ => rfl)) pe_str (nomark _))))) (pe_callTy call_int_str (by rfl) X.int (by decide +kernel) (pa_cons (pv 0) pa_nil)) pe_non))), ?_⟩
    have lS : (S (numL n)).length = (numL n).length := SX.S_len _
    have lz : (S (numL n)).length ≤ sizeLine := by rw [lS]; exact Nat.le_of_lt (small1000 (by omega))
    have ne := numL_ne n
    have n0 : decide (V.str (S (numL n)) = .str (Str.ofString "")) = false := decide_eq_false fun e => ne (V_S.mp (show V.str (S (numL n)) = V.str (S []) from e))
    refine ⟨_, rfl, rfl, _, rfl, ?_⟩
    rw [n0]
    refine iteF ⟨_, rfl, _, rfl, lz, _, _, rfl, rfl, _, rfl, ?_⟩
    rw [decide_eq_false (by rw [lS]; omega : ¬ ((60 : Int) < ((S (numL n)).length : Nat)))]
    refine iteF ⟨_, rfl, _, rfl, fun D hD => ?_⟩
    refine lc_bools (walk_str (z := S (numL n))) (fun i => True) hD (by show (numL n).length ≤ 1000; omega) (fun _ _ => trivial) ?_ ?_
    · rintro i x H1 H' kk hi s1 ⟨rfl, c, hc, rfl⟩ h
      have dc := numL_digits n c (by
        have := Array.mem_of_getElem? hc
        simpa [S] using this)
      refine ⟨rfl, _, rfl, c, _, rfl, rfl, h _ _ (Same.refl _) ?_⟩
      rw [decide_eq_true (digit_mem dc)]
      exact ⟨fun _ => trivial, fun _ => rfl⟩
    · rintro H1 bs s1 hD1 hb
      refine ⟨D, bs, rfl, SqL.of hD1, _, rfl, ?_⟩
      rw [hb.mpr fun _ _ => trivial]
      refine iteF ?_
      have last : (∃ a n1, [V.str (S (numL n))] = [.str a] ∧ PySem.intText? a = some n1 ∧ a.length ≤ 640 ∧ Q (.int n1) H1) := by
        refine ⟨_, n, rfl, ?_, by rw [lS]; omega, q _ s1⟩
        rw [← SX.num_S]
        exact int_num (by omega)
      refine ⟨_, rfl, rfl, _, rfl, ?_⟩
      refine ite2 (fun c => iteT ⟨_, rfl, last⟩) (fun c => ?_)
      have nz : n ≠ 0 := fun e => by
        refine c (decide_eq_true ?_)
        rw [e]
        rfl
      obtain ⟨c0, hc0⟩ : ∃ c0, (numL n)[0]? = some c0 := ⟨(numL n)[0]'(List.length_pos_iff.mpr ne), List.getElem?_eq_getElem _⟩
      have h48 := num_head n nz c0 hc0
      refine ⟨_, rfl, _, 0, c0, rfl, rfl, lz, atI_nat (j := 0) (by simpa [S] using hc0), rfl, _, rfl, ?_⟩
      rw [decide_eq_false fun e => h48 (by
        have := V_S.mp (show V.str (S [c0]) = V.str (S [48]) from e)
        simpa using this)]
      exact iteT ⟨_, rfl, last⟩
end
end Wd

set_option Elab.async false
set_option linter.all false
set_option maxRecDepth 100000
set_option maxHeartbeats 4000000
set_option pp.maxSteps 400
set_option pp.deepTerms false
namespace Wd
open PySem L2 TL
open SX (S)
/-! ### pairs of tables -/
def spPair : Sp := fun vs H Q _ => ∃ e : Ent, vs = [.str (S (entL e))] ∧ e.Ok ∧ ∀ H' x, Same H H' → EntAt H' e x → Q x H'
def spHalf : Sp := fun vs H Q _ => ∃ (p : Addr) (n : Nat) (o : Option Nat), vs = [.ref p] ∧ H p = some (.tup [.int n, .str (S (optL o))]) ∧ n ≤ 8 ∧ ∀ H', Same H H' → Q (.str (S (numL n ++ [o.getD 45]))) H'
theorem entL_four {e : Ent} (o : e.Ok) : entL e = [48 + e.s, e.l, 48 + e.t, e.o.getD 45] := by
  unfold entL
  rw [numL_lt (Nat.lt_of_le_of_lt o.s (by decide)), numL_lt (Nat.lt_of_le_of_lt o.t (by decide))]
  rfl
section
variable {P : Program} {w : World} {K : PySem.W.Frag} {mg : Str → Option Value} {base : Heap} {fN fA : Addr} {dN dA : FuncData}
abbrev nReadPair : List Str := ["word", "other"]
theorem scReadPair : FnScope nReadPair ["word"] (defScope sReadPair) := ⟨rfl, rfl, rfl, by decide +kernel, rfl, by decide +kernel, by decide +kernel⟩
theorem ok_read_pair {f : Addr} {fd : FuncData} (F : Fun K "read_pair" "read_pair" sReadPair f fd) (X : NTxt mg) (N : At P w K mg base 1 "read_number" fN dN ["word"] spNum) : FnOk P w K mg base CX0 2 f fd ["word"] spPair := by
  refine F.ok scReadPair (fun vs H Q E h => ?_) (fun cdv Ar outer s H vs Q E hr h => ?_)
  · obtain ⟨e, rfl, _⟩ := h
    rfl
  · obtain ⟨e, rfl, o, q⟩ := h
    have nd := scReadPair.nd
    refine ⟨_, pss_cons (ps_if (pt_cmpR op_ne (pe_callB call_len_str (by rfl) X.len PySem.boot_len (pa_cons (pv 0) pa_nil)) pe_int (nomark _)) (pss_one (ps_ret pe_non)) pss_nil)
      (pss_cons (ps_set (i := 1) nd rfl (Or.inl rfl) (pe_ifExp (pt_cmpR op_eq (pe_ix ix_str (pv 0) pe_int (fun _ _ => rfl)) (pe_gcon rfl X.em) (nomark _)) pe_str (pe_ix ix_str (pv 0) pe_int (fun _ _ => rfl))))
      (pss_one (ps_ret (pe_tup (pa_cons (pe_tup (pa_cons (pe_call N.g hr rfl N.m N.kp N.b .nil pass0 (pa_cons (pe_ix ix_str (pv 0) pe_int (fun _ _ => rfl)) pa_nil)) (pa_cons (pe_ix ix_str (pv 0) pe_int (fun _ _ => rfl)) pa_nil)))
        (pa_cons (pe_tup (pa_cons (pe_call N.g hr rfl N.m N.kp N.b .nil pass0 (pa_cons (pe_ix ix_str (pv 0) pe_int (fun _ _ => rfl)) pa_nil)) (pa_cons (pv 1) pa_nil))) pa_nil)))))), ?_⟩
    rw [entL_four o]
    have lz : (S [48 + e.s, e.l, 48 + e.t, e.o.getD 45]).length ≤ sizeLine := by show 4 ≤ sizeLine; decide
    have at_ : ∀ {j : Nat} {c : Nat}, [48 + e.s, e.l, 48 + e.t, e.o.getD 45][j]? = some c → atI (S [48 + e.s, e.l, 48 + e.t, e.o.getD 45]).cps.toList (j : Int) = some c := fun {j c} h => atI_nat (by simpa [S] using h)
    refine ⟨_, rfl, _, rfl, lz, rfl, _, rfl, ?_⟩
    refine iteF ?_
    have fin : ∀ v1 : V, v1 = .str (S (optL e.o)) → tRet (tTup (tCons (tTup (tCons (tCall spNum [] E0 (tCons (tOp rIxS (tVar 0) (tC (.int 0))) tNil)) (tCons (tOp rIxS (tVar 0) (tC (.int 1))) tNil)))
        (tCons (tTup (tCons (tCall spNum [] E0 (tCons (tOp rIxS (tVar 0) (tC (.int 2))) tNil)) (tCons (tVar 1) tNil))) tNil))) { nx := fun _ H' => Q .non H', rt := Q } [some (.str (S [48 + e.s, e.l, 48 + e.t, e.o.getD 45])), some v1] H := by
      rintro v1 rfl
      refine ⟨_, rfl, _, 0, _, rfl, rfl, lz, at_ (j := 0) rfl, ?_⟩
      dsimp only [tNil, List.append_nil]
      refine ⟨e.s, ?_, ?_, fun H1 s1 => ?_⟩
      · rw [numL_lt (Nat.lt_of_le_of_lt o.s (by decide))]
        rfl
      · rw [numL_lt (Nat.lt_of_le_of_lt o.s (by decide))]
        show 1 ≤ 60
        decide
      refine ⟨_, rfl, _, 1, _, rfl, rfl, lz, at_ (j := 1) rfl, by show 2 ≤ sizeLine; decide, fun p hp => ?_⟩
      refine ⟨_, rfl, _, 2, _, rfl, rfl, lz, at_ (j := 2) rfl, ?_⟩
      dsimp only [tNil, List.append_nil]
      refine ⟨e.t, ?_, ?_, fun H3 s3 => ?_⟩
      · rw [numL_lt (Nat.lt_of_le_of_lt o.t (by decide))]
        rfl
      · rw [numL_lt (Nat.lt_of_le_of_lt o.t (by decide))]
        show 1 ≤ 60
        decide
      refine ⟨_, rfl, by show 2 ≤ sizeLine; decide, fun p2 hp2 => ?_⟩
      refine ⟨by show 2 ≤ sizeLine; decide, fun p3 hp3 => ?_⟩
      have a2 := same_new (o := .tup [.int e.s, .str (S [e.l])]) hp
      have a4 := same_new (o := .tup [.int e.t, .str (S (optL e.o))]) hp2
      have a5 := same_new (o := .tup [.ref p, .ref p2]) hp3
      exact q _ _ (((s1.trans a2).trans s3).trans (a4.trans a5)) ⟨p3, p, p2, rfl, upd_same, (s3.trans (a4.trans a5)) _ _ upd_same, a5 _ _ upd_same⟩
    have two : e.o = none ∨ ∃ c, e.o = some c := by
      cases e.o with
      | none => exact .inl rfl
      | some c => exact .inr ⟨c, rfl⟩
    rcases two with ho | ⟨c, ho⟩
    · exact ⟨_, rfl, _, 3, 45, rfl, rfl, lz, at_ (j := 3) (by rw [ho]; rfl), rfl, _, rfl, iteT (fin (.str (S [])) (by rw [ho]; rfl))⟩
    · have hc := o.o c ho
      refine ⟨_, rfl, _, 3, c, rfl, rfl, lz, at_ (j := 3) (by rw [ho]; rfl), rfl, _, rfl, ?_⟩
      rw [decide_eq_false fun e2 => (by unfold low at hc; have := V_S.mp (show V.str (S [c]) = V.str (S [45]) from e2); simp at this; omega)]
      exact iteF ⟨_, rfl, _, 3, c, rfl, rfl, lz, at_ (j := 3) (by rw [ho]; rfl), fin (.str (S [c])) (by rw [ho]; rfl)⟩
end
end Wd

set_option Elab.async false
set_option linter.all false
set_option maxRecDepth 100000
set_option maxHeartbeats 4000000
set_option pp.maxSteps 400
set_option pp.deepTerms false
namespace Wd
open PySem L2 TL
open SX (S)
theorem lc_keepW {J : It} {n : Nat} {G : Hp → Prop} {Y : Nat → Hp → V → Hp → Prop} (w : Walk J n G Y) (R : Nat → Hp → V → Prop) (hR : ∀ i H H' y, TK H H' → R i H y → R i H' y) {g : TG} {te : TE} {vs : List Nat} {σ : L2.St} {H1 : Hp} {D : Addr} {Qd : Hp → Prop}
    (hD : H1 D = none) (hn : n ≤ 1000) (hG : ∀ H, Same H1 H → G H)
    (hs : ∀ i x H H' (kT : VK), i < n → Same H1 H → Y i H x H' → (∀ y H4, Same H H4 → R i H4 y → kT y H4) → g x (wipe σ vs) H' fun σ2 H2 => wipe σ2 vs = wipe σ vs ∧ te σ2 H2 kT)
    (hd : ∀ H ys, Same H1 H → H D = some (.lst ys) → ys.length = n → (∀ (i : Nat) y, ys[i]? = some y → R i H y) → Qd H) :
    ∃ W : Nat → Nat → Hp → Prop, (∃ m, W 0 m (upd H1 D (.lst []))) ∧ ∀ i m H, W i m H →
      (J.stop i H ∧ Qd H) ∨ (J.go i H ∧ ∃ Nx : Hp → Prop, (∀ H', Nx H' → ∃ m', m' < m ∧ W (i + 1) m' H') ∧ ∀ x H', J.yld i H x H' → g x (wipe σ vs) H' fun σ2 H2 => wipe σ2 vs = wipe σ vs ∧ tYes σ2 H2 fun b H3 =>
        if b = true then te σ2 H3 fun y H4 => ∃ acc, H4 D = some (.lst acc) ∧ acc.length < sizeLine ∧ Nx (upd H4 D (.lst (acc ++ [y]))) else Nx H3) := by
  have past : ∀ {H : Hp} {o : HO}, Same H1 H → Same H1 (upd H D o) := fun s b u e => by
    rw [upd_ne (ne_of_none e hD)]
    exact s _ _ e
  refine lc_it w (fun i H => Same H1 H ∧ ∃ ys, H D = some (.lst ys) ∧ ys.length = i ∧ ∀ (j : Nat) y, ys[j]? = some y → R j H y) ⟨past (Same.refl _), [], upd_same, rfl, fun j y e => by simp at e⟩ (fun i H _ ⟨s, _⟩ => hG H s) ?_
    (fun H ⟨s, ys, d, l, p⟩ => hd H ys s d l p)
  rintro i x H H' hi ⟨s, ys, d, l, p⟩ y
  refine hs i x H H' _ hi s y fun z H4 s4 r => ⟨ys, s4 _ _ d, small1000 (by omega), past (s.trans s4), ys ++ [z], upd_same, by simp; omega, fun j u e => ?_⟩
  have kp : TK H4 (upd H4 D (.lst (ys ++ [z]))) := TK.lst (s4 _ _ d)
  by_cases hj : j < ys.length
  · rw [List.getElem?_append_left hj] at e
    exact hR j _ _ u ((TK.of s4).trans kp) (p j u e)
  · rw [List.getElem?_append_right (by omega)] at e
    have hj0 : j - ys.length = 0 := by
      have := (List.getElem?_eq_some_iff.mp e).1
      simp at this
      omega
    rw [hj0] at e
    simp at e
    subst e
    obtain rfl : j = i := by omega
    exact hR j _ _ z kp r

/-- .. of texts -/
theorem lc_texts {J : It} {n : Nat} {G : Hp → Prop} {Y : Nat → Hp → V → Hp → Prop} (w : Walk J n G Y) (ws : List (List Nat)) (hw : ws.length = n) {g : TG} {te : TE} {vs : List Nat} {σ : L2.St} {H1 : Hp} {D : Addr} {Qd : Hp → Prop}
    (hD : H1 D = none) (hn : n ≤ 1000) (hG : ∀ H, Same H1 H → G H)
    (hs : ∀ i x H H' (kT : VK) (hi : i < ws.length), Same H1 H → Y i H x H' → (∀ H4, Same H H4 → kT (.str (S ws[i])) H4) → g x (wipe σ vs) H' fun σ2 H2 => wipe σ2 vs = wipe σ vs ∧ te σ2 H2 kT)
    (hd : ∀ H, Same H1 H → H D = some (.lst (wV ws)) → Qd H) :
    ∃ W : Nat → Nat → Hp → Prop, (∃ m, W 0 m (upd H1 D (.lst []))) ∧ ∀ i m H, W i m H →
      (J.stop i H ∧ Qd H) ∨ (J.go i H ∧ ∃ Nx : Hp → Prop, (∀ H', Nx H' → ∃ m', m' < m ∧ W (i + 1) m' H') ∧ ∀ x H', J.yld i H x H' → g x (wipe σ vs) H' fun σ2 H2 => wipe σ2 vs = wipe σ vs ∧ tYes σ2 H2 fun b H3 =>
        if b = true then te σ2 H3 fun y H4 => ∃ acc, H4 D = some (.lst acc) ∧ acc.length < sizeLine ∧ Nx (upd H4 D (.lst (acc ++ [y]))) else Nx H3) :=
  lc_keepW w (fun i _ y => (wV ws)[i]? = some y) (fun _ _ _ _ _ h => h) hD hn hG (fun i x H H' kT hi s y h => hs i x H H' kT (by omega) s y fun H4 s4 => h _ H4 s4 (wV_get (by omega)))
    fun H ys s d l r => hd H s (by
      rw [d]
      congr 2
      refine List.ext_getElem? fun k => ?_
      by_cases hk : k < ys.length
      · rw [List.getElem?_eq_getElem hk]
        exact (r k _ (List.getElem?_eq_getElem hk)).symm
      · rw [List.getElem?_eq_none (by omega), List.getElem?_eq_none (by rw [wV_len]; omega)])
def spArgText : Sp := fun vs H Q _ => ∃ (v : V) (kd : Kind) (a : Ar), vs = [v, .str kd.str] ∧ a.Ok kd ∧ ArAt H a v ∧ ∀ H', Same H H' → Q (.str (S a.text)) H'
section
variable {P : Program} {w : World} {K : PySem.W.Frag} {mg : Str → Option Value} {base : Heap} {fH : Addr} {dH : FuncData}
abbrev nHalf : List Str := ["half", "state", "letter"]
theorem scHalf : FnScope nHalf ["half"] (defScope sHalfText) := ⟨rfl, rfl, rfl, by decide +kernel, rfl, by decide +kernel, by decide +kernel⟩
theorem log_small {n : Nat} (h : n < 2 ^ 1900) : (n : Int).natAbs.log2 < 1920 := by
  have e : (n : Int).natAbs = n := Int.natAbs_natCast n
  rw [e]
  by_cases h0 : n = 0
  · subst h0
    decide
  · have := (Nat.log2_lt h0).mpr h
    omega
theorem ok_half {f : Addr} {fd : FuncData} (F : Fun K "half_text" "half_text" sHalfText f fd) (X : NTxt mg) : FnOk P w K mg base CX0 1 f fd ["half"] spHalf := by
  refine F.ok scHalf (fun vs H Q E h => ?_) (fun cdv Ar outer s H vs Q E hr h => ?_)
  · obtain ⟨p, n, o, rfl, _⟩ := h
    rfl
  · obtain ⟨p, n, o, rfl, ep, hn, q⟩ := h
    have nd := scHalf.nd
    refine ⟨_, pss_cons (ps_asg (pv 0) (pg_tup rfl (pgs_cons (pg_name (i := 1) nd rfl (Or.inl rfl)) (pgs_cons (pg_name (i := 2) nd rfl (Or.inl rfl)) pgs_nil))))
      (pss_one (ps_ret (pe_op op_add_str (pe_callTy call_str_int (by rfl) X.str (by decide +kernel) (pa_cons (pv 1) pa_nil)) (pe_ifExp (pt_cmpR op_eq (pv 2) pe_str (nomark _)) (pe_gcon rfl X.em) (pv 2))))), ?_⟩
    have fin : ∀ y : V, y = .str (S [o.getD 45]) → ∃ i j : Str, V.str (toString (n : Int)) = .str i ∧ y = .str j ∧ i.length + j.length ≤ sizeLine ∧ Q (.str (i ++ j)) H := by
      rintro y rfl
      refine ⟨_, _, rfl, rfl, ?_, ?_⟩
      · rw [show (toString (n : Int) : Str) = S (numL n) from SX.num_S n, SX.S_len, SX.S_len, numL_lt (by omega)]
        show 1 + 1 ≤ _
        decide
      · rw [show (toString (n : Int) : Str) = S (numL n) from SX.num_S n, SX.S_cat]
        exact q _ (Same.refl _)
    refine ⟨_, rfl, p, _, rfl, SqT.of ep, rfl, _, _, rfl, _, _, rfl, rfl, ?_⟩
    refine ⟨_, rfl, _, rfl, log_small (Nat.lt_of_le_of_lt hn (by decide)), ?_⟩
    cases o with
    | none => exact ⟨_, rfl, rfl, _, rfl, iteT (fin _ rfl)⟩
    | some c =>
      refine ⟨_, rfl, rfl, _, rfl, ?_⟩
      rw [decide_eq_false fun e => (by have := V_S.mp (show V.str (S [c]) = V.str (S []) from e); cases this)]
      exact iteF ⟨_, rfl, fin _ rfl⟩
end
end Wd

set_option Elab.async false
set_option linter.all false
set_option maxRecDepth 100000
set_option maxHeartbeats 4000000
set_option pp.maxSteps 400
set_option pp.deepTerms false
namespace Wd
open PySem L2 TL
open SX (S)

/-- a test of two texts that are not alike -/
theorem ifNe {a b : Str} {A B : Prop} (h : (a == b) = false) (q : B) : if decide (V.str a = V.str b) = true then A else B := by
  rw [if_neg fun z => (by
    have e := of_decide_eq_true z
    injection e with e
    rw [e, beq_self_eq_true] at h
    cases h)]
  exact q
theorem paired_get {α β : Type} {F : α → β → Prop} : ∀ {xs : List α} {ys : List β}, Paired F xs ys → ∀ {i : Nat} {x : α} {y : β}, xs[i]? = some x → ys[i]? = some y → F x y
  | _, _, .nil, i, x, y, h, _ => by simp at h
  | _, _, .cons a as, 0, x, y, h1, h2 => by
    cases h1
    cases h2
    exact a
  | _, _, .cons a as, i + 1, x, y, h1, h2 => paired_get as (i := i) h1 h2
theorem join_len {s : Nat} : ∀ {xs : List (List Nat)}, (joinL [s] xs).length ≤ (xs.map (·.length)).sum + xs.length
  | [] => Nat.le_refl _
  | [x] => by
    show x.length ≤ x.length + 0 + 1
    omega
  | x :: y :: r => by
    have h := join_len (s := s) (xs := y :: r)
    show (x ++ ([s] ++ joinL [s] (y :: r))).length ≤ _
    have e : (x :: y :: r).length = (y :: r).length + 1 := rfl
    rw [List.length_append, List.length_append, List.map_cons, List.sum_cons, e]
    show _ + (1 + _) ≤ _
    omega
theorem sum_le {xs : List (List Nat)} {m : Nat} (h : ∀ x ∈ xs, x.length ≤ m) : (xs.map (·.length)).sum ≤ xs.length * m := by
  induction xs with
  | nil => simp
  | cons x xs ih =>
    have := ih fun y hy => h y (by simp [hy])
    have h1 := h x (by simp)
    rw [List.map_cons, List.sum_cons, List.length_cons, Nat.add_mul]
    omega
section
variable {P : Program} {w : World} {K : PySem.W.Frag} {mg : Str → Option Value} {base : Heap} {fH : Addr} {dH : FuncData}
abbrev nArgText : List Str := ["value", "kind", "place", "one", "other"]
theorem scArgText : FnScope nArgText ["value", "kind"] (defScope sArgumentText) := ⟨rfl, rfl, rfl, by decide +kernel, rfl, by decide +kernel, by decide +kernel⟩
theorem ok_argument_text {f : Addr} {fd : FuncData} (F : Fun K "argument_text" "argument_text" sArgumentText f fd) (X : NTxt mg) (B : At P w K mg base 1 "half_text" fH dH ["half"] spHalf) : FnOk P w K mg base CX0 2 f fd ["value", "kind"] spArgText := by
  refine F.ok scArgText (fun vs H Q E h => ?_) (fun cdv Ao outer s H vs Q E hr h => ?_)
  · obtain ⟨v, kd, a, rfl, _⟩ := h
    rfl
  · obtain ⟨v, kd, a, rfl, o, at_, q⟩ := h
    have nd := scArgText.nd
    refine ⟨_, pss_cons (ps_if (pt_cmpR op_eq (pv 1) pe_str (nomark _)) (pss_one (ps_ret (pe_join pe_str (pv 0)))) pss_nil)
      (pss_cons (ps_if (pt_cmpR op_eq (pv 1) pe_str (nomark _)) (pss_one (ps_ret (pv 0))) pss_nil)
      (pss_cons (ps_if (pt_cmpR op_eq (pv 1) pe_str (nomark _)) (pss_one (ps_ret (pe_ifExp (pt_cmpR op_gt (pe_callB call_len_seq (by rfl) X.len PySem.boot_len (pa_cons (pv 0) pa_nil)) pe_int (nomark _))
          (pe_join pe_str (pe_lc (own := [("place", 2)]) (g := gName 2) (tt := tYes) rfl nd (pi_tup (pv 0)) (blkOk_by (N := nArgText) (sc := defScope sArgumentText) (by decide +kernel)) (fun _ _ _ _ _ => pg_name (i := 2) nd rfl (Or.inl rfl)) (fun _ _ _ _ _ => pts_nil)
            (fun _ _ _ _ _ => pe_callTy call_str_int (by rfl) X.str (by decide +kernel) (pa_cons (pv 2) pa_nil)))) (pe_gcon rfl X.em)))) pss_nil)
      (pss_cons (ps_if (pt_cmpR op_eq (pv 1) pe_str (nomark _)) (pss_one (ps_ret (pe_join pe_str (pe_lc (own := [("one", 3), ("other", 4)]) (g := gTup K 2 (gCons (gName 3) (gCons (gName 4) gNil))) (tt := tYes) rfl nd (pi_tup (pv 0)) (blkOk_by (N := nArgText) (sc := defScope sArgumentText) (by decide +kernel))
            (fun _ _ _ _ _ => pg_tup rfl (pgs_cons (pg_name (i := 3) nd rfl (Or.inl rfl)) (pgs_cons (pg_name (i := 4) nd rfl (Or.inl rfl)) pgs_nil))) (fun _ _ _ _ _ => pts_nil)
            (fun _ _ _ _ _ => pe_op op_add_str (pe_call B.g hr rfl B.m B.kp B.b .nil pass0 (pa_cons (pv 3) pa_nil)) (pe_call B.g hr rfl B.m B.kp B.b .nil pass0 (pa_cons (pv 4) pa_nil))))))) pss_nil)
      (pss_one (ps_ret (pe_callTy call_str_int (by rfl) X.str (by decide +kernel) (pa_cons (pv 0) pa_nil))))))), ?_⟩
    have num : ∀ n : Nat, n ≤ maxD → v = .int n → (∀ H', Same H H' → Q (.str (S (numL n))) H') → ∃ i : Int, [v] = [.int i] ∧ i.natAbs.log2 < 1920 ∧ Q (.str (toString i)) H := fun n hn e qn => by
      refine ⟨n, by rw [e], log_small (Nat.lt_of_le_of_lt hn (by decide +kernel)), ?_⟩
      rw [show (toString (n : Int) : Str) = S (numL n) from SX.num_S n]
      exact qn _ (Same.refl _)
    cases kd with
    | name => cases a <;> exact o.elim
    | letter =>
      cases a with
      | ltr c =>
        have e : v = .str (S [c]) := at_
        subst e
        exact ⟨_, rfl, rfl, _, rfl, ifNe rfl ⟨_, rfl, rfl, _, rfl, iteT ⟨_, rfl, q _ (Same.refl _)⟩⟩⟩
      | _ => exact o.elim
    | letters =>
      cases a with
      | lets cs =>
        obtain ⟨p, rfl, ep⟩ := at_
        have l26 := letters_len (show Letters cs from o)
        refine ⟨_, rfl, rfl, _, rfl, iteT ⟨⟨_, rfl⟩, _, rfl, _, p, (cs.map fun c => [c]).map S, rfl, rfl, .inr (SqT.of (by rw [ep]; congr 2; unfold letV; rw [List.map_map, List.map_map]; rfl)), ?_, ?_⟩⟩
        · rw [SX.lens, List.length_map, List.length_map]
          have := sum_le (xs := cs.map fun c => [c]) (m := 1) fun x hx => by
            obtain ⟨c, _, rfl⟩ := List.mem_map.mp hx
            exact Nat.le_refl _
          rw [List.length_map] at this
          show _ + _ * 0 ≤ _
          omega
        · have e := SX.join_S [] (cs.map fun c => [c])
          have e2 : joinL [] (cs.map fun c => [c]) = cs := by
            have g : ∀ zs : List (List Nat), joinL [] zs = zs.flatten := by
              intro zs
              induction zs with
              | nil => rfl
              | cons z zs ih =>
                cases zs with
                | nil => simp [joinL]
                | cons y ys =>
                  show z ++ ([] ++ joinL [] (y :: ys)) = z ++ (y :: ys).flatten
                  rw [ih, List.nil_append]
            rw [g]
            clear e ep l26 o q num g
            induction cs with
            | nil => rfl
            | cons c cs ih => exact congrArg (c :: ·) ih
          rw [e2] at e
          show Q (V.str (Txt.join (S []) _)) H
          rw [e]
          exact q _ (Same.refl _)
      | _ => exact o.elim
    | places =>
      cases a with
      | places ps =>
        obtain ⟨p, rfl, ep⟩ := at_
        have o1 : ps.length ≤ 4 := o.1
        have o2 : ∀ x ∈ ps, x ≤ 3 := o.2
        have lp : (numV ps).length = ps.length := List.length_map _
        refine ⟨_, rfl, rfl, _, rfl, ifNe rfl ⟨_, rfl, rfl, _, rfl, ifNe rfl ⟨_, rfl, rfl, _, rfl, iteT ⟨_, rfl, p, _, rfl, .inr (SqT.of ep), _, _, rfl, rfl, _, rfl, ?_⟩⟩⟩⟩
        refine ite2 (fun c => ?_) (fun c => ?_)
        · have ne : ps ≠ [] := fun e => by
            have := of_decide_eq_true c
            rw [lp, e] at this
            exact absurd this (by decide)
          refine ⟨⟨_, rfl⟩, _, rfl, p, rfl, ⟨_, SqT.of ep⟩, fun D hD => ?_⟩
          refine lc_texts (n := (numV ps).length) (walk_tup (K := K) (xs := numV ps) (a := p)) (ps.map numL) (by rw [List.length_map, lp]) hD (by omega) (fun H5 s5 => SqT.of (s5 _ _ ep)) ?_ ?_
          · rintro i x H5 H' kT hi s5 ⟨rfl, hx⟩ h
            rw [List.length_map] at hi
            unfold numV at hx
            rw [List.getElem?_map, List.getElem?_eq_getElem hi] at hx
            cases hx
            have := o2 _ (List.getElem_mem hi)
            refine ⟨rfl, _, rfl, (ps[i] : Int), rfl, log_small (Nat.lt_of_le_of_lt this (by decide +kernel)), ?_⟩
            have z := h _ (Same.refl _)
            rw [List.getElem_map, ← SX.num_S] at z
            exact z
          · intro H5 s5 e5
            refine ⟨_, D, (ps.map numL).map S, rfl, rfl, .inl (SqL.of (by rw [← wV_eq]; exact e5)), ?_, ?_⟩
            · rw [SX.lens, List.length_map, List.length_map]
              have := sum_le (xs := ps.map numL) (m := 1) fun x hx => by
                obtain ⟨c, hc, rfl⟩ := List.mem_map.mp hx
                have := o2 c hc
                rw [numL_lt (by omega)]
                exact Nat.le_refl _
              rw [List.length_map] at this
              show _ + _ * 1 ≤ _
              omega
            · show Q (V.str (Txt.join (S [44]) _)) H5
              rw [SX.join_S]
              have e : (Ar.places ps).text = joinL [44] (ps.map numL) := if_neg ne
              rw [← e]
              exact q _ s5
        · have e : ps = [] := by
            cases ps with
            | nil => rfl
            | cons a r => exact (c (decide_eq_true (by rw [lp, List.length_cons]; omega))).elim
          subst e
          exact q _ (Same.refl _)
      | _ => exact o.elim
    | table =>
      cases a with
      | table es =>
        obtain ⟨p, xs, rfl, ep, pr⟩ := at_
        have o1 : es.length ≤ 20 := o.2.1
        have oe : ∀ e ∈ es, e.Ok := o.2.2.1
        have lx := pr.length
        refine ⟨_, rfl, rfl, _, rfl, ifNe rfl ⟨_, rfl, rfl, _, rfl, ifNe rfl ⟨_, rfl, rfl, _, rfl, ifNe rfl ⟨_, rfl, rfl, _, rfl, iteT ⟨⟨_, rfl⟩, _, rfl, p, rfl, ⟨_, SqT.of ep⟩, fun D hD => ?_⟩⟩⟩⟩⟩
        refine lc_texts (n := xs.length) (walk_tup (K := K) (xs := xs) (a := p)) (es.map entL) (by rw [List.length_map, lx]) hD (by omega) (fun H5 s5 => SqT.of (s5 _ _ ep)) ?_ ?_
        · rintro i x H5 H' kT hi s5 ⟨rfl, hx⟩ h
          rw [List.length_map] at hi
          obtain ⟨t, a1, b1, rfl, e2, e3, e4⟩ := paired_get pr (List.getElem?_eq_getElem hi) hx
          have oi := oe _ (List.getElem_mem hi)
          refine ⟨t, _, rfl, SqT.of (s5 _ _ e2), rfl, _, _, rfl, _, _, rfl, rfl, rfl, ?_⟩
          refine ⟨_, rfl, a1, es[i].s, some es[i].l, rfl, s5 _ _ e3, oi.s, fun H6 s6 => ?_⟩
          refine ⟨_, rfl, b1, es[i].t, es[i].o, rfl, s6 _ _ (s5 _ _ e4), oi.t, fun H7 s7 => ?_⟩
          refine ⟨_, _, rfl, rfl, ?_, ?_⟩
          · rw [SX.S_len, SX.S_len, numL_lt (Nat.lt_of_le_of_lt oi.s (by decide)), numL_lt (Nat.lt_of_le_of_lt oi.t (by decide))]
            show 2 + 2 ≤ _
            decide
          · have z := h _ (s6.trans s7)
            rw [List.getElem_map] at z
            rw [SX.S_cat]
            have e : entL es[i] = (numL es[i].s ++ [(some es[i].l).getD 45]) ++ (numL es[i].t ++ [es[i].o.getD 45]) := by
              unfold entL
              simp
            rw [← e]
            exact z
        · intro H5 s5 e5
          refine ⟨_, D, (es.map entL).map S, rfl, rfl, .inl (SqL.of (by rw [← wV_eq]; exact e5)), ?_, ?_⟩
          · rw [SX.lens, List.length_map, List.length_map]
            have := sum_le (xs := es.map entL) (m := 4) fun x hx => by
              obtain ⟨c, hc, rfl⟩ := List.mem_map.mp hx
              rw [entL_four (oe c hc)]
              exact Nat.le_refl _
            rw [List.length_map] at this
            show _ + _ * 1 ≤ _
            omega
          · show Q (V.str (Txt.join (S [44]) _)) H5
            rw [SX.join_S]
            exact q _ s5
      | _ => exact o.elim
    | delay =>
      cases a with
      | num n => exact ⟨_, rfl, rfl, _, rfl, ifNe rfl ⟨_, rfl, rfl, _, rfl, ifNe rfl ⟨_, rfl, rfl, _, rfl, ifNe rfl ⟨_, rfl, rfl, _, rfl, ifNe rfl ⟨_, rfl, num n o.2 at_ q⟩⟩⟩⟩⟩
      | _ => exact o.elim
    | count =>
      cases a with
      | num n => exact ⟨_, rfl, rfl, _, rfl, ifNe rfl ⟨_, rfl, rfl, _, rfl, ifNe rfl ⟨_, rfl, rfl, _, rfl, ifNe rfl ⟨_, rfl, rfl, _, rfl, ifNe rfl ⟨_, rfl, num n (Nat.le_trans o.2 (by decide)) at_ q⟩⟩⟩⟩⟩
      | _ => exact o.elim
    | room =>
      cases a with
      | num n => exact ⟨_, rfl, rfl, _, rfl, ifNe rfl ⟨_, rfl, rfl, _, rfl, ifNe rfl ⟨_, rfl, rfl, _, rfl, ifNe rfl ⟨_, rfl, rfl, _, rfl, ifNe rfl ⟨_, rfl, num n (Nat.le_trans o.2 (by decide)) at_ q⟩⟩⟩⟩⟩
      | _ => exact o.elim
    | width =>
      cases a with
      | num n => exact ⟨_, rfl, rfl, _, rfl, ifNe rfl ⟨_, rfl, rfl, _, rfl, ifNe rfl ⟨_, rfl, rfl, _, rfl, ifNe rfl ⟨_, rfl, rfl, _, rfl, ifNe rfl ⟨_, rfl, num n (Nat.le_trans (show n ≤ 4 from o) (by decide)) at_ q⟩⟩⟩⟩⟩
      | _ => exact o.elim
end
end Wd

set_option Elab.async false
set_option linter.all false
set_option maxRecDepth 100000
set_option maxHeartbeats 4000000
set_option pp.maxSteps 400
set_option pp.deepTerms false
namespace Wd
open PySem L2 TL
open SX (S)

/-- tuple(text): its signs -/
def rTupS : List V → Hp → VK → Prop := fun xs H Q => ∃ z : Str, xs = [.str z] ∧ z.length ≤ sizeLine ∧ ∀ l, H l = none → Q (.ref l) (upd H l (.tup (letV z.cps.toList)))
theorem call_tupS {X : Cx} (hc : X.calm = true) : CallR X (.type "tuple") rTupS := by
  intro pins s σ H xs us Q I r h
  obtain ⟨z, rfl, hz, q⟩ := h
  obtain ⟨u, rfl, t, rfl⟩ := vals1 r
  refine PySem.call_tuple_str (I.ok.hd hc) z t (fun h' tk acc kp it => ?_) hz
  have I1 : L2.Inv X pins σ H { s with heap := h', toks := tk } := I.kept (t' := tk) kp
  have sz : acc.size = z.cps.size := it.1
  have rv : Vals (letV z.cps.toList) acc.toList := by
    have g : ∀ (cs : List Nat) (us : List Value), us.length = cs.length → (∀ (i : Nat) (v : Value), us[i]? = some v → ∃ (c : Nat) (t : Tok), cs[i]? = some c ∧ v = Value.str ⟨#[c]⟩ t) → Vals (letV cs) us := by
      intro cs
      induction cs with
      | nil =>
        intro us l _
        rw [List.eq_nil_of_length_eq_zero l]
        exact .nil
      | cons c cs ih =>
        intro us l hv
        cases us with
        | nil => cases l
        | cons u us =>
          obtain ⟨d, t, e1, e2⟩ := hv 0 u rfl
          cases e1
          exact .cons ⟨t, e2⟩ (ih us (Nat.succ.inj l) fun i v e => hv (i + 1) v e)
    refine g _ _ (by rw [Array.length_toList, Array.length_toList, sz]) fun i v e => ?_
    have := it.2 i v (by simpa using e)
    obtain ⟨c, t, e1, e2⟩ := this
    exact ⟨c, t, by simpa using e1, e2⟩
  have ll : (letV z.cps.toList).length ≤ sizeLine := by
    unfold letV
    rw [List.length_map, Array.length_toList]
    exact hz
  exact ⟨.ref h'.objs.size, _, I1.laid (t' := tk) (fun b o e => Heap.get?_push_of_some _ e) (Nat.le_refl _) (show ObjOk X.prog X.w _ _ _ (.tup (letV z.cps.toList)) from ⟨ll, acc.toList, rv, by rw [Array.toArray_toList]; exact PyProof.Rows.IsTup.new _ _⟩), rfl, q _ (I1.hok.fresh (Nat.le_refl _))⟩
/-- the parts of a text that were joined by commas -/
theorem split_comma {xs : List (List Nat)} (h1 : xs ≠ []) (h2 : ∀ x ∈ xs, 44 ∉ x) : Txt.split (S (joinL [44] xs)) (S [44]) = xs.map S := by
  rw [SX.split_S (by simp) (by decide), spl_join h1 h2]
def spReadKind : Sp := fun vs H Q _ => ∃ (kd : Kind) (a : Ar), vs = [.str (S a.text), .str kd.str] ∧ a.Ok kd ∧ ∀ H' v, Same H H' → ArAt H' a v → Q v H'
theorem num_len {n : Nat} (h : n ≤ maxD) : (numL n).length ≤ 40 := numL_len (k := 40) (by decide) (Nat.lt_of_le_of_lt h (by decide +kernel))
theorem ent_len {e : Ent} (o : e.Ok) : (entL e).length = 4 := by
  rw [entL_four o]
  rfl
theorem ent_comma {e : Ent} (o : e.Ok) : 44 ∉ entL e := by
  rw [entL_four o]
  have a := o.s
  have b := o.l
  have c := o.t
  unfold low at b
  intro h
  simp only [List.mem_cons, List.not_mem_nil, or_false] at h
  rcases h with h | h | h | h
  · omega
  · omega
  · omega
  · cases ho : e.o with
    | none =>
      rw [ho] at h
      cases h
    | some d =>
      rw [ho] at h
      have := o.o d ho
      unfold low at this
      have h : 44 = d := h
      omega
section
variable {P : Program} {w : World} {K : PySem.W.Frag} {mg : Str → Option Value} {base : Heap} {fN fP : Addr} {dN dP : FuncData}
abbrev nReadKind : List Str := ["word", "kind", "place", "pair"]
theorem scReadKind : FnScope nReadKind ["word", "kind"] (defScope sReadKind) := ⟨rfl, rfl, rfl, by decide +kernel, rfl, by decide +kernel, by decide +kernel⟩
theorem ok_read_kind {f : Addr} {fd : FuncData} (F : Fun K "read_kind" "read_kind" sReadKind f fd) (X : NTxt mg) (N : At P w K mg base 1 "read_number" fN dN ["word"] spNum) (B : At P w K mg base 2 "read_pair" fP dP ["word"] spPair) :
    FnOk P w K mg base CX0 3 f fd ["word", "kind"] spReadKind := by
  refine F.ok scReadKind (fun vs H Q E h => ?_) (fun cdv Ao outer s H vs Q E hr h => ?_)
  · obtain ⟨kd, a, rfl, _⟩ := h
    rfl
  · obtain ⟨kd, a, rfl, o, q⟩ := h
    have nd := scReadKind.nd
    have hr1 : Room 1 _ := hr.mono (by decide)
    refine ⟨_, pss_cons (ps_if (pt_cmpR op_eq (pv 1) pe_str (nomark _)) (pss_one (ps_ret (pe_callTy (call_tupS rfl) (by rfl) X.tup (by decide +kernel) (pa_cons (pv 0) pa_nil)))) pss_nil)
      (pss_cons (ps_if (pt_cmpR op_eq (pv 1) pe_str (nomark _)) (pss_one (ps_ret (pv 0))) pss_nil)
      (pss_cons (ps_if (pt_cmpR op_eq (pv 1) pe_str (nomark _)) (pss_one (ps_ret (pe_ifExp (pt_cmpR op_eq (pv 0) (pe_gcon rfl X.em) (nomark _)) (pe_tup pa_nil)
          (pe_callTy call_tuple_of (by rfl) X.tup (by decide +kernel) (pa_cons (pe_lc (own := [("place", 2)]) (g := gName 2) (tt := tYes) rfl nd (pi_list (pe_split (pv 0) pe_str)) (blkOk_by (N := nReadKind) (sc := defScope sReadKind) (by decide +kernel)) (fun _ _ _ _ _ => pg_name (i := 2) nd rfl (Or.inl rfl)) (fun _ _ _ _ _ => pts_nil)
            (fun _ _ _ _ _ => pe_call N.g hr1 rfl N.m N.kp N.b .nil pass0 (pa_cons (pv 2) pa_nil))) pa_nil))))) pss_nil)
      (pss_cons (ps_if (pt_cmpR op_eq (pv 1) pe_str (nomark _)) (pss_one (ps_ret (pe_callTy call_tuple_of (by rfl) X.tup (by decide +kernel) (pa_cons (pe_lc (own := [("pair", 3)]) (g := gName 3) (tt := tYes) rfl nd (pi_list (pe_split (pv 0) pe_str)) (blkOk_by (N := nReadKind) (sc := defScope sReadKind) (by decide +kernel)) (fun _ _ _ _ _ => pg_name (i := 3) nd rfl (Or.inl rfl)) (fun _ _ _ _ _ => pts_nil)
            (fun _ _ _ _ _ => pe_call B.g hr rfl B.m B.kp B.b .nil pass0 (pa_cons (pv 3) pa_nil))) pa_nil)))) pss_nil)
      (pss_one (ps_ret (pe_call N.g hr1 rfl N.m N.kp N.b .nil pass0 (pa_cons (pv 0) pa_nil))))))), ?_⟩
    have num : ∀ n : Nat, n ≤ maxD → a = .num n → spNum [V.str (S a.text)] H (fun v H' => Q v H') E0 := fun n hn e => by
      subst e
      exact ⟨n, rfl, Nat.le_trans (num_len hn) (by decide), fun H' s => q _ _ s rfl⟩
    cases kd with
    | name => cases a <;> exact o.elim
    | letter =>
      cases a with
      | ltr c => exact ⟨_, rfl, rfl, _, rfl, ifNe rfl ⟨_, rfl, rfl, _, rfl, iteT ⟨_, rfl, q _ _ (Same.refl _) rfl⟩⟩⟩
      | _ => exact o.elim
    | letters =>
      cases a with
      | lets cs =>
        have l26 := letters_len (show Letters cs from o)
        refine ⟨_, rfl, rfl, _, rfl, iteT ⟨_, rfl, S cs, rfl, ?_, fun l hl => ?_⟩⟩
        · rw [SX.S_len]
          exact Nat.le_trans l26 (by decide)
        · exact q _ _ (same_new hl) ⟨l, rfl, upd_same⟩
      | _ => exact o.elim
    | places =>
      cases a with
      | places ps =>
        have o1 : ps.length ≤ 4 := o.1
        have o2 : ∀ x ∈ ps, x ≤ 3 := o.2
        refine ⟨_, rfl, rfl, _, rfl, ifNe rfl ⟨_, rfl, rfl, _, rfl, ifNe rfl ⟨_, rfl, rfl, _, rfl, iteT ⟨_, rfl, rfl, _, rfl, ?_⟩⟩⟩⟩
        by_cases e : ps = []
        · subst e
          exact iteT ⟨by show 0 ≤ sizeLine; decide, fun l hl => q _ _ (same_new hl) ⟨l, rfl, upd_same⟩⟩
        · have et : (Ar.places ps).text = joinL [44] (ps.map numL) := if_neg e
          have ne : ps.map numL ≠ [] := by simpa using e
          have n45 : joinL [44] (ps.map numL) ≠ [45] := fun z => by
            have := join_signs (P := fun c => c = 44 ∨ (48 ≤ c ∧ c ≤ 57)) (s := 44) (.inl rfl) (xs := ps.map numL) (fun x hx c hc => by
              obtain ⟨n, _, rfl⟩ := List.mem_map.mp hx
              exact .inr (numL_digits n c hc)) 45 (by rw [z]; simp)
            omega
          have l1 : ∀ x ∈ ps.map numL, x.length ≤ 1 := fun x hx => by
            obtain ⟨n, hn, rfl⟩ := List.mem_map.mp hx
            have := o2 n hn
            rw [numL_lt (by omega)]
            exact Nat.le_refl _
          have lj : (joinL [44] (ps.map numL)).length ≤ 8 := by
            have a := join_len (s := 44) (xs := ps.map numL)
            have b := sum_le l1
            rw [List.length_map] at a b
            omega
          rw [et, decide_eq_false fun z => n45 (V_S.mp z)]
          refine iteF ⟨_, rfl, ⟨_, rfl⟩, _, _, rfl, rfl, rfl, ?_, fun p hp => ?_⟩
          · rw [SX.S_len]
            exact Nat.le_trans (by omega : _ + 2 ≤ 10) (by decide)
          · have sp : Txt.split (S (joinL [44] (ps.map numL))) (S [44]) = (ps.map numL).map S := split_comma ne fun x hx => by
              obtain ⟨n, hn, rfl⟩ := List.mem_map.mp hx
              exact numL_free (.inl (by decide))
            have s1 := same_new (o := .lst ((Txt.split (S (joinL [44] (ps.map numL))) (S [44])).map V.str)) hp
            have e1 : (upd H p (.lst ((Txt.split (S (joinL [44] (ps.map numL))) (S [44])).map V.str))) p = some (.lst (wV (ps.map numL))) := by
              rw [upd_same, sp, wV_eq]
            refine ⟨p, rfl, ⟨_, SqL.of e1⟩, fun D hD => ?_⟩
            refine lc_keepW (n := (wV (ps.map numL)).length) (walk_list (K := K) (xs := wV (ps.map numL)) (a := p)) (fun i _ y => (numV ps)[i]? = some y) (fun _ _ _ _ _ h => h) hD (by rw [wV_len, List.length_map]; omega) (fun H5 s5 => SqL.of (s5 _ _ e1)) ?_ ?_
            · rintro i x H5 H' kT hi s5 ⟨rfl, hx⟩ h
              rw [wV_len, List.length_map] at hi
              rw [wV_get (by rw [List.length_map]; exact hi)] at hx
              cases hx
              have := o2 _ (List.getElem_mem hi)
              refine ⟨rfl, _, rfl, ps[i], by rw [List.getElem_map]; rfl, by rw [numL_lt (by omega)]; show 1 ≤ 60; decide, fun H6 s6 => h _ _ s6 ?_⟩
              unfold numV
              rw [List.getElem?_map, List.getElem?_eq_getElem hi]
              rfl
            · intro H5 ys s5 e5 l5 r5
              have ey : ys = numV ps := List.ext_getElem? fun k => by
                by_cases hk : k < ys.length
                · rw [List.getElem?_eq_getElem hk]
                  exact (r5 k _ (List.getElem?_eq_getElem hk)).symm
                · rw [List.getElem?_eq_none (by omega), List.getElem?_eq_none (by unfold numV; rw [List.length_map]; rw [wV_len, List.length_map] at l5; omega)]
              rw [ey] at e5
              refine ⟨D, _, rfl, .inl ⟨SqL.of e5, fun l hl => ?_⟩⟩
              exact q _ _ ((s1.trans s5).trans (same_new hl)) ⟨l, rfl, upd_same⟩
      | _ => exact o.elim
    | table =>
      cases a with
      | table es =>
        have o0 : 1 ≤ es.length := o.1
        have o1 : es.length ≤ 20 := o.2.1
        have oe : ∀ e ∈ es, e.Ok := o.2.2.1
        have ne : es.map entL ≠ [] := fun z => by
          have := congrArg List.length z
          rw [List.length_map] at this
          rw [this] at o0
          cases o0
        have lj : (joinL [44] (es.map entL)).length ≤ 100 := by
          have a := join_len (s := 44) (xs := es.map entL)
          have b := sum_le (xs := es.map entL) (m := 4) fun x hx => by
            obtain ⟨e, he, rfl⟩ := List.mem_map.mp hx
            rw [ent_len (oe e he)]
            exact Nat.le_refl _
          rw [List.length_map] at a b
          omega
        refine ⟨_, rfl, rfl, _, rfl, ifNe rfl ⟨_, rfl, rfl, _, rfl, ifNe rfl ⟨_, rfl, rfl, _, rfl, ifNe rfl ⟨_, rfl, rfl, _, rfl, iteT ⟨_, rfl, ⟨_, rfl⟩, _, _, rfl, rfl, rfl, ?_, fun p hp => ?_⟩⟩⟩⟩⟩
        · show (S (joinL [44] (es.map entL))).length + 2 ≤ _
          rw [SX.S_len]
          exact Nat.le_trans (by omega : _ + 2 ≤ 102) (by decide)
        · have sp : Txt.split (S (joinL [44] (es.map entL))) (S [44]) = (es.map entL).map S := split_comma ne fun x hx => by
            obtain ⟨e, he, rfl⟩ := List.mem_map.mp hx
            exact ent_comma (oe e he)
          have s1 := same_new (o := .lst ((Txt.split (S (joinL [44] (es.map entL))) (S [44])).map V.str)) hp
          have e1 : (upd H p (.lst ((Txt.split (S (joinL [44] (es.map entL))) (S [44])).map V.str))) p = some (.lst (wV (es.map entL))) := by
            rw [upd_same, sp, wV_eq]
          refine ⟨p, rfl, ⟨_, SqL.of e1⟩, fun D hD => ?_⟩
          refine lc_keepW (n := (wV (es.map entL)).length) (walk_list (K := K) (xs := wV (es.map entL)) (a := p)) (fun i H y => ∃ e, es[i]? = some e ∧ EntAt H e y) (fun _ _ _ _ k ⟨e, h1, h2⟩ => ⟨e, h1, h2.mono k⟩) hD (by rw [wV_len, List.length_map]; omega) (fun H5 s5 => SqL.of (s5 _ _ e1)) ?_ ?_
          · rintro i x H5 H' kT hi s5 ⟨rfl, hx⟩ h
            rw [wV_len, List.length_map] at hi
            rw [wV_get (by rw [List.length_map]; exact hi)] at hx
            cases hx
            exact ⟨rfl, _, rfl, es[i], by rw [List.getElem_map]; rfl, oe _ (List.getElem_mem hi), fun H6 y s6 ey => h _ _ s6 ⟨_, List.getElem?_eq_getElem hi, ey⟩⟩
          · intro H5 ys s5 e5 l5 r5
            rw [wV_len, List.length_map] at l5
            refine ⟨D, _, rfl, .inl ⟨SqL.of e5, fun l hl => ?_⟩⟩
            have pr : Paired (EntAt H5) es ys := by
              have g : ∀ (es : List Ent) (ys : List V), ys.length = es.length → (∀ (i : Nat) y, ys[i]? = some y → ∃ e, es[i]? = some e ∧ EntAt H5 e y) → Paired (EntAt H5) es ys := by
                intro es
                induction es with
                | nil =>
                  intro ys l _
                  rw [List.eq_nil_of_length_eq_zero l]
                  exact .nil
                | cons e es ih =>
                  intro ys l hv
                  cases ys with
                  | nil => cases l
                  | cons y ys =>
                    obtain ⟨d, e1, e2⟩ := hv 0 y rfl
                    cases e1
                    exact .cons e2 (ih ys (Nat.succ.inj l) fun i v e => hv (i + 1) v e)
              exact g es ys l5 r5
            exact q _ _ ((s1.trans s5).trans (same_new hl)) ⟨l, _, rfl, upd_same, paired_mono (fun _ _ => EntAt.mono (TK.of (same_new hl))) pr⟩
      | _ => exact o.elim
    | delay =>
      cases a with
      | num n => exact ⟨_, rfl, rfl, _, rfl, ifNe rfl ⟨_, rfl, rfl, _, rfl, ifNe rfl ⟨_, rfl, rfl, _, rfl, ifNe rfl ⟨_, rfl, rfl, _, rfl, ifNe rfl ⟨_, rfl, num n o.2 rfl⟩⟩⟩⟩⟩
      | _ => exact o.elim
    | count =>
      cases a with
      | num n => exact ⟨_, rfl, rfl, _, rfl, ifNe rfl ⟨_, rfl, rfl, _, rfl, ifNe rfl ⟨_, rfl, rfl, _, rfl, ifNe rfl ⟨_, rfl, rfl, _, rfl, ifNe rfl ⟨_, rfl, num n (Nat.le_trans o.2 (by decide)) rfl⟩⟩⟩⟩⟩
      | _ => exact o.elim
    | room =>
      cases a with
      | num n => exact ⟨_, rfl, rfl, _, rfl, ifNe rfl ⟨_, rfl, rfl, _, rfl, ifNe rfl ⟨_, rfl, rfl, _, rfl, ifNe rfl ⟨_, rfl, rfl, _, rfl, ifNe rfl ⟨_, rfl, num n (Nat.le_trans o.2 (by decide)) rfl⟩⟩⟩⟩⟩
      | _ => exact o.elim
    | width =>
      cases a with
      | num n => exact ⟨_, rfl, rfl, _, rfl, ifNe rfl ⟨_, rfl, rfl, _, rfl, ifNe rfl ⟨_, rfl, rfl, _, rfl, ifNe rfl ⟨_, rfl, rfl, _, rfl, ifNe rfl ⟨_, rfl, num n (Nat.le_trans (show n ≤ 4 from o) (by decide)) rfl⟩⟩⟩⟩⟩
      | _ => exact o.elim
end
end Wd

set_option Elab.async false
set_option linter.all false
set_option maxRecDepth 100000
set_option maxHeartbeats 4000000
set_option pp.maxSteps 400
set_option pp.deepTerms false
namespace Wd
open PySem L2 TL
open SX (S)

/-- the names of trees without parentheses -/
structure BTxt (K : PySem.W.Frag) (mg : Str → Option Value) (tB : Addr) : Prop where
  g : ∃ u, mg "BARE" = some u ∧ RelV (.ref tB) u
  at_ : ∀ H, SqT K H tB [.str (Str.ofString "source"), .str (Str.ofString "it")]
def spReadWord : Sp := fun vs H Q _ =>
  (vs = [.str (S [41]), .str (S [41])] ∧ ∀ H', Same H H' → Q (.str (S [41])) H') ∨
  (∃ (z : Str) (ks : List (Option Kind)), vs = [.str z, .str (Str.ofString "word")] ∧ (z, ks) ∈ sig ∧ z ≠ Str.ofString "it" ∧ z ≠ Str.ofString "source" ∧ ∀ H', Same H H' → Q (.str z) H') ∨
  (∃ t : Tr, vs = [.str (S t.text), .str (Str.ofString "part")] ∧ t.Ok ∧ t.isOp = false ∧ ∀ H' v, Same H H' → TrAt H' t v → Q v H') ∨
  (∃ (kd : Kind) (a : Ar), vs = [.str (S a.text), .str kd.str] ∧ a.Ok kd ∧ ∀ H' v, Same H H' → ArAt H' a v → Q v H')
def spKindAfter : Sp := fun vs H Q _ => ∃ (L : Addr) (fs : List V), vs = [.ref L] ∧ H L = some (.lst fs) ∧ ∃ z : Str, (∀ H', Same H H' → Q (.str z) H') ∧
  ((fs = [] ∧ z = Str.ofString "part") ∨ ∃ gs a xs, fs = gs ++ [V.ref a] ∧ H a = some (.lst xs) ∧ ((xs = [] ∧ z = Str.ofString "word") ∨
    ∃ w ks ys, xs = .str w :: ys ∧ (w, ks) ∈ sig ∧ ((∃ o, ks[ys.length]? = some o ∧ z = kindS o) ∨ (ys.length = ks.length ∧ z = S [41]))))
theorem name_word {z : Str} (h : NameS z) : z ≠ Str.ofString "it" := fun e => h.2.2.2 (by rw [e]; decide +kernel)
section
variable {P : Program} {w : World} {K : PySem.W.Frag} {mg : Str → Option Value} {base : Heap} {fR fA fN tB dA : Addr} {dR dA' dN : FuncData} {es : Array DictEntry} {nA : Nat}
abbrev nReadArg : List Str := ["word", "kind", "value"]
theorem scReadArg : FnScope nReadArg ["word", "kind"] (defScope sReadArgument) := ⟨rfl, rfl, rfl, by decide +kernel, rfl, by decide +kernel, by decide +kernel⟩
theorem ok_read_argument {f : Addr} {fd : FuncData} (F : Fun K "read_argument" "read_argument" sReadArgument f fd) (R : At P w K mg base 3 "read_kind" fR dR ["word", "kind"] spReadKind) (A : At P w K mg base 5 "is_argument" fA dA' ["value", "kind"] (spArg noT)) :
    FnOk P w K mg base CX0 6 f fd ["word", "kind"] spReadKind := by
  refine F.ok scReadArg (fun vs H Q E h => ?_) (fun cdv Ao outer s H vs Q E hr h => ?_)
  · obtain ⟨kd, a, rfl, _⟩ := h
    rfl
  · obtain ⟨kd, a, rfl, o, q⟩ := h
    have nd := scReadArg.nd
    refine ⟨_, pss_cons (ps_set (i := 2) nd rfl (Or.inl rfl) (pe_call R.g (hr.mono (by decide)) rfl R.m R.kp R.b .nil pass0 (pa_cons (pv 0) (pa_cons (pv 1) pa_nil))))
      (pss_one (ps_ret (pe_ifExp (pt_val (pe_call A.g hr rfl A.m A.kp A.b .nil pass0 (pa_cons (pv 2) (pa_cons (pv 1) pa_nil)))) (pv 2) pe_non))), ?_⟩
    refine ⟨_, rfl, _, rfl, kd, a, rfl, o, fun H1 v s1 av => ?_⟩
    refine ⟨_, rfl, _, rfl, v, kd, [], H1, 1000, 4, rfl, Ob.refl _ _, Nat.le_refl _, ar_dat (k := 0) o av, fun H2 b s2 hb => ⟨b, rfl, ?_⟩⟩
    rw [hb.mpr (ar_arg o av)]
    exact iteT ⟨_, rfl, q _ _ (s1.trans s2) (av.mono (TK.of s2))⟩
abbrev nReadWord : List Str := ["word", "kind"]
theorem scReadWord : FnScope nReadWord ["word", "kind"] (defScope sReadWord) := ⟨rfl, rfl, rfl, by decide +kernel, rfl, by decide +kernel, by decide +kernel⟩
theorem ok_read_word {f : Addr} {fd : FuncData} (F : Fun K "read_word" "read_word" sReadWord f fd) (Z : STxt K w mg dA es nA) (B : BTxt K mg tB) (R : At P w K mg base 6 "read_argument" fR dR ["word", "kind"] spReadKind) (N : At P w K mg base 2 "is_name" fN dN ["value"] (spIs noT fun _ => IsName)) :
    FnOk P w K mg base CX0 7 f fd ["word", "kind"] spReadWord := by
  refine F.ok scReadWord (fun vs H Q E h => ?_) (fun cdv Ao outer s H vs Q E hr h => ?_)
  · rcases h with ⟨rfl, _⟩ | ⟨z, ks, rfl, _⟩ | ⟨t, rfl, _⟩ | ⟨kd, a, rfl, _⟩ <;> rfl
  · have nd := scReadWord.nd
    refine ⟨_, pss_cons (ps_if (pt_cmpR op_eq (pv 1) pe_str (nomark _)) (pss_one (ps_ret (pe_ifExp (pt_cmpR op_eq (pv 0) pe_str (nomark _)) (pv 0) pe_non))) pss_nil)
      (pss_cons (ps_if (pt_cmpR op_eq (pv 1) pe_str (nomark _)) (pss_one (ps_ret (pe_ifExp (PW.pt (pw_and (pt_cmpR (op_in_kd Z.k) (pv 0) (pe_gcon rfl Z.g) (by rfl)) (pw_and1 (pt_cmpR (r := rIn K true) op_notIn_seq (pv 0) (pe_gcon rfl B.g) (by rfl))))) (pv 0) pe_non))) pss_nil)
      (pss_cons (ps_if (pt_cmpR op_eq (pv 1) pe_str (nomark _))
        (pss_cons (ps_if (pt_cmpR op_eq (pv 0) pe_str (nomark _)) (pss_one (ps_ret (pe_tup (pa_cons pe_str pa_nil)))) pss_nil)
        (pss_one (ps_ret (pe_ifExp (pt_val (pe_call N.g (hr.mono (by decide)) rfl N.m N.kp N.b .nil pass0 (pa_cons (pv 0) pa_nil))) (pe_tup (pa_cons pe_str (pa_cons (pv 0) pa_nil))) pe_non)))) pss_nil)
      (pss_one (ps_ret (pe_call R.g hr rfl R.m R.kp R.b .nil pass0 (pa_cons (pv 0) (pa_cons (pv 1) pa_nil))))))), ?_⟩
    rcases h with ⟨rfl, q⟩ | ⟨z, ks, rfl, hz, n1, n2, q⟩ | ⟨t, rfl, ok, io, q⟩ | ⟨kd, a, rfl, o, q⟩
    · refine ⟨_, rfl, rfl, _, rfl, ?_⟩
      rw [decide_eq_true (show V.str (S [41]) = V.str (Str.ofString ")") from rfl)]
      refine iteT ⟨_, rfl, rfl, _, rfl, ?_⟩
      rw [decide_eq_true (show V.str (S [41]) = V.str (Str.ofString ")") from rfl)]
      exact iteT ⟨_, rfl, q _ (Same.refl _)⟩
    · refine ⟨_, rfl, rfl, _, rfl, ifNe rfl ⟨_, rfl, rfl, _, rfl, iteT ?_⟩⟩
      obtain ⟨r, hr1, hr2⟩ := Z.mem z
      refine ⟨_, rfl, z, r, rfl, rfl, hr1, _, rfl, ?_⟩
      rw [hr2.mpr ⟨ks, hz⟩]
      refine iteT ⟨_, rfl, tB, _, rfl, .inr (B.at_ _), rfl, (by decide +kernel), _, rfl, ?_⟩
      have nm : inV (.str z) [.str (Str.ofString "source"), .str (Str.ofString "it")] = false := by
        unfold inV
        simp only [List.any_cons, List.any_nil, Bool.or_false, Bool.or_eq_false_iff]
        have g : ∀ y : Str, z ≠ y → eqV (.str y) (.str z) = false := fun y h => by
          simp [eqV, Ne.symm h]
        exact ⟨g _ n2, g _ n1⟩
      simp only [nm]
      exact iteT ⟨_, rfl, q _ (Same.refl _)⟩
    · refine ⟨_, rfl, rfl, _, rfl, ifNe rfl ⟨_, rfl, rfl, _, rfl, ifNe rfl ⟨_, rfl, rfl, _, rfl, iteT ?_⟩⟩⟩
      cases t with
      | it =>
        refine ⟨_, rfl, rfl, _, rfl, ?_⟩
        rw [decide_eq_true (show V.str (S (Tr.text .it)) = V.str (Str.ofString "it") from rfl)]
        exact iteT ⟨by show 1 ≤ sizeLine; decide, fun p hp => q _ _ (same_new hp) ⟨p, rfl, upd_same⟩⟩
      | src z =>
        have ez : S (Tr.text (.src z)) = z := SX.S_tl z
        rw [ez]
        refine ⟨_, rfl, rfl, _, rfl, ?_⟩
        rw [decide_eq_false fun e => (by injection e with e; exact name_word ok e)]
        refine iteF ⟨_, rfl, .str z, [], H, 1000, 1, rfl, Ob.refl _ _, Nat.le_refl _, name_dat (k := 0) ok, fun H1 b s1 hb => ⟨b, rfl, ?_⟩⟩
        rw [hb.mpr ⟨z, rfl, ok⟩]
        exact iteT ⟨_, rfl, by show 2 ≤ sizeLine; decide, fun p hp => q _ _ (s1.trans (same_new hp)) ⟨p, rfl, upd_same⟩⟩
      | op0 w as => cases io
      | op1 w as t => cases io
      | op2 w as t u => cases io
    · have n1 : (kd.str == Str.ofString ")") = false := by cases kd <;> decide +kernel
      have n2 : (kd.str == Str.ofString "word") = false := by cases kd <;> decide +kernel
      exact ⟨_, rfl, rfl, _, rfl, ifNe n1 ⟨_, rfl, rfl, _, rfl, ifNe n2 ⟨_, rfl, rfl, _, rfl, ifNe (kind_part kd) ⟨_, rfl, _, rfl, kd, a, rfl, o, fun H1 v s1 av => q _ _ s1 av⟩⟩⟩⟩
abbrev nKindAfter : List Str := ["begun", "items", "kinds"]
theorem scKindAfter : FnScope nKindAfter ["begun"] (defScope sKindAfter) := ⟨rfl, rfl, rfl, by decide +kernel, rfl, by decide +kernel, by decide +kernel⟩
theorem ok_kind_after {f : Addr} {fd : FuncData} (F : Fun K "kind_after" "kind_after" sKindAfter f fd) (Z : STxt K w mg dA es nA) (X : NTxt mg) : FnOk P w K mg base CX0 1 f fd ["begun"] spKindAfter := by
  refine F.ok scKindAfter (fun vs H Q E h => ?_) (fun cdv Ao outer s H vs Q E hr h => ?_)
  · obtain ⟨L, fs, rfl, _⟩ := h
    rfl
  · obtain ⟨L, fs, rfl, eL, z, q, h⟩ := h
    have nd := scKindAfter.nd
    refine ⟨_, pss_cons (ps_if (pt_cmpR op_eq (pe_callB call_len_seq (by rfl) X.len PySem.boot_len (pa_cons (pv 0) pa_nil)) pe_int (nomark _)) (pss_one (ps_ret pe_str)) pss_nil)
      (pss_cons (ps_set (i := 1) nd rfl (Or.inl rfl) (pe_ix ix_list (pv 0) (pe_un un_neg pe_int) (fun _ _ => rfl)))
      (pss_cons (ps_if (pt_cmpR op_eq (pe_callB call_len_seq (by rfl) X.len PySem.boot_len (pa_cons (pv 1) pa_nil)) pe_int (nomark _)) (pss_one (ps_ret pe_str)) pss_nil)
      (pss_cons (ps_set (i := 2) nd rfl (Or.inl rfl) (pe_ix ix_kdict (pe_gcon rfl Z.g) (pe_ix ix_list (pv 1) pe_int (fun _ _ => rfl)) (fun _ _ => rfl)))
      (pss_one (ps_ret (pe_ifExp (pt_cmpR op_le (pe_callB call_len_seq (by rfl) X.len PySem.boot_len (pa_cons (pv 1) pa_nil)) (pe_callB call_len_seq (by rfl) X.len PySem.boot_len (pa_cons (pv 2) pa_nil)) (nomark _))
        (pe_ix ix_tup (pv 2) (pe_op op_sub (pe_callB call_len_seq (by rfl) X.len PySem.boot_len (pa_cons (pv 1) pa_nil)) pe_int) (fun _ _ => rfl)) pe_str)))))), ?_⟩
    refine ⟨_, rfl, L, fs, rfl, .inl (SqL.of eL), rfl, _, rfl, ?_⟩
    rcases h with ⟨rfl, rfl⟩ | ⟨gs, a, xs, rfl, ea, h⟩
    · exact iteT (q _ (Same.refl _))
    · rw [decide_eq_false fun e => (by injection e with e; rw [List.length_append] at e; simp at e; omega)]
      refine iteF ⟨_, rfl, _, rfl, L, _, _, _, rfl, rfl, SqL.of eL, atI_last _ _, ?_⟩
      refine ⟨_, rfl, a, xs, rfl, .inl (SqL.of ea), rfl, _, rfl, ?_⟩
      rcases h with ⟨rfl, rfl⟩ | ⟨w1, ks, ys, rfl, hk, h⟩
      · exact iteT (q _ (Same.refl _))
      · obtain ⟨t, ht1, ht2'⟩ := Z.at_ _ hk
        have ht2 : ∀ H, SqT K H t (ks.map fun o => V.str (kindS o)) := ht2'
        have lm : (ks.map fun o => V.str (kindS o)).length = ks.length := List.length_map _
        rw [decide_eq_false fun e => (by injection e with e; rw [List.length_cons] at e; omega)]
        refine iteF ⟨_, rfl, a, _, _, _, rfl, rfl, SqL.of ea, atI_nat (j := 0) rfl, dA, w1, _, rfl, rfl, ht1, ?_⟩
        refine ⟨_, rfl, a, _, rfl, .inl (SqL.of ea), _, rfl, t, _, rfl, .inr (ht2 _), _, _, rfl, rfl, _, rfl, ?_⟩
        rcases h with ⟨o, ho, rfl⟩ | ⟨hl, rfl⟩
        · have hi : ys.length < ks.length := (List.getElem?_eq_some_iff.mp ho).1
          rw [decide_eq_true (by rw [lm, List.length_cons]; omega)]
          refine iteT ⟨_, rfl, _, rfl, a, _, rfl, .inl (SqL.of ea), _, _, rfl, rfl, t, _, _, _, rfl, rfl, ht2 _, at_nn (by rw [List.length_cons]; omega) ?_, q _ (Same.refl _)⟩
          rw [show ((((V.str w1 :: ys).length : Nat) : Int) - 1).toNat = ys.length by rw [List.length_cons]; omega, List.getElem?_map, ho]
          rfl
        · rw [decide_eq_false (by rw [lm, List.length_cons]; omega)]
          exact iteF (q _ (Same.refl _))
end
end Wd

set_option Elab.async false
set_option linter.all false
set_option maxRecDepth 100000
set_option maxHeartbeats 4000000
set_option pp.maxSteps 400
set_option pp.deepTerms false
namespace Wd
open PySem L2 TL
open SX (S)

/-! ### a tree that is being read -/
abbrev It8 := Ar ⊕ Tr
def ItAt (H : Hp) : It8 → V → Prop
  | .inl a, v => ArAt H a v
  | .inr t, v => TrAt H t v
def itoks : It8 → List (List Nat)
  | .inl a => [a.text]
  | .inr t => t.toks
def Tr.items (t : Tr) : List It8 := t.args.map .inl ++ t.parts.map .inr
theorem ItAt.mono {H H' : Hp} (k : TK H H') : ∀ {i : It8} {v : V}, ItAt H i v → ItAt H' i v
  | .inl _, _, h => ArAt.mono k h
  | .inr _, _, h => TrAt.mono k h
/-- what is still to come of a tree behind so many items -/
def restI (t : Tr) (k : Nat) : List (List Nat) := ((t.items.drop k).map itoks).flatten ++ [[41]]
theorem toks_items {t : Tr} (h : t.isOp = true) : t.toks = [40] :: tl t.word :: restI t 0 := by
  rw [Tr.toks_op h]
  unfold restI Tr.items
  rw [List.drop_zero, List.map_append, List.map_map, List.map_map]
  rfl
theorem rest_end {t : Tr} {k : Nat} (h : t.items.length ≤ k) : restI t k = [[41]] := by
  unfold restI
  rw [List.drop_eq_nil_of_le h]
  rfl
theorem rest_step {t : Tr} {k : Nat} {i : It8} (h : t.items[k]? = some i) : restI t k = itoks i ++ restI t (k + 1) := by
  obtain ⟨hk, e⟩ := List.getElem?_eq_some_iff.mp h
  unfold restI
  rw [List.drop_eq_getElem_cons hk, e, List.map_cons, List.flatten_cons, List.append_assoc]
theorem items_len {t : Tr} (o : t.Ok) (h : t.isOp = true) : t.items.length ≤ 5 := by
  obtain ⟨⟨ks, o1⟩, _⟩ := o.op h
  have a := sigs_len o1
  have b : t.parts.length ≤ 2 := by
    cases t <;> simp [Tr.parts]
  unfold Tr.items
  simp only [List.length_append, List.length_map]
  omega
/-- what stands behind the word, kind by kind -/
theorem items_kind {t : Tr} (o : t.Ok) (h : t.isOp = true) : ∃ ks, (t.word, ks) ∈ sig ∧ t.items.length = ks.length ∧ ∀ (k : Nat) (i : It8), t.items[k]? = some i →
    match i with
    | .inl a => ∃ kd, ks[k]? = some (some kd) ∧ a.Ok kd
    | .inr u => ks[k]? = some none ∧ u.Ok := by
  obtain ⟨⟨ks, o1, o2⟩, _⟩ := o.op h
  have l := o2.length
  refine ⟨_, o1, ?_, fun k i hi => ?_⟩
  · unfold Tr.items
    simp only [List.length_append, List.length_map, List.length_replicate]
    omega
  · unfold Tr.items at hi
    by_cases hk : k < t.args.length
    · rw [List.getElem?_append_left (by rw [List.length_map]; exact hk), List.getElem?_map, List.getElem?_eq_getElem hk] at hi
      cases hi
      refine ⟨ks[k]'(by omega), ?_, paired_get o2 (List.getElem?_eq_getElem (by omega)) (List.getElem?_eq_getElem hk)⟩
      rw [List.getElem?_append_left (by rw [List.length_map]; omega), List.getElem?_map, List.getElem?_eq_getElem (by omega)]
      rfl
    · rw [List.getElem?_append_right (by rw [List.length_map]; omega), List.length_map, List.getElem?_map] at hi
      cases hp : t.parts[k - t.args.length]? with
      | none =>
        rw [hp] at hi
        cases hi
      | some u =>
        rw [hp] at hi
        cases hi
        refine ⟨?_, o.parts u (List.mem_of_getElem? hp)⟩
        have hlt := (List.getElem?_eq_some_iff.mp hp).1
        rw [List.getElem?_append_right (by rw [List.length_map]; omega), List.length_map, List.getElem?_eq_getElem (by rw [List.length_replicate]; omega)]
        rw [List.getElem_replicate]
/-- all items read: it is the tree -/
theorem items_tree {H : Hp} {t : Tr} (h : t.isOp = true) {p : Addr} {ys : List V} (e : H p = some (.tup (.str t.word :: ys))) (pr : Paired (ItAt H) t.items ys) : TrAt H t (.ref p) := by
  refine (TrAt.op h).mpr ?_
  have g : ∀ (as : List Ar) (ts : List Tr) (ys : List V), Paired (ItAt H) (as.map .inl ++ ts.map .inr) ys → ∃ xs zs, ys = xs ++ zs ∧ Paired (ArAt H) as xs ∧ Paired (TrAt H) ts zs := by
    intro as
    induction as with
    | nil =>
      intro ts
      induction ts with
      | nil =>
        intro ys h
        cases h
        exact ⟨[], [], rfl, .nil, .nil⟩
      | cons u ts ih =>
        intro ys h
        cases h with
        | @cons _ y _ ys h hs =>
          obtain ⟨xs, zs, e1, e2, e3⟩ := ih ys hs
          cases e2
          exact ⟨[], y :: zs, by rw [e1]; rfl, .nil, .cons h e3⟩
    | cons a as ih =>
      intro ts ys h
      cases h with
      | @cons _ y _ ys h hs =>
        obtain ⟨xs, zs, e1, e2, e3⟩ := ih ts ys hs
        exact ⟨y :: xs, zs, by rw [e1]; rfl, .cons h e2, e3⟩
  obtain ⟨xs, zs, e1, e2, e3⟩ := g _ _ _ pr
  exact ⟨p, xs, zs, rfl, by rw [e, e1], e2, e3⟩
/-- the trees around the one that is being read, the nearest first: where their items lie, and what is still to come of them -/
inductive Stk (H : Hp) (T : Tr) : Tr → List Addr → List (List Nat) → Prop where
  | top : Stk H T T [] []
  | up {t u : Tr} {a : Addr} {as : List Addr} {rest : List (List Nat)} {ys : List V} (s : Stk H T u as rest) (ok : u.Ok) (op : u.isOp = true) (at_ : u.items[ys.length]? = some (.inr t)) (e : H a = some (.lst (.str u.word :: ys)))
      (pr : Paired (ItAt H) (u.items.take ys.length) ys) : Stk H T t (a :: as) (restI u (ys.length + 1) ++ rest)
theorem Stk.keep {H H' : Hp} {T : Tr} (k : TK H H') : ∀ {t : Tr} {as : List Addr} {rest : List (List Nat)}, Stk H T t as rest → (∀ b ∈ as, ∀ xs, H b = some (.lst xs) → H' b = some (.lst xs)) → Stk H' T t as rest
  | _, _, _, .top, _ => .top
  | _, _, _, .up s ok op at_ e pr, h => .up (s.keep k fun b hb => h b (by simp [hb])) ok op at_ (h _ (by simp) _ e) (paired_mono (fun _ _ => ItAt.mono k) pr)
/-- how far the reading is -/
structure Run8 (T : Tr) (H0 : Hp) (L : Addr) (H : Hp) (t : Tr) (a : Addr) (as : List Addr) (rest : List (List Nat)) : Prop where
  ok : t.Ok
  op : t.isOp = true
  s : Stk H T t as rest
  l : H L = some (.lst ((a :: as).reverse.map V.ref))
  nd : (a :: as).Nodup
  nl : L ∉ a :: as
  nw : ∀ b ∈ a :: as, H0 b = none
def At8 (T : Tr) (H0 : Hp) (L : Addr) (i : Nat) (H : Hp) : Prop := (i = 0 ∧ H L = some (.lst [])) ∨ ∃ t a as rest xs, Run8 T H0 L H t a as rest ∧ H a = some (.lst xs) ∧
  ((xs = [] ∧ T.toks.drop i = tl t.word :: (restI t 0 ++ rest)) ∨ ∃ ys, xs = .str t.word :: ys ∧ Paired (ItAt H) (t.items.take ys.length) ys ∧ ys.length ≤ t.items.length ∧ T.toks.drop i = restI t ys.length ++ rest)
theorem Run8.keep {T : Tr} {H0 : Hp} {L : Addr} {H H' : Hp} {t : Tr} {a : Addr} {as : List Addr} {rest : List (List Nat)} (r : Run8 T H0 L H t a as rest) (k : TK H H') (hl : H' L = H L) (h : ∀ b ∈ as, ∀ xs, H b = some (.lst xs) → H' b = some (.lst xs)) : Run8 T H0 L H' t a as rest :=
  ⟨r.ok, r.op, r.s.keep k h, hl.trans r.l, r.nd, r.nl, r.nw⟩
/-- one more item of the tree that is being read -/
theorem At8.item {T : Tr} {H0 : Hp} {L : Addr} {H : Hp} {t : Tr} {a : Addr} {as : List Addr} {rest : List (List Nat)} (r : Run8 T H0 L H t a as rest) {ys : List V} {it : It8} {v : V} {i : Nat} (ea : H a = some (.lst (.str t.word :: ys)))
    (pr : Paired (ItAt H) (t.items.take ys.length) ys) (hit : t.items[ys.length]? = some it) (hv : ItAt H it v) (dr : T.toks.drop i = restI t (ys.length + 1) ++ rest) : At8 T H0 L i (upd H a (.lst (.str t.word :: ys ++ [v]))) := by
  have k : TK H (upd H a (.lst (.str t.word :: ys ++ [v]))) := TK.lst ea
  have nLa : L ≠ a := fun e => r.nl (by simp [e])
  have lt := (List.getElem?_eq_some_iff.mp hit).1
  refine .inr ⟨t, a, as, rest, _, r.keep k (upd_ne nLa) fun b hb xs e => ?_, upd_same, .inr ⟨ys ++ [v], rfl, ?_, ?_, ?_⟩⟩
  · rw [upd_ne (fun z => by have := (List.nodup_cons.mp r.nd).1; exact this (z ▸ hb))]
    exact e
  · rw [List.length_append, List.length_singleton, List.take_add_one, hit]
    exact paired_app (paired_mono (fun _ _ => ItAt.mono k) pr) (.cons (hv.mono k) .nil)
  · rw [List.length_append, List.length_singleton]
    omega
  · rw [List.length_append, List.length_singleton]
    exact dr
end Wd

set_option Elab.async false
set_option linter.all false
set_option maxRecDepth 100000
set_option maxHeartbeats 4000000
set_option pp.maxSteps 400
set_option pp.deepTerms false
namespace Wd
open PySem L2 TL
open SX (S)

def KA8 (H : Hp) (fs : List V) (z : Str) : Prop := (fs = [] ∧ z = Str.ofString "part") ∨ ∃ gs a xs, fs = gs ++ [V.ref a] ∧ H a = some (.lst xs) ∧ ((xs = [] ∧ z = Str.ofString "word") ∨
    ∃ w ks ys, xs = .str w :: ys ∧ (w, ks) ∈ sig ∧ ((∃ o, ks[ys.length]? = some o ∧ z = kindS o) ∨ (ys.length = ks.length ∧ z = S [41])))
def RW8 (w : List Nat) (z : Str) (R : Hp → V → Prop) : Prop := ∀ (H1 : Hp) (Q : VK), (∀ H' v, Same H1 H' → R H' v → Q v H') → spReadWord [.str (S w), .str z] H1 Q E0
theorem tr_ref {H : Hp} : ∀ {t : Tr} {v : V}, TrAt H t v → v ≠ .non
  | .it, _, ⟨a, h, _⟩, e => by rw [h] at e; cases e
  | .src _, _, ⟨a, h, _⟩, e => by rw [h] at e; cases e
  | .op0 _ _, _, ⟨a, _, h, _⟩, e => by rw [h] at e; cases e
  | .op1 _ _ _, _, ⟨a, _, _, h, _⟩, e => by rw [h] at e; cases e
  | .op2 _ _ _ _, _, ⟨a, _, _, _, h, _⟩, e => by rw [h] at e; cases e
theorem ar_non {H : Hp} : ∀ {a : Ar} {v : V}, ArAt H a v → v ≠ .non
  | .num _, _, h, e => by rw [show _ = _ from h] at e; cases e
  | .ltr _, _, h, e => by rw [show _ = _ from h] at e; cases e
  | .lets _, _, ⟨a, h, _⟩, e => by rw [h] at e; cases e
  | .places _, _, ⟨a, h, _⟩, e => by rw [h] at e; cases e
  | .table _, _, ⟨a, _, h, _⟩, e => by rw [h] at e; cases e
theorem leaf_toks : ∀ {t : Tr}, t.isOp = false → t.toks = [t.text]
  | .it, _ => rfl
  | .src _, _ => rfl
theorem leaf_plain : ∀ {t : Tr}, t.Ok → t.isOp = false → Plain t.text
  | .it, _, _ => it_plain
  | .src _, o, _ => name_plain o
theorem plain_no {w : List Nat} (h : Plain w) : w ≠ [40] ∧ w ≠ [41] := ⟨fun e => h.2.2.1 (by simp [e]), fun e => h.2.2.2 (by simp [e])⟩
theorem kindS_no (o : Option Kind) : kindS o ≠ S [41] := by
  have : ∀ o : Option Kind, (kindS o == S [41]) = false := fun o => by
    cases o with
    | none => decide +kernel
    | some kd => cases kd <;> decide +kernel
  intro e
  have h := this o
  rw [e, beq_self_eq_true] at h
  cases h
theorem kindS_part {kd : Kind} : kindS (some kd) ≠ Str.ofString "part" := fun e => by
  have := kind_part kd
  rw [show kd.str = Str.ofString "part" from e, beq_self_eq_true] at this
  cases this
theorem drop_head {ws : List (List Nat)} {i : Nat} (hi : i < ws.length) {w : List Nat} {r : List (List Nat)} (e : ws.drop i = w :: r) : ws[i] = w ∧ ws.drop (i + 1) = r := by
  rw [List.drop_eq_getElem_cons hi] at e
  injection e with a b
  exact ⟨a, b⟩
theorem rev_cons (a : Addr) (as : List Addr) : (a :: as).reverse.map V.ref = as.reverse.map V.ref ++ [V.ref a] := by
  rw [List.reverse_cons, List.map_append]
  rfl
theorem Stk.has {H : Hp} {T : Tr} : ∀ {t : Tr} {as : List Addr} {rest : List (List Nat)}, Stk H T t as rest → ∀ b ∈ as, ∃ xs, H b = some (.lst xs)
  | _, _, _, .top, b, hb => nomatch hb
  | _, _, _, .up s _ _ _ e _, b, hb => by
    rcases List.mem_cons.mp hb with rfl | hb
    · exact ⟨_, e⟩
    · exact s.has b hb
theorem mem_sum : ∀ {l : List Nat} {x : Nat}, x ∈ l → x ≤ l.sum
  | [], _, h => nomatch h
  | y :: l, x, h => by
    rw [List.sum_cons]
    rcases List.mem_cons.mp h with rfl | h
    · omega
    · have := mem_sum h
      omega
theorem item_size {t u : Tr} {k : Nat} (h : u.items[k]? = some (.inr t)) : t.size < u.size := by
  have hm := List.mem_of_getElem? h
  unfold Tr.items at hm
  rcases List.mem_append.mp hm with hm | hm
  · obtain ⟨a, _, e⟩ := List.mem_map.mp hm
    cases e
  · obtain ⟨v, hv, e⟩ := List.mem_map.mp hm
    cases e
    rw [u.size_parts]
    have : t.size ≤ (u.parts.map Tr.size).sum := mem_sum (List.mem_map_of_mem hv)
    omega
theorem Stk.deep {H : Hp} {T : Tr} : ∀ {t : Tr} {as : List Addr} {rest : List (List Nat)}, Stk H T t as rest → as.length + t.size ≤ T.size
  | _, _, _, .top => by simp
  | _, _, _, .up s _ _ at_ _ _ => by
    have a := s.deep
    have b := item_size at_
    rw [List.length_cons]
    omega
/-- a tree begins within another -/
theorem At8.push {T : Tr} {H0 : Hp} {L : Addr} {H : Hp} {t u : Tr} {a : Addr} {as : List Addr} {rest : List (List Nat)} (r : Run8 T H0 L H t a as rest) {ys : List V} {i : Nat} (ea : H a = some (.lst (.str t.word :: ys)))
    (pr : Paired (ItAt H) (t.items.take ys.length) ys) (hit : t.items[ys.length]? = some (.inr u)) (ou : u.Ok) (op : u.isOp = true) (dr : T.toks.drop i = tl u.word :: (restI u 0 ++ (restI t (ys.length + 1) ++ rest)))
    {p : Addr} (hp : H p = none) (h0 : H0 p = none) : At8 T H0 L i (upd (upd H p (.lst [])) L (.lst ((a :: as).reverse.map V.ref ++ [.ref p]))) := by
  have npL : p ≠ L := fun e => by rw [e, r.l] at hp; cases hp
  have has : ∀ b ∈ a :: as, ∃ xs, H b = some (.lst xs) := fun b hb => by
    rcases List.mem_cons.mp hb with rfl | hb
    · exact ⟨_, ea⟩
    · exact r.s.has b hb
  have npa : p ∉ a :: as := fun e => by
    obtain ⟨xs, h⟩ := has p e
    rw [hp] at h
    cases h
  have s1 : Same H (upd H p (.lst [])) := same_new hp
  have e1 : (upd H p (.lst [])) L = some (.lst ((a :: as).reverse.map V.ref)) := s1 _ _ r.l
  have k : TK H (upd (upd H p (.lst [])) L (.lst ((a :: as).reverse.map V.ref ++ [.ref p]))) := (TK.of s1).trans (TK.lst e1)
  have st : ∀ b ∈ a :: as, ∀ xs, H b = some (.lst xs) → (upd (upd H p (.lst [])) L (.lst ((a :: as).reverse.map V.ref ++ [.ref p]))) b = some (.lst xs) := fun b hb xs e => by
    rw [upd_ne (fun z : b = L => r.nl (z ▸ hb))]
    exact s1 _ _ e
  refine .inr ⟨u, p, a :: as, _, [], ⟨ou, op, .up (r.s.keep k fun b hb => st b (by simp [hb])) r.ok r.op hit (st a (by simp) _ ea) (paired_mono (fun _ _ => ItAt.mono k) pr), ?_, List.nodup_cons.mpr ⟨npa, r.nd⟩, fun e => ?_, fun b hb => ?_⟩, ?_, .inl ⟨rfl, dr⟩⟩
  · rw [upd_same, rev_cons p]
  · rcases List.mem_cons.mp e with e | e
    · exact npL e.symm
    · exact r.nl e
  · rcases List.mem_cons.mp hb with rfl | hb
    · exact h0
    · exact r.nw b hb
  · rw [upd_ne npL]
    exact upd_same
theorem Run8.item' {T : Tr} {H0 : Hp} {L : Addr} {H : Hp} {t : Tr} {a : Addr} {as : List Addr} {rest : List (List Nat)} (r : Run8 T H0 L H t a as rest) {ys : List V} {it : It8} {v : V} {i : Nat} (ea : H a = some (.lst (.str t.word :: ys)))
    (pr : Paired (ItAt H) (t.items.take ys.length) ys) (hit : t.items[ys.length]? = some it) (hv : ItAt H it v) (dr : T.toks.drop i = restI t (ys.length + 1) ++ rest) : At8 T H0 L i (upd H a (.lst (.str t.word :: ys ++ [v]))) := At8.item r ea pr hit hv dr
theorem Run8.push' {T : Tr} {H0 : Hp} {L : Addr} {H : Hp} {t u : Tr} {a : Addr} {as : List Addr} {rest : List (List Nat)} (r : Run8 T H0 L H t a as rest) {ys : List V} {i : Nat} (ea : H a = some (.lst (.str t.word :: ys)))
    (pr : Paired (ItAt H) (t.items.take ys.length) ys) (hit : t.items[ys.length]? = some (.inr u)) (ou : u.Ok) (op : u.isOp = true) (dr : T.toks.drop i = tl u.word :: (restI u 0 ++ (restI t (ys.length + 1) ++ rest)))
    {p : Addr} (hp : H p = none) (h0 : H0 p = none) : At8 T H0 L i (upd (upd H p (.lst [])) L (.lst ((a :: as).reverse.map V.ref ++ [.ref p]))) := At8.push r ea pr hit ou op dr hp h0
theorem Run8.same {T : Tr} {H0 : Hp} {L : Addr} {H H' : Hp} {t : Tr} {a : Addr} {as : List Addr} {rest : List (List Nat)} (r : Run8 T H0 L H t a as rest) (s : Same H H') : Run8 T H0 L H' t a as rest :=
  ⟨r.ok, r.op, r.s.keep (TK.of s) fun b _ xs e => s _ _ e, s _ _ r.l, r.nd, r.nl, r.nw⟩
theorem classify8 {T : Tr} {H0 : Hp} {L i : Nat} {H : Hp} (oT : T.Ok) (sz : T.size ≤ 900) (sH : Same H0 H) (h : At8 T H0 L i H) (hi : i < T.toks.length) :
    (∃ fs, H L = some (.lst fs) ∧ KA8 H fs (Str.ofString "part") ∧ T.toks[i] = [40] ∧ fs.length ≤ 1000 ∧ ∀ H' p, Same H H' → H' p = none → At8 T H0 L (i + 1) (upd (upd H' p (.lst [])) L (.lst (fs ++ [.ref p])))) ∨
    (∃ fs b zs z R, H L = some (.lst (fs ++ [.ref b])) ∧ H b = some (.lst zs) ∧ H0 b = none ∧ KA8 H (fs ++ [.ref b]) z ∧ (z = Str.ofString "part" → T.toks[i] ≠ [40]) ∧ z ≠ S [41] ∧ zs.length ≤ 10 ∧ RW8 T.toks[i] z R ∧
      ∀ H' v, Same H H' → R H' v → v ≠ .non ∧ At8 T H0 L (i + 1) (upd H' b (.lst (zs ++ [v])))) ∨
    (H L = some (.lst []) ∧ T.isOp = false ∧ i = 0 ∧ T.toks.length = 1 ∧ T.toks[i] = T.text) ∨
    (∃ fs b zs, H L = some (.lst (fs ++ [.ref b])) ∧ H b = some (.lst zs) ∧ b ≠ L ∧ KA8 H (fs ++ [.ref b]) (S [41]) ∧ T.toks[i] = [41] ∧ zs.length ≤ 10 ∧ ∀ H' p, Same H H' → H' p = none →
      (fs = [] ∧ TrAt (upd (upd H' L (.lst fs)) p (.tup zs)) T (.ref p) ∧ i + 1 = T.toks.length) ∨
      (∃ gs c us, fs = gs ++ [V.ref c] ∧ (upd (upd H' L (.lst fs)) p (.tup zs)) c = some (.lst us) ∧ H0 c = none ∧ us.length ≤ 10 ∧ At8 T H0 L (i + 1) (upd (upd (upd H' L (.lst fs)) p (.tup zs)) c (.lst (us ++ [.ref p]))))) := by
  rcases h with ⟨rfl, eL⟩ | ⟨t, a, as, rest, xs, r, ea, h⟩
  · cases hop : T.isOp with
    | false =>
      have et := leaf_toks hop
      refine .inr (.inr (.inl ⟨eL, rfl, rfl, by rw [et]; rfl, ?_⟩))
      simp only [et]
      rfl
    | true =>
      have et := toks_items hop
      refine .inl ⟨[], eL, .inl ⟨rfl, rfl⟩, by simp only [et]; rfl, Nat.zero_le _, fun H' p s hp => ?_⟩
      have h0 : H0 p = none := by
        cases e : H0 p with
        | none => rfl
        | some o => rw [s _ _ (sH _ _ e)] at hp; cases hp
      have npL : p ≠ L := fun e => by rw [e, s _ _ eL] at hp; cases hp
      refine .inr ⟨T, p, [], [], [], ⟨oT, hop, .top, upd_same, by simp, by simpa using Ne.symm npL, fun b hb => ?_⟩, ?_, .inl ⟨rfl, ?_⟩⟩
      · rw [List.mem_singleton.mp hb]
        exact h0
      · rw [upd_ne npL]
        exact upd_same
      · rw [et, List.append_nil]
        rfl
  · have lim := r.s.deep
    have la : (a :: as).reverse.length ≤ 1000 := by
      have := t.size_pos
      rw [List.length_reverse, List.length_cons]
      omega
    have eL := r.l
    rw [rev_cons] at eL
    obtain ⟨ks, k1, k2, k3⟩ := items_kind r.ok r.op
    have l5 := items_len r.ok r.op
    rcases h with ⟨rfl, dr⟩ | ⟨ys, rfl, pr, ly, dr⟩
    · obtain ⟨hw, hd⟩ := drop_head hi dr
      refine .inr (.inl ⟨_, a, [], Str.ofString "word", fun _ v => v = .str t.word, eL, ea, r.nw a (List.mem_cons_self ..), .inr ⟨_, a, [], rfl, ea, .inl ⟨rfl, rfl⟩⟩, fun e => absurd e (by decide +kernel), (by decide +kernel), Nat.zero_le _, fun H1 Q q => ?_, fun H' v s hv => ?_⟩)
      · obtain ⟨_, n1, n2⟩ := r.ok.op r.op
        rw [hw]
        exact .inr (.inl ⟨t.word, ks, by rw [show S (tl t.word) = t.word from SX.S_tl _], k1, n1, n2, fun H' s => q _ _ s rfl⟩)
      · subst hv
        refine ⟨(fun e => nomatch e), ?_⟩
        have r2 := r.same s
        have ea2 := s _ _ ea
        have k : TK H' (upd H' a (.lst ([] ++ [.str t.word]))) := TK.lst ea2
        refine .inr ⟨t, a, as, rest, _, r2.keep k (upd_ne fun e => r.nl (by rw [e]; exact List.mem_cons_self ..)) fun b hb xs e => ?_, upd_same, .inr ⟨[], rfl, .nil, Nat.zero_le _, hd⟩⟩
        rw [upd_ne (fun z : b = a => (List.nodup_cons.mp r.nd).1 (z ▸ hb))]
        exact e
    · by_cases hk : ys.length < t.items.length
      · have hit := List.getElem?_eq_getElem hk
        have kd3 := k3 _ _ hit
        rw [rest_step hit] at dr
        cases hi2 : t.items[ys.length] with
        | inl ar =>
          rw [hi2] at hit kd3 dr
          obtain ⟨kd, e1, o1⟩ := kd3
          have dr : T.toks.drop i = ar.text :: (restI t (ys.length + 1) ++ rest) := dr
          obtain ⟨hw, hd⟩ := drop_head hi dr
          refine .inr (.inl ⟨_, a, _, kindS (some kd), fun H v => ArAt H ar v, eL, ea, r.nw a (List.mem_cons_self ..), .inr ⟨_, a, _, rfl, ea, .inr ⟨t.word, ks, ys, rfl, k1, .inl ⟨_, e1, rfl⟩⟩⟩, fun e => (kindS_part e).elim, kindS_no _, by rw [List.length_cons]; omega, fun H1 Q q => ?_, fun H' v s hv => ⟨ar_non hv, ?_⟩⟩)
          · rw [hw]
            exact .inr (.inr (.inr ⟨kd, ar, rfl, o1, fun H' v s av => q _ _ s av⟩))
          · exact (r.same s).item' (s _ _ ea) (paired_mono (fun _ _ => ItAt.mono (TK.of s)) pr) hit hv hd
        | inr u =>
          rw [hi2] at hit kd3 dr
          obtain ⟨e1, ou⟩ := kd3
          have dr : T.toks.drop i = u.toks ++ (restI t (ys.length + 1)) ++ rest := dr
          cases hop : u.isOp with
          | false =>
            rw [leaf_toks hop] at dr
            have dr : T.toks.drop i = u.text :: (restI t (ys.length + 1) ++ rest) := dr
            obtain ⟨hw, hd⟩ := drop_head hi dr
            have pl := plain_no (leaf_plain ou hop)
            refine .inr (.inl ⟨_, a, _, kindS none, fun H v => TrAt H u v, eL, ea, r.nw a (List.mem_cons_self ..), .inr ⟨_, a, _, rfl, ea, .inr ⟨t.word, ks, ys, rfl, k1, .inl ⟨_, e1, rfl⟩⟩⟩, fun _ => by rw [hw]; exact pl.1, kindS_no _, by rw [List.length_cons]; omega, fun H1 Q q => ?_, fun H' v s hv => ⟨tr_ref hv, ?_⟩⟩)
            · rw [hw]
              exact .inr (.inr (.inl ⟨u, rfl, ou, hop, fun H' v s av => q _ _ s av⟩))
            · exact (r.same s).item' (s _ _ ea) (paired_mono (fun _ _ => ItAt.mono (TK.of s)) pr) hit hv hd
          | true =>
            rw [toks_items hop] at dr
            have dr : T.toks.drop i = [40] :: (tl u.word :: (restI u 0 ++ (restI t (ys.length + 1) ++ rest))) := by
              rw [dr]
              simp
            obtain ⟨hw, hd⟩ := drop_head hi dr
            refine .inl ⟨_, r.l, ?_, hw, by rw [List.length_map]; exact la, fun H' p s hp => ?_⟩
            · rw [rev_cons]
              exact .inr ⟨_, a, _, rfl, ea, .inr ⟨t.word, ks, ys, rfl, k1, .inl ⟨_, e1, rfl⟩⟩⟩
            · have h0 : H0 p = none := by
                cases e : H0 p with
                | none => rfl
                | some o => rw [s _ _ (sH _ _ e)] at hp; cases hp
              exact (r.same s).push' (s _ _ ea) (paired_mono (fun _ _ => ItAt.mono (TK.of s)) pr) hit ou hop hd hp h0
      · rw [rest_end (by omega)] at dr
        have dr : T.toks.drop i = [41] :: rest := dr
        obtain ⟨hw, hd⟩ := drop_head hi dr
        refine .inr (.inr (.inr ⟨_, a, _, eL, ea, (fun e => r.nl (by rw [← e]; exact List.mem_cons_self ..)), .inr ⟨_, a, _, rfl, ea, .inr ⟨t.word, ks, ys, rfl, k1, .inr ⟨by omega, rfl⟩⟩⟩, hw, by rw [List.length_cons]; omega, fun H' p s hp => ?_⟩))
        have eL2 := s _ _ eL
        have npL : p ≠ L := fun e => by rw [e, eL2] at hp; cases hp
        have k1' : TK H' (upd H' L (.lst (as.reverse.map V.ref))) := TK.lst eL2
        have hp2 : (upd H' L (.lst (as.reverse.map V.ref))) p = none := by
          rw [upd_ne npL]
          exact hp
        have s2 := same_new (o := .tup (.str t.word :: ys)) hp2
        have k : TK H (upd (upd H' L (.lst (as.reverse.map V.ref))) p (.tup (.str t.word :: ys))) := (TK.of s).trans (k1'.trans (TK.of s2))
        have tr : TrAt (upd (upd H' L (.lst (as.reverse.map V.ref))) p (.tup (.str t.word :: ys))) t (.ref p) := by
          refine items_tree r.op upd_same ?_
          rw [List.take_of_length_le (by omega)] at pr
          exact paired_mono (fun _ _ => ItAt.mono k) pr
        have rs := r.s
        have rnd := r.nd
        have rnl := r.nl
        have rnw := r.nw
        cases rs with
        | top =>
          refine .inl ⟨rfl, tr, ?_⟩
          have := congrArg List.length hd
          rw [List.length_drop, List.length_nil] at this
          omega
        | @up _ u c as' rest' ys2 s3 ok3 op3 at3 e3 pr3 =>
          have ncL : c ≠ L := fun e => rnl (by simp [e])
          have ncp : c ≠ p := fun e => by rw [← e, s _ _ e3] at hp; cases hp
          have old : ∀ b ∈ c :: as', ∀ xs, H b = some (.lst xs) → (upd (upd H' L (.lst ((c :: as').reverse.map V.ref))) p (.tup (.str t.word :: ys))) b = some (.lst xs) := fun b hb xs e => by
            rw [upd_ne (fun z : b = p => by rw [← z, s _ _ e] at hp; cases hp), upd_ne (fun z : b = L => rnl (z ▸ List.mem_cons_of_mem _ hb))]
            exact s _ _ e
          have lt3 := (List.getElem?_eq_some_iff.mp at3).1
          have l3 := items_len ok3 op3
          refine .inr ⟨as'.reverse.map V.ref, c, .str u.word :: ys2, rev_cons c as', old c (by simp) _ e3, rnw c (by simp), by rw [List.length_cons]; omega, ?_⟩
          have run : Run8 T H0 L (upd (upd H' L (.lst ((c :: as').reverse.map V.ref))) p (.tup (.str t.word :: ys))) u c as' rest' :=
            ⟨ok3, op3, s3.keep k fun b hb => old b (by simp [hb]), by rw [upd_ne (Ne.symm npL)]; exact upd_same, (List.nodup_cons.mp rnd).2, fun e => rnl (List.mem_cons_of_mem _ e), fun b hb => rnw b (List.mem_cons_of_mem _ hb)⟩
          exact run.item' (old c (by simp) _ e3) (paired_mono (fun _ _ => ItAt.mono k) pr3) at3 tr hd
end Wd

set_option Elab.async false
set_option linter.all false
set_option maxRecDepth 100000
set_option maxHeartbeats 4000000
set_option pp.maxSteps 400
set_option pp.deepTerms false
namespace Wd
open PySem L2 TL
open SX (S)

def spTreeWords : Sp := fun vs H Q _ => ∃ (a : Addr) (T : Tr), vs = [.ref a] ∧ H a = some (.lst (wV T.toks)) ∧ T.Ok ∧ T.size ≤ 900 ∧ ∀ H' v, Same H H' → TrAt H' T v → Q v H'
/-- two ways of an if that lead to the same -/
theorem join_if {c : TT} {a u : TS} {D : Ends} {σ : L2.St} {H : Hp} (Good : L2.St → Hp → Prop) (h : ∀ nx : L2.St → Hp → Prop, (∀ σ' H', Good σ' H' → nx σ' H') → tIfS c a tNext { D with nx := nx } σ H) (k : ∀ σ' H', Good σ' H' → u D σ' H') : tSeq (tIfS c a tNext) u D σ H := h _ k
theorem toks_ne {T : Tr} : T.toks ≠ [] := by
  cases h : T.isOp with
  | true =>
    rw [toks_items h]
    simp
  | false =>
    rw [leaf_toks h]
    simp
theorem str_ne {z y : Str} (h : z ≠ y) : decide (V.str z = V.str y) = false := decide_eq_false fun e => h (by injection e)
theorem str_eq {z y : Str} (h : z = y) : decide (V.str z = V.str y) = true := decide_eq_true (by rw [h])
section
variable {P : Program} {w : World} {K : PySem.W.Frag} {mg : Str → Option Value} {base : Heap} {fK fR : Addr} {dK dR : FuncData}
abbrev nTreeWords : List Str := ["words", "begun", "index", "word", "kind", "item"]
theorem scTreeWords : FnScope nTreeWords ["words"] (defScope sTreeOfWords) := ⟨rfl, rfl, rfl, by decide +kernel, rfl, by decide +kernel, by decide +kernel⟩
theorem ok_tree_of_words {f : Addr} {fd : FuncData} (F : Fun K "tree_of_words" "tree_of_words" sTreeOfWords f fd) (X : JTxt mg) (Y : NTxt mg) (A : At P w K mg base 1 "kind_after" fK dK ["begun"] spKindAfter) (R : At P w K mg base 7 "read_word" fR dR ["word", "kind"] spReadWord) :
    FnOk P w K mg base CX0 8 f fd ["words"] spTreeWords := by
  refine F.ok scTreeWords (fun vs H Q E h => ?_) (fun cdv Ao outer s H vs Q E hr h => ?_)
  · obtain ⟨a, T, rfl, _⟩ := h
    rfl
  · obtain ⟨a0, T, rfl, e0, oT, sz, q⟩ := h
    have nd := scTreeWords.nd
    refine ⟨_, pss_cons (ps_set (i := 1) nd rfl (Or.inl rfl) (pe_lst pa_nil))
      (pss_cons (ps_for PassesOwn.never rfl (pi_enum (by rfl) X.enum (pa_cons (pv 0) pa_nil)) (pg_tup rfl (pgs_cons (pg_name (i := 2) nd rfl (Or.inl rfl)) (pgs_cons (pg_name (i := 3) nd rfl (Or.inl rfl)) pgs_nil)))
        (pss_cons (ps_set (i := 4) nd rfl (Or.inl rfl) (pe_call A.g (hr.mono (by decide)) rfl A.m A.kp A.b .nil pass0 (pa_cons (pv 1) pa_nil)))
        (pss_cons (ps_if (PW.pt (pw_and (pt_cmpR op_eq (pv 4) pe_str (nomark _)) (pw_and1 (pt_cmpR op_eq (pv 3) pe_str (nomark _)))))
          (pss_cons (ps_expr (pe_bm PySem.F.plainAttrs_list PySem.F.slot_list_append PySem.F.type_list_append mt_append (pv 1) (pa_cons (pe_lst pa_nil) pa_nil))) (pss_one ps_continue)) pss_nil)
        (pss_cons (ps_set (i := 5) nd rfl (Or.inl rfl) (pe_call R.g hr rfl R.m R.kp R.b .nil pass0 (pa_cons (pv 3) (pa_cons (pv 4) pa_nil))))
        (pss_cons (ps_if (pt_cmp (pc_isN (pv 5)) rfl) (pss_one ps_never) pss_nil)
        (pss_cons (ps_if (pt_cmpR op_eq (pv 4) pe_str (nomark _)) (pss_one (ps_set (i := 5) nd rfl (Or.inl rfl) (pe_callTy call_tuple_of (by rfl) Y.tup (by decide +kernel) (pa_cons (pe_bm0 PySem.F.plainAttrs_list PySem.F.slot_list_pop PySem.F.type_list_pop mt_pop (pv 1)) pa_nil)))) pss_nil)
        (pss_one (ps_if (pt_cmpR op_gt (pe_callB call_len_seq (by rfl) Y.len PySem.boot_len (pa_cons (pv 1) pa_nil)) pe_int (nomark _))
          (pss_one (ps_expr (pe_bm PySem.F.plainAttrs_list PySem.F.slot_list_append PySem.F.type_list_append mt_append (pe_ix ix_list (pv 1) (pe_un un_neg pe_int) (fun _ _ => rfl)) (pa_cons (pv 5) pa_nil))))
          (pss_one (ps_if (pt_cmpR op_eq (pe_op op_add (pv 2) pe_int) (pe_callB call_len_seq (by rfl) Y.len PySem.boot_len (pa_cons (pv 0) pa_nil)) (nomark _)) (pss_one (ps_ret (pv 5))) (pss_one ps_never)))))))))))
      (pss_one ps_never)), ?_⟩
    refine ⟨(by show 0 ≤ sizeLine; decide), fun L hL => ?_⟩
    have sL := same_new (o := .lst []) hL
    have qL : (upd H L (.lst [])) L = some (.lst []) := upd_same
    generalize upd H L (.lst []) = H1 at sL qL
    refine ⟨_, rfl, a0, _, rfl, SqL.of (sL _ _ e0), ?_⟩
    have lw := wV_len T.toks
    refine for_it (n := (wV T.toks).length) (walk_enum (K := K) (a := a0) (xs := wV T.toks)) (fun i σ H' => ∃ v2 v3 v4 v5 : Option V, σ = [some (.ref a0), some (.ref L), v2, v3, v4, v5] ∧ Same H H' ∧ At8 T H L i H')
      ⟨_, _, _, _, rfl, sL, .inl ⟨rfl, qL⟩⟩ (fun _ _ _ _ ⟨_, _, _, _, _, s, _⟩ => SqL.of (s _ _ e0)) ?_ ?_
    · rintro i x σ H2 H' hi ⟨v2, v3, v4, v5, rfl, sH, st⟩ ⟨T0, x1, y1, rfl, hT, rfl, h3, h4⟩
      rw [lw] at hi
      have g1 : some (V.int (i : Nat)) = some x1 := h3
      have g2 : (wV T.toks)[i]? = some y1 := h4
      rw [wV_get hi] at g2
      cases g1
      cases g2
      have sT := same_new (o := .tup [.int (i : Nat), .str (S T.toks[i])]) hT
      have qT : (upd H2 T0 (.tup [.int (i : Nat), .str (S T.toks[i])])) T0 = some (.tup [.int (i : Nat), .str (S T.toks[i])]) := upd_same
      generalize upd H2 T0 (.tup [.int (i : Nat), .str (S T.toks[i])]) = H3 at sT qT
      have sH := sH.trans sT
      have st : At8 T H L i H3 := by
        rcases st with ⟨h1, h2⟩ | ⟨t, a, as, rest, xs, r, ea, h⟩
        · exact .inl ⟨h1, sT _ _ h2⟩
        · refine .inr ⟨t, a, as, rest, xs, r.same sT, sT _ _ ea, ?_⟩
          rcases h with h | ⟨ys, h1, h2, h3, h4⟩
          · exact .inl h
          · exact .inr ⟨ys, h1, paired_mono (fun _ _ => ItAt.mono (TK.of sT)) h2, h3, h4⟩
      refine ⟨T0, _, rfl, SqT.of qT, rfl, _, _, rfl, _, _, rfl, rfl, ?_⟩
      have noL : ∀ {H' : Hp} {o : HO}, Same H H' → Same H (upd H' L o) := fun {H' o} s b ob e => by
        rw [upd_ne (ne_of_none e hL)]
        exact s b ob e
      rcases classify8 oT sz sH st hi with ⟨fs, eL, ka, hw, lf, nx⟩ | ⟨fs, b, zs, z, Rv, eL, eb, b0, ka, np, nz, lz, rw8, nx⟩ | ⟨eL, io, i0, n1, hw⟩ | ⟨fs, b, zs, eL, eb, nbL, ka, hw, lz, nx⟩
      · -- a tree begins
        refine ⟨_, rfl, L, fs, rfl, eL, _, fun H4 s4 => ?_, ka⟩
        refine ⟨_, rfl, rfl, _, rfl, ?_⟩
        rw [str_eq rfl]
        refine iteT ⟨_, rfl, rfl, _, rfl, ?_⟩
        rw [hw, str_eq (show S [40] = Str.ofString "(" from rfl)]
        have eL4 := s4 _ _ eL
        refine iteT ⟨_, rfl, .inl ⟨rfl, _, SqL.of eL4⟩, (by show 0 ≤ sizeLine; decide), fun p hp => ?_⟩
        have s5 := same_new (o := .lst []) hp
        refine ⟨L, fs, .ref p, rfl, rfl, s5 _ _ eL4, small1000 (by omega), ?_⟩
        exact ⟨_, _, _, _, rfl, noL ((sH.trans s4).trans s5), nx H4 p s4 hp⟩
      · -- a word of the tree
        refine ⟨_, rfl, L, _, rfl, eL, z, fun H4 s4 => ?_, ka⟩
        dsimp only [gName]
        refine join_if (Good := fun σ' H' => σ' = [some (.ref a0), some (.ref L), some (.int (i : Nat)), some (.str (S T.toks[i])), some (.str z), v5] ∧ H' = H4) (fun nxt hn => ?_) ?_
        · refine ⟨_, rfl, rfl, _, rfl, ?_⟩
          by_cases hz : z = Str.ofString "part"
          · rw [str_eq hz]
            refine iteT ⟨_, rfl, rfl, _, rfl, ?_⟩
            rw [str_ne (show S T.toks[i] ≠ Str.ofString "(" from fun e => np hz (SX.S_inj (show S T.toks[i] = S [40] from e)))]
            exact iteF (hn _ _ ⟨rfl, rfl⟩)
          · rw [str_ne hz]
            exact iteF (hn _ _ ⟨rfl, rfl⟩)
        · rintro σ' H' ⟨rfl, rfl⟩
          refine ⟨_, rfl, _, rfl, ?_⟩
          dsimp only [tNil, List.append_nil]
          refine rw8 _ _ fun H5 v s5 hv => ?_
          obtain ⟨vn, at5⟩ := nx H5 v (s4.trans s5) hv
          refine ⟨_, rfl, _, rfl, ?_⟩
          rw [decide_eq_false vn]
          refine iteF ⟨_, rfl, rfl, _, rfl, ?_⟩
          rw [str_ne (show z ≠ Str.ofString ")" from nz)]
          have eL5 := s5 _ _ (s4 _ _ eL)
          have eb5 := s5 _ _ (s4 _ _ eb)
          refine iteF ⟨_, rfl, L, _, rfl, .inl (SqL.of eL5), _, _, rfl, rfl, _, rfl, ?_⟩
          rw [decide_eq_true (by rw [List.length_append, List.length_singleton]; omega)]
          refine iteT ⟨_, rfl, _, rfl, L, _, _, _, rfl, rfl, SqL.of eL5, atI_last _ _, .inl ⟨rfl, _, SqL.of eb5⟩, _, rfl, b, zs, v, rfl, rfl, eb5, small1000 (by omega), ?_⟩
          refine ⟨_, _, _, _, rfl, fun c o e => ?_, at5⟩
          rw [upd_ne (ne_of_none e b0)]
          exact s5 _ _ (s4 _ _ (sH c o e))
      · -- a tree that is one word
        refine ⟨_, rfl, L, _, rfl, eL, Str.ofString "part", fun H4 s4 => ?_, .inl ⟨rfl, rfl⟩⟩
        have pl := plain_no (leaf_plain oT io)
        refine ⟨_, rfl, rfl, _, rfl, ?_⟩
        rw [str_eq rfl]
        refine iteT ⟨_, rfl, rfl, _, rfl, ?_⟩
        rw [hw, str_ne (show S T.text ≠ Str.ofString "(" from fun e => pl.1 (SX.S_inj (show S T.text = S [40] from e)))]
        refine iteF ⟨_, rfl, _, rfl, ?_⟩
        dsimp only [tNil, List.append_nil]
        refine .inr (.inr (.inl ⟨T, rfl, oT, io, fun H5 v s5 tv => ?_⟩))
        refine ⟨_, rfl, _, rfl, ?_⟩
        rw [decide_eq_false (tr_ref tv)]
        refine iteF ⟨_, rfl, rfl, _, rfl, ?_⟩
        rw [str_ne (show Str.ofString "part" ≠ Str.ofString ")" by decide +kernel)]
        have eL5 := s5 _ _ (s4 _ _ eL)
        refine iteF ⟨_, rfl, L, _, rfl, .inl (SqL.of eL5), _, _, rfl, rfl, _, rfl, ?_⟩
        rw [decide_eq_false (by simp)]
        have sH5 := (sH.trans s4).trans s5
        refine iteF ⟨_, rfl, _, _, rfl, rfl, _, rfl, a0, _, rfl, .inl (SqL.of (sH5 _ _ e0)), rfl, _, rfl, ?_⟩
        rw [lw, n1, i0, show decide ((fun i j : Int => V.int (i + j)) ((0 : Nat) : Int) 1 = V.int ((1 : Nat) : Int)) = true from decide_eq_true rfl]
        exact iteT ⟨_, rfl, q _ _ sH5 tv⟩
      · -- a tree ends
        refine ⟨_, rfl, L, _, rfl, eL, _, fun H4 s4 => ?_, ka⟩
        refine ⟨_, rfl, rfl, _, rfl, ?_⟩
        rw [str_ne (show S [41] ≠ Str.ofString "part" by decide +kernel)]
        refine iteF (iteF ⟨_, rfl, _, rfl, ?_⟩)
        dsimp only [tNil, List.append_nil]
        refine .inl ⟨by rw [hw]; rfl, fun H5 s5 => ?_⟩
        refine ⟨_, rfl, _, rfl, ?_⟩
        rw [decide_eq_false (show V.str (S [41]) ≠ V.non from fun e => nomatch e)]
        refine iteF ⟨_, rfl, rfl, _, rfl, ?_⟩
        rw [str_eq (show S [41] = Str.ofString ")" from rfl)]
        have eL5 := s5 _ _ (s4 _ _ eL)
        have eb5 := s5 _ _ (s4 _ _ eb)
        refine iteT ⟨_, rfl, .inl ⟨rfl, _, SqL.of eL5⟩, L, _, .ref b, rfl, rfl, eL5, by simp, ?_⟩
        rw [List.dropLast_concat]
        have e6 : (upd H5 L (.lst fs)) b = some (.lst zs) := by
          rw [upd_ne nbL]
          exact eb5
        refine ⟨b, zs, rfl, .inl ⟨SqL.of e6, fun p hp => ?_⟩⟩
        have npL : p ≠ L := fun e => by
          rw [e, upd_same] at hp
          cases hp
        have hp5 : H5 p = none := by
          rw [upd_ne npL] at hp
          exact hp
        have eL7 : (upd (upd H5 L (.lst fs)) p (.tup zs)) L = some (.lst fs) := by
          rw [upd_ne (Ne.symm npL)]
          exact upd_same
        have sH5 := (sH.trans s4).trans s5
        have sH7 : Same H (upd (upd H5 L (.lst fs)) p (.tup zs)) := (noL sH5).trans (same_new hp)
        refine ⟨_, rfl, L, fs, rfl, .inl (SqL.of eL7), _, _, rfl, rfl, _, rfl, ?_⟩
        rcases nx H5 p (s4.trans s5) hp5 with ⟨rfl, tr, en⟩ | ⟨gs, c, us, rfl, ec, c0, lu, at7⟩
        · rw [decide_eq_false (by simp)]
          refine iteF ⟨_, rfl, _, _, rfl, rfl, _, rfl, a0, _, rfl, .inl (SqL.of (sH7 _ _ e0)), rfl, _, rfl, ?_⟩
          rw [lw, ← en, decide_eq_true (show V.int ((i : Nat) + 1) = V.int ((i + 1 : Nat) : Int) from rfl)]
          exact iteT ⟨_, rfl, q _ _ sH7 tr⟩
        · rw [decide_eq_true (by rw [List.length_append, List.length_singleton]; omega)]
          refine iteT ⟨_, rfl, _, rfl, L, _, _, _, rfl, rfl, SqL.of eL7, atI_last _ _, .inl ⟨rfl, _, SqL.of ec⟩, _, rfl, c, us, .ref p, rfl, rfl, ec, small1000 (by omega), ?_⟩
          refine ⟨_, _, _, _, rfl, fun d o e => ?_, at7⟩
          rw [upd_ne (ne_of_none e c0)]
          exact sH7 d o e
    · rintro σ H9 ⟨v2, v3, v4, v5, rfl, sH, st⟩
      exfalso
      rw [lw] at st
      rcases st with ⟨h, _⟩ | ⟨t, a, as, rest, xs, r, ea, h⟩
      · exact toks_ne (List.eq_nil_of_length_eq_zero h)
      · have nil : T.toks.drop T.toks.length = [] := List.drop_length
        rcases h with ⟨_, h⟩ | ⟨ys, _, _, _, h⟩
        · rw [nil] at h
          cases h
        · rw [nil] at h
          unfold restI at h
          have := congrArg List.length h
          simp at this
end
end Wd

set_option Elab.async false
set_option linter.all false
set_option maxRecDepth 100000
set_option maxHeartbeats 4000000
set_option pp.maxSteps 400
set_option pp.deepTerms false
namespace Wd
open PySem L2 TL
open SX (S)

theorem sig_short : ∀ p ∈ sig, (tl p.1).length ≤ 8 := by decide +kernel
theorem Ar.Ok.len : ∀ {k : Kind} {a : Ar}, a.Ok k → a.text.length ≤ 100
  | .delay, .num n, o => Nat.le_trans (num_len o.2) (by decide)
  | .count, .num n, o => Nat.le_trans (num_len (Nat.le_trans o.2 (by decide))) (by decide)
  | .room, .num n, o => Nat.le_trans (num_len (Nat.le_trans o.2 (by decide))) (by decide)
  | .width, .num n, o => Nat.le_trans (num_len (Nat.le_trans (show n ≤ 4 from o) (by decide))) (by decide)
  | .letter, .ltr c, _ => by show 1 ≤ 100; decide
  | .letters, .lets cs, o => Nat.le_trans (letters_len o) (by decide)
  | .places, .places ps, o => by
    by_cases e : ps = []
    · subst e
      show 1 ≤ 100
      decide
    · have et : (Ar.places ps).text = joinL [44] (ps.map numL) := if_neg e
      have a := join_len (s := 44) (xs := ps.map numL)
      have b := sum_le (xs := ps.map numL) (m := 1) fun x hx => by
        obtain ⟨n, hn, rfl⟩ := List.mem_map.mp hx
        have := o.2 n hn
        rw [numL_lt (by omega)]
        exact Nat.le_refl _
      have o1 := o.1
      rw [List.length_map] at a b
      rw [et]
      omega
  | .table, .table es, o => by
    have a := join_len (s := 44) (xs := es.map entL)
    have b := sum_le (xs := es.map entL) (m := 4) fun x hx => by
      obtain ⟨e, he, rfl⟩ := List.mem_map.mp hx
      rw [ent_len (o.2.2.1 e he)]
      exact Nat.le_refl _
    have o1 : es.length ≤ 20 := o.2.1
    rw [List.length_map] at a b
    show (joinL [44] (es.map entL)).length ≤ 100
    omega
theorem args_len {ks : List Kind} {as : List Ar} (o : Paired Ar.Ok ks as) : ((as.map Ar.text).map (·.length)).sum ≤ as.length * 100 := by
  have := sum_le (xs := as.map Ar.text) (m := 100) fun x hx => by
    obtain ⟨a, ha, rfl⟩ := List.mem_map.mp hx
    obtain ⟨k, hk⟩ := paired_ok o a ha
    exact hk.len
  rw [List.length_map] at this
  exact this
/-- texts of trees are short -/
theorem Tr.text_len : ∀ {t : Tr}, t.Ok → t.text.length ≤ 400 * t.size
  | .it, _ => by show 2 ≤ 400; decide
  | .src z, o => by
    have : (tl z).length = z.length := (len_tl z).symm
    have h := o.2.1
    show (tl z).length ≤ 400 * 1
    omega
  | .op0 w as, ⟨⟨ks, o⟩, _⟩ => by
    have a : ((as.map Ar.text).map (·.length)).sum ≤ as.length * 100 := args_len o.2
    have l : as.length ≤ 3 := sigs_len o
    have b := sig_short _ o.1
    have b : (tl w).length ≤ 8 := b
    have j := join_len (s := 32) (xs := tl w :: as.map Ar.text)
    rw [List.map_cons, List.sum_cons, List.length_cons, List.length_map] at j
    show ([40] ++ (joinL [32] (tl w :: as.map Ar.text) ++ [41])).length ≤ 400 * 1
    rw [List.length_append, List.length_append]
    show 1 + (_ + 1) ≤ _
    omega
  | .op1 w as t, ⟨⟨⟨ks, o⟩, _⟩, ot⟩ => by
    have a : ((as.map Ar.text).map (·.length)).sum ≤ as.length * 100 := args_len o.2
    have l : as.length ≤ 3 := sigs_len o
    have b := sig_short _ o.1
    have b : (tl w).length ≤ 8 := b
    have c := Tr.text_len ot
    have j := join_len (s := 32) (xs := tl w :: (as.map Ar.text ++ [t.text]))
    rw [List.map_cons, List.sum_cons, List.length_cons, List.map_append, List.sum_append, List.length_append, List.length_map] at j
    have e1 : (([t.text] : List (List Nat)).map (·.length)).sum = t.text.length + 0 := rfl
    have e2 : ([t.text] : List (List Nat)).length = 1 := rfl
    rw [e1, e2] at j
    show ([40] ++ (joinL [32] (tl w :: (as.map Ar.text ++ [t.text])) ++ [41])).length ≤ 400 * (1 + t.size)
    rw [List.length_append, List.length_append]
    show 1 + (_ + 1) ≤ _
    omega
  | .op2 w as t u, ⟨⟨⟨ks, o⟩, _⟩, ot, ou⟩ => by
    have a : ((as.map Ar.text).map (·.length)).sum ≤ as.length * 100 := args_len o.2
    have l : as.length ≤ 3 := sigs_len o
    have b := sig_short _ o.1
    have b : (tl w).length ≤ 8 := b
    have c := Tr.text_len ot
    have d := Tr.text_len ou
    have j := join_len (s := 32) (xs := tl w :: (as.map Ar.text ++ [t.text, u.text]))
    rw [List.map_cons, List.sum_cons, List.length_cons, List.map_append, List.sum_append, List.length_append, List.length_map] at j
    have e1 : (([t.text, u.text] : List (List Nat)).map (·.length)).sum = t.text.length + (u.text.length + 0) := rfl
    have e2 : ([t.text, u.text] : List (List Nat)).length = 2 := rfl
    rw [e1, e2] at j
    show ([40] ++ (joinL [32] (tl w :: (as.map Ar.text ++ [t.text, u.text])) ++ [41])).length ≤ 400 * (1 + (t.size + u.size))
    rw [List.length_append, List.length_append]
    show 1 + (_ + 1) ≤ _
    omega
def spText (n : Nat) : Sp := fun vs H Q _ => ∃ (v : V) (t : Tr), vs = [v] ∧ TrAt H t v ∧ t.Ok ∧ t.size ≤ n ∧ n ≤ 12 ∧ ∀ H', Same H H' → Q (.str (S t.text)) H'
section
variable {P : Program} {w : World} {K : PySem.W.Frag} {mg : Str → Option Value} {base : Heap} {fA fP tB dA : Addr} {dA' dP : FuncData} {es : Array DictEntry} {nA : Nat}
abbrev nTextOf : List Str := ["tree", "kinds", "texts", "words", "k", "part"]
theorem scTextOf : FnScope nTextOf ["tree"] (defScope sTextOf) := ⟨rfl, rfl, rfl, by decide +kernel, rfl, by decide +kernel, by decide +kernel⟩
theorem ok_text_of {f : Addr} {fd : FuncData} (F : Fun K "text_of" "text_of" sTextOf f fd) (X : NTxt mg) (m : mg "text_of" = some (.ref f)) (bd : Binds K fd ["tree"] []) (Z : STxt K w mg dA es nA) (B : BTxt K mg tB)
    (A : At P w K mg base 2 "argument_text" fA dA' ["value", "kind"] spArgText) (C : At P w K mg base 1 "parts_of" fP dP ["tree"] spParts) : ∀ n, FnOk P w K mg base CX0 (n + 3) f fd ["tree"] (spText n)
  | 0 => F.ok scTextOf (fun vs H Q E ⟨v, t, h, _⟩ => by rw [h]; rfl) fun cdv Ao outer s H vs Q E hr ⟨v, t, _, _, _, sz, _⟩ => absurd t.size_pos (by omega)
  | n + 1 => by
    have G := ok_text_of F X m bd Z B A C n
    refine F.ok scTextOf (fun vs H Q E h => ?_) (fun cdv Ao outer s H vs Q E hr h => ?_)
    · obtain ⟨v, t, rfl, _⟩ := h
      rfl
    · obtain ⟨v, t, rfl, tr, ok, sz, n12, q⟩ := h
      have nd := scTextOf.nd
      refine ⟨_, pss_cons (ps_if (pt_cmpR (r := rIn K false) op_in_seq (pe_ix ix_tup (pv 0) pe_int (fun _ _ => rfl)) (pe_gcon rfl B.g) (by rfl)) (pss_one (ps_ret (pe_ix ix_tup (pv 0) (pe_un un_neg pe_int) (fun _ _ => rfl)))) pss_nil)
        (pss_cons (ps_set (i := 1) nd rfl (Or.inr rfl) (pe_ix ix_kdict (pe_gcon rfl Z.g) (pe_ix ix_tup (pv 0) pe_int (fun _ _ => rfl)) (fun _ _ => rfl)))
        (pss_cons (ps_setLc (i := 2) (own := [("k", 4)]) (g := gName 4) rfl nd rfl rfl (sw_true rfl rfl rfl (by decide +kernel))
          (pi_range1 rfl X.range (pa_cons (pe_callB call_len_seq (by rfl) X.len PySem.boot_len (pa_cons (pv 1) pa_nil)) pa_nil)) (blkOk_by (N := nTextOf) (sc := defScope sTextOf) (by decide +kernel)) (fun _ _ _ _ _ => pg_name (i := 4) nd rfl (Or.inl rfl))
          (fun _ _ _ _ _ => pts_one (pt_cmpR op_ne (pe_ix (r := rIxT K) ix_tup (pv 1) (pv 4) (fun _ _ => rfl)) pe_str (nomark _)))
          (fun _ _ _ _ _ => pe_call A.g (hr.mono (by omega)) rfl A.m A.kp A.b .nil pass0 (pa_cons (pe_ix (r := rIxT K) ix_tup (pv 0) (pe_op op_add (pv 4) pe_int) (fun _ _ => rfl)) (pa_cons (pe_ix (r := rIxT K) ix_tup (pv 1) (pv 4) (fun _ _ => rfl)) pa_nil))))
        (pss_cons (ps_set (i := 3) nd rfl (Or.inl rfl) (pe_op op_cat (pe_op op_cat (pe_lst (pa_cons (pe_ix ix_tup (pv 0) pe_int (fun _ _ => rfl)) pa_nil)) (pv 2))
          (pe_lc (own := [("part", 5)]) (g := gName 5) (tt := tYes) rfl nd (pi_tup (pe_call C.g (hr.mono (by omega)) rfl C.m C.kp C.b .nil pass0 (pa_cons (pv 0) pa_nil))) (blkOk_by (N := nTextOf) (sc := defScope sTextOf) (by decide +kernel)) (fun _ _ _ _ _ => pg_name (i := 5) nd rfl (Or.inl rfl)) (fun _ _ _ _ _ => pts_nil)
            (fun _ _ _ _ _ => pe_call G hr rfl m F.kp bd .nil pass0 (pa_cons (pv 5) pa_nil)))))
        (pss_one (ps_ret (pe_op op_add_str (pe_op op_add_str pe_str (pe_join pe_str (pv 3))) pe_str)))))), ?_⟩
      cases hop : t.isOp with
      | false =>
        cases t with
        | it =>
          obtain ⟨a, rfl, e1⟩ := tr
          refine ⟨_, rfl, a, _, _, _, rfl, rfl, SqT.of e1, atI_nat (j := 0) rfl, tB, _, rfl, .inr (B.at_ _), rfl, (by decide +kernel), _, rfl, ?_⟩
          rw [show (if false = true then !inV (V.str (Str.ofString "it")) [.str (Str.ofString "source"), .str (Str.ofString "it")] else inV (V.str (Str.ofString "it")) [.str (Str.ofString "source"), .str (Str.ofString "it")]) = true by decide +kernel]
          exact iteT ⟨_, rfl, _, rfl, a, _, _, _, rfl, rfl, SqT.of e1, atI_last [] _, q _ (Same.refl _)⟩
        | src z =>
          obtain ⟨a, rfl, e1⟩ := tr
          refine ⟨_, rfl, a, _, _, _, rfl, rfl, SqT.of e1, atI_nat (j := 0) rfl, tB, _, rfl, .inr (B.at_ _), rfl, (by decide +kernel), _, rfl, ?_⟩
          rw [show (if false = true then !inV (V.str (Str.ofString "source")) [.str (Str.ofString "source"), .str (Str.ofString "it")] else inV (V.str (Str.ofString "source")) [.str (Str.ofString "source"), .str (Str.ofString "it")]) = true by decide +kernel]
          have ez : S (Tr.text (.src z)) = z := SX.S_tl z
          rw [ez] at q
          exact iteT ⟨_, rfl, _, rfl, a, _, _, _, rfl, rfl, SqT.of e1, atI_last [_] _, q _ (Same.refl _)⟩
        | op0 w as => cases hop
        | op1 w as t => cases hop
        | op2 w as t u => cases hop
      | true =>
        obtain ⟨a, xs, ys, rfl, e1, px, py⟩ := (TrAt.op hop).mp tr
        obtain ⟨⟨ks, o1, o2⟩, n1, n2⟩ := ok.op hop
        have lx := px.length
        have ly := py.length
        have lo := o2.length
        obtain ⟨tk, ht1, ht2'⟩ := Z.at_ _ o1
        have ht2 : ∀ H, SqT K H tk ((ks.map some ++ List.replicate t.parts.length none).map fun o => V.str (kindS o)) := ht2'
        have l3 : t.args.length ≤ 3 := sigs_len ⟨o1, o2⟩
        have lp : t.parts.length ≤ 2 := by
          cases t <;> simp [Tr.parts]
        have lk : ((ks.map some ++ List.replicate t.parts.length none).map fun o => V.str (kindS o)).length = t.args.length + t.parts.length := by
          simp only [List.length_map, List.length_append, List.length_replicate]
          omega
        have nm : inV (.str t.word) [.str (Str.ofString "source"), .str (Str.ofString "it")] = false := by
          unfold inV
          simp only [List.any_cons, List.any_nil, Bool.or_false, Bool.or_eq_false_iff]
          have g : ∀ y : Str, t.word ≠ y → eqV (.str y) (.str t.word) = false := fun y h => by
            simp [eqV, Ne.symm h]
          exact ⟨g _ n2, g _ n1⟩
        refine ⟨_, rfl, a, _, _, _, rfl, rfl, SqT.of e1, atI_nat (j := 0) rfl, tB, _, rfl, .inr (B.at_ _), rfl, (by decide +kernel), _, rfl, ?_⟩
        rw [nm]
        refine iteF ⟨_, rfl, a, _, _, _, rfl, rfl, SqT.of e1, atI_nat (j := 0) rfl, dA, t.word, _, rfl, rfl, ht1, ?_⟩
        refine ⟨_, rfl, tk, _, rfl, .inr (ht2 _), _, rfl, by omega, by omega, fun D hD => ?_⟩
        have en : ((((ks.map some ++ List.replicate t.parts.length none).map fun o => V.str (kindS o)).length : Nat) : Int).toNat = t.args.length + t.parts.length := by omega
        refine lc_range (lo := 0) (n := ((((ks.map some ++ List.replicate t.parts.length none).map fun o => V.str (kindS o)).length : Nat) : Int).toNat) (fun i H' => Same H H' ∧ H' D = some (.lst (wV ((t.args.take i).map Ar.text)))) ⟨same_new hD, upd_same⟩ ?_ ?_
        · rintro i H1 hi ⟨s1, hD1⟩
          rw [en] at hi
          have past : ∀ {H4 : Hp} {o : HO}, Same H1 H4 → Same H (upd H4 D o) := fun {H4 o} s4 b ob e => by
            rw [upd_ne (ne_of_none e hD)]
            exact s4 _ _ (s1 b ob e)
          by_cases hia : i < t.args.length
          · have hik : i < ks.length := by omega
            have gk : ((ks.map some ++ List.replicate t.parts.length none).map fun o => V.str (kindS o))[i]? = some (.str (ks[i]).str) := by
              rw [List.getElem?_map, List.getElem?_append_left (by rw [List.length_map]; exact hik), List.getElem?_map, List.getElem?_eq_getElem hik]
              rfl
            have nk : atI ((ks.map some ++ List.replicate t.parts.length none).map fun o => V.str (kindS o)) (0 + (i : Int)) = some (.str (ks[i]).str) := at_nn (by omega) (by rw [show (0 + (i : Int)).toNat = i by omega]; exact gk)
            have hix : i < xs.length := by omega
            have nx : atI (V.str t.word :: (xs ++ ys)) (0 + (i : Int) + 1) = some xs[i] := at_nn (by omega) (by rw [show (0 + (i : Int) + 1).toNat = i + 1 by omega]; show (xs ++ ys)[i]? = _; rw [List.getElem?_append_left hix, List.getElem?_eq_getElem hix])
            refine ⟨rfl, _, rfl, _, rfl, tk, _, _, _, rfl, rfl, ht2 _, nk, rfl, _, rfl, ?_⟩
            rw [str_ne (show (ks[i]).str ≠ Str.ofString "part" from kindS_part)]
            have av := (paired_get px (List.getElem?_eq_getElem hia) (List.getElem?_eq_getElem hix)).mono (TK.of s1)
            have ao := paired_get o2 (List.getElem?_eq_getElem hik) (List.getElem?_eq_getElem hia)
            refine iteT ⟨_, rfl, _, rfl, _, _, rfl, rfl, a, _, _, _, rfl, rfl, SqT.of (s1 _ _ e1), nx, _, rfl, _, rfl, tk, _, _, _, rfl, rfl, ht2 _, nk, xs[i], ks[i], t.args[i], rfl, ao, av, fun H4 s4 => ⟨_, s4 _ _ hD1, small1000 (by rw [wV_len, List.length_map, List.length_take]; omega), past s4, ?_⟩⟩
            rw [upd_same, List.take_add_one, List.getElem?_eq_getElem hia, List.map_append]
            unfold wV
            rw [List.map_append]
            rfl
          · have gk : ((ks.map some ++ List.replicate t.parts.length none).map fun o => V.str (kindS o))[i]? = some (.str (Str.ofString "part")) := by
              rw [List.getElem?_map, List.getElem?_append_right (by rw [List.length_map]; omega), List.length_map, List.getElem?_eq_getElem (by rw [List.length_replicate]; omega), List.getElem_replicate]
              rfl
            have nk : atI ((ks.map some ++ List.replicate t.parts.length none).map fun o => V.str (kindS o)) (0 + (i : Int)) = some (.str (Str.ofString "part")) := at_nn (by omega) (by rw [show (0 + (i : Int)).toNat = i by omega]; exact gk)
            refine ⟨rfl, _, rfl, _, rfl, tk, _, _, _, rfl, rfl, ht2 _, nk, rfl, _, rfl, ?_⟩
            rw [str_eq rfl]
            refine iteF ⟨s1, ?_⟩
            rw [hD1, List.take_of_length_le (by omega), List.take_of_length_le (by omega)]
        · rintro H1 ⟨s1, hD1⟩
          rw [en, List.take_of_length_le (by omega)] at hD1
          refine ⟨_, rfl, a, _, _, _, rfl, rfl, SqT.of (s1 _ _ e1), atI_nat (j := 0) rfl, by show 1 ≤ sizeLine; decide, fun p1 hp1 => ?_⟩
          have s2 := same_new (o := .lst [.str t.word]) hp1
          refine ⟨_, rfl, p1, D, _, _, rfl, rfl, upd_same, s2 _ _ hD1, Nat.le_trans (show 1 + (wV (t.args.map Ar.text)).length ≤ 4 by rw [wV_len, List.length_map]; omega) (by decide), fun p2 hp2 => ?_⟩
          have s3 := same_new (o := .lst ([V.str t.word] ++ wV (t.args.map Ar.text))) hp2
          have e2 : (upd (upd H1 p1 (.lst [.str t.word])) p2 (.lst ([V.str t.word] ++ wV (t.args.map Ar.text)))) p2 = some (.lst (wV (tl t.word :: t.args.map Ar.text))) := by
            rw [upd_same]
            have : S (tl t.word) = t.word := SX.S_tl _
            show some (HO.lst (V.str t.word :: wV (t.args.map Ar.text))) = some (HO.lst (V.str (S (tl t.word)) :: wV (t.args.map Ar.text)))
            rw [this]
          have s13 := s1.trans (s2.trans s3)
          obtain ⟨a', ks', zs, ps, ea', f2, f3, f4, _, f6, f7⟩ := tr_form ok tr
          cases ea'
          have f2 := s13 _ _ f2
          have f7 := paired_mono (fun _ _ => TrAt.mono (TK.of s13)) f7
          have lps := f7.length
          refine ⟨_, rfl, a, _, ks', zs, rfl, f2, f3, f4, fun H4 t4 s4 n4 e4 => ?_⟩
          rw [f6] at e4
          have f7 := paired_mono (fun _ _ => TrAt.mono (TK.of s4)) f7
          refine ⟨t4, rfl, ⟨_, SqT.of e4⟩, fun D2 hD2 => ?_⟩
          refine lc_texts (n := ps.length) (walk_tup (K := K) (xs := ps) (a := t4)) (t.parts.map Tr.text) (by rw [List.length_map, lps]) hD2 (by omega) (fun H5 s5 => SqT.of (s5 _ _ e4)) ?_ ?_
          · rintro i x H5 H' kT hi s5 ⟨rfl, hx⟩ h
            rw [List.length_map] at hi
            have hp := List.getElem?_eq_getElem hi
            have tv := (paired_get f7 hp hx).mono (TK.of s5)
            have op := ok.parts _ (List.getElem_mem hi)
            have ss : t.parts[i].size ≤ (t.parts.map Tr.size).sum := mem_sum (List.mem_map_of_mem (List.getElem_mem hi))
            have se := t.size_parts
            refine ⟨rfl, _, rfl, x, t.parts[i], rfl, tv, op, by omega, by omega, fun H6 s6 => ?_⟩
            have z := h _ s6
            rw [List.getElem_map] at z
            exact z
          · intro H5 s5 e5
            have e25 := s5 _ _ (s4 _ _ e2)
            refine ⟨p2, D2, _, _, rfl, rfl, e25, e5, Nat.le_trans (show (wV (tl t.word :: t.args.map Ar.text)).length + (wV (t.parts.map Tr.text)).length ≤ 10 by rw [wV_len, wV_len, List.length_cons, List.length_map, List.length_map]; omega) (by decide), fun p3 hp3 => ?_⟩
            have ew : wV (tl t.word :: t.args.map Ar.text) ++ wV (t.parts.map Tr.text) = ((tl t.word :: (t.args.map Ar.text ++ t.parts.map Tr.text)).map S).map V.str := by
              rw [← wV_eq]
              unfold wV
              rw [← List.map_append]
              rfl
            have et := Tr.text_op hop
            have tlen := Tr.text_len ok
            have jl : (joinL [32] (tl t.word :: (t.args.map Ar.text ++ t.parts.map Tr.text))).length + 2 = t.text.length := by
              rw [et, List.length_append, List.length_append]
              show _ = 1 + (_ + 1)
              omega
            have s6 := same_new (o := .lst (wV (tl t.word :: t.args.map Ar.text) ++ wV (t.parts.map Tr.text))) hp3
            have fin : Same H (upd H5 p3 (.lst (wV (tl t.word :: t.args.map Ar.text) ++ wV (t.parts.map Tr.text)))) := (s13.trans s4).trans (s5.trans s6)
            have small : (16777216 : Nat) ≤ sizeLine := by decide
            refine ⟨⟨_, rfl⟩, _, rfl, _, p3, (tl t.word :: (t.args.map Ar.text ++ t.parts.map Tr.text)).map S, rfl, rfl, .inl (SqL.of (by rw [upd_same, ew])), ?_, ?_⟩
            · rw [SX.lens, List.length_map]
              have g : ∀ xs : List (List Nat), (xs.map (·.length)).sum ≤ (joinL [32] xs).length := by
                intro xs
                induction xs with
                | nil => exact Nat.zero_le _
                | cons x xs ih =>
                  cases xs with
                  | nil => exact Nat.le_refl _
                  | cons y ys =>
                    show x.length + ((y :: ys).map (·.length)).sum ≤ (x ++ ([32] ++ joinL [32] (y :: ys))).length
                    rw [List.length_append, List.length_append]
                    omega
              have := g (tl t.word :: (t.args.map Ar.text ++ t.parts.map Tr.text))
              have l2 : (tl t.word :: (t.args.map Ar.text ++ t.parts.map Tr.text)).length ≤ 6 := by
                rw [List.length_cons, List.length_append, List.length_map, List.length_map]
                omega
              show _ + _ * 1 ≤ _
              omega
            · have ej : Txt.join (Str.ofString " ") ((tl t.word :: (t.args.map Ar.text ++ t.parts.map Tr.text)).map S) = S (joinL [32] (tl t.word :: (t.args.map Ar.text ++ t.parts.map Tr.text))) := SX.join_S [32] _
              rw [ej]
              refine ⟨_, _, rfl, rfl, ?_, _, _, rfl, rfl, ?_, ?_⟩
              · have lS := SX.S_len (joinL [32] (tl t.word :: (t.args.map Ar.text ++ t.parts.map Tr.text)))
                show 1 + (S (joinL [32] (tl t.word :: (t.args.map Ar.text ++ t.parts.map Tr.text)))).length ≤ _
                omega
              · rw [show Str.ofString "(" = S [40] from rfl, SX.S_cat, SX.S_len, List.length_append]
                show (1 + _) + 1 ≤ _
                omega
              · rw [show Str.ofString "(" = S [40] from rfl, show Str.ofString ")" = S [41] from rfl, SX.S_cat, SX.S_cat, List.append_assoc, ← et]
                exact q _ fin
end
end Wd

set_option Elab.async false
set_option linter.all false
set_option maxRecDepth 100000
set_option maxHeartbeats 4000000
set_option pp.maxSteps 400
set_option pp.deepTerms false
namespace Wd
open PySem L2 TL
open SX (S)

theorem jw_len : ∀ (ws : List (List Nat)) (b : Bool), (∀ w ∈ ws, w ≠ []) → ws.length ≤ (jw b ws).length
  | [], _, _ => Nat.le_refl _
  | w :: ws, b, h => by
    have ih := jw_len ws (decide (w ≠ [40])) fun v hv => h v (by simp [hv])
    have h1 : 1 ≤ w.length := List.length_pos_iff.mpr (h w (by simp))
    show ws.length + 1 ≤ (_ ++ (w ++ jw _ ws)).length
    rw [List.length_append, List.length_append]
    omega
theorem toks_len {t : Tr} (o : t.Ok) : t.toks.length ≤ t.text.length := by
  have := jw_len t.toks false fun w hw => by
    rcases Tr.tok8 o w hw with e | e | e
    · rw [e]; simp
    · rw [e]; simp
    · exact e.1
  rw [Tr.text_jw o] at this
  exact this
def spRead : Sp := fun vs H Q _ => ∃ t : Tr, vs = [.str (S t.text)] ∧ t.Ok ∧ t.size ≤ 12 ∧ ∀ H' v, Same H H' → TrAt H' t v → Q v H'
def spWrite : Sp := fun vs H Q _ => ∃ (v : V) (t : Tr), vs = [v] ∧ TrAt H t v ∧ t.Ok ∧ t.size ≤ 12 ∧ ∀ H', Same H H' → Q (.str (S t.text)) H'
section
variable {P : Program} {w : World} {K : PySem.W.Frag} {mg : Str → Option Value} {base : Heap} {fT fX fW : Addr} {dT dX dW : FuncData}
theorem scWriteTree : FnScope ["tree"] ["tree"] (defScope sWriteTree) := ⟨rfl, rfl, rfl, by decide +kernel, rfl, by decide +kernel, by decide +kernel⟩
theorem ok_write_tree {f : Addr} {fd : FuncData} (F : Fun K "write_tree" "write_tree" sWriteTree f fd) (T : At P w K mg base 7 "is_tree" fT dT ["value"] spTree) (X : At P w K mg base 15 "text_of" fX dX ["tree"] (spText 12)) : FnOk P w K mg base CX0 16 f fd ["tree"] spWrite := by
  refine F.ok scWriteTree (fun vs H Q E h => ?_) (fun cdv Ao outer s H vs Q E hr h => ?_)
  · obtain ⟨v, t, rfl, _⟩ := h
    rfl
  · obtain ⟨v, t, rfl, tr, ok, sz, q⟩ := h
    refine ⟨_, pss_cons (ps_if (pt_not (pt_val (pe_call T.g (hr.mono (by decide)) rfl T.m T.kp T.b .nil pass0 (pa_cons (pv 0) pa_nil)))) (pss_one ps_never) pss_nil)
      (pss_one (ps_ret (pe_call X.g hr rfl X.m X.kp X.b .nil pass0 (pa_cons (pv 0) pa_nil)))), ?_⟩
    refine ⟨_, rfl, v, t, rfl, tr, ok, sz, fun H1 s1 => ⟨_, rfl, iteF ?_⟩⟩
    exact ⟨_, rfl, v, t, rfl, tr.mono (TK.of s1), ok, sz, Nat.le_refl _, fun H2 s2 => q _ (s1.trans s2)⟩
theorem scReadTree : FnScope ["text", "tree"] ["text"] (defScope sReadTree) := ⟨rfl, rfl, rfl, by decide +kernel, rfl, by decide +kernel, by decide +kernel⟩
theorem ok_read_tree {f : Addr} {fd : FuncData} (F : Fun K "read_tree" "read_tree" sReadTree f fd) (T : At P w K mg base 7 "is_tree" fT dT ["value"] spTree) (X : At P w K mg base 8 "tree_of_words" fX dX ["words"] spTreeWords) (W : At P w K mg base 2 "words_of" fW dW ["text"] spWordsOf) :
    FnOk P w K mg base CX0 9 f fd ["text"] spRead := by
  refine F.ok scReadTree (fun vs H Q E h => ?_) (fun cdv Ao outer s H vs Q E hr h => ?_)
  · obtain ⟨t, rfl, _⟩ := h
    rfl
  · obtain ⟨t, rfl, ok, sz, q⟩ := h
    have nd := scReadTree.nd
    refine ⟨_, pss_cons (ps_set (i := 1) nd rfl (Or.inl rfl) (pe_call X.g hr rfl X.m X.kp X.b .nil pass0 (pa_cons (pe_call W.g (hr.mono (by decide)) rfl W.m W.kp W.b .nil pass0 (pa_cons (pv 0) pa_nil)) pa_nil)))
      (pss_cons (ps_if (pt_not (pt_val (pe_call T.g (hr.mono (by decide)) rfl T.m T.kp T.b .nil pass0 (pa_cons (pv 1) pa_nil)))) (pss_one ps_never) pss_nil)
      (pss_one (ps_ret (pv 1)))), ?_⟩
    have tl1 := Tr.text_len ok
    have tl2 := toks_len ok
    refine ⟨_, rfl, t.toks, t.text, rfl, by omega, Tr.words ok, Tr.text_jw ok, by omega, fun H1 a s1 _ e1 => ?_⟩
    refine ⟨a, t, rfl, e1, ok, by omega, fun H2 v s2 tv => ?_⟩
    refine ⟨_, rfl, v, t, rfl, tv, ok, sz, fun H3 s3 => ⟨_, rfl, iteF ⟨_, rfl, q _ _ ((s1.trans s2).trans s3) (tv.mono (TK.of s3))⟩⟩⟩
end
end Wd

set_option Elab.async false
set_option linter.all false
set_option maxRecDepth 100000
set_option maxHeartbeats 4000000
set_option pp.maxSteps 400
set_option pp.deepTerms false
namespace Wd
open PySem L2
/-! ### ascending signs -/
def sgn (c : Nat) : Str := ⟨#[c]⟩
theorem sgn_inj {c d : Nat} (h : sgn c = sgn d) : c = d := sign_inj (congrArg V.str h)
theorem letV_sgn (cs : List Nat) : letV cs = (cs.map sgn).map V.str := by
  rw [List.map_map]
  rfl
theorem sgns_inj : ∀ {cs ds : List Nat}, cs.map sgn = ds.map sgn → cs = ds
  | [], [], _ => rfl
  | [], _ :: _, h => nomatch h
  | _ :: _, [], h => nomatch h
  | c :: cs, d :: ds, h => by
    rw [sgn_inj (List.cons.inj h).1, sgns_inj (List.cons.inj h).2]
theorem sgns_of {cs : List Nat} : ∀ {ys : List Str}, (∀ y ∈ ys, y ∈ cs.map sgn) → ∃ ds : List Nat, ys = ds.map sgn
  | [], _ => ⟨[], rfl⟩
  | y :: r, h => by
    obtain ⟨c, _, e⟩ := List.mem_map.mp (h y List.mem_cons_self)
    obtain ⟨ds, e'⟩ := sgns_of fun z hz => h z (List.mem_cons_of_mem _ hz)
    exact ⟨c :: ds, by rw [e', ← e]; rfl⟩
theorem rising_le : ∀ {d : Nat} {ds : List Nat}, PyProof.Rows.risingS (sgn d) (ds.map sgn) = true → (d :: ds).Pairwise (· ≤ ·)
  | d, [], _ => List.pairwise_singleton _ _
  | d, x :: r, h => by
    have h' : (!PySem.Spec.ltCps [x] [d] && PyProof.Rows.risingS (sgn x) (r.map sgn)) = true := h
    rw [Bool.and_eq_true] at h'
    have ih := rising_le h'.2
    have le : d ≤ x := by
      have q : (!(decide (x < d) || ((x == d) && false))) = true := h'.1
      simp at q
      exact q
    refine List.pairwise_cons.mpr ⟨fun y hy => ?_, ih⟩
    rcases List.mem_cons.mp hy with e | e
    · exact e ▸ le
    · exact Nat.le_trans le ((List.pairwise_cons.mp ih).1 y e)
theorem sorted_le : ∀ {ds : List Nat}, PyProof.Rows.sortedS (ds.map sgn) = true → ds.Pairwise (· ≤ ·)
  | [], _ => List.Pairwise.nil
  | d :: r, h => rising_le h
theorem strict_of : ∀ {ds : List Nat}, ds.Pairwise (· ≤ ·) → ds.Nodup → ds.Pairwise (· < ·)
  | [], _, _ => List.Pairwise.nil
  | d :: r, h, n => by
    rw [List.pairwise_cons] at h
    rw [List.nodup_cons] at n
    refine List.pairwise_cons.mpr ⟨fun y hy => ?_, strict_of h.2 n.2⟩
    have := h.1 y hy
    have : d ≠ y := fun e => n.1 (e ▸ hy)
    omega
end Wd

set_option Elab.async false
set_option linter.all false
set_option maxRecDepth 100000
set_option maxHeartbeats 4000000
namespace Wd
open PySem L2
/-! ### numbers -/
theorem op_powB {X : Cx} : OpR X (binaryOp .Pow) (rI (fun i j => 0 ≤ j ∧ (Builtin.Int.intBits i : Int) * j ≤ 2 ^ 27) fun i j => .int (i ^ j.toNat)) :=
  opI fun _ _ _ _ _ _ _ hc q => PyProof.Rows.pow_int hc.1 hc.2 q
abbrev ten61 : Int := 10 ^ 61
theorem ten61_pos : (0 : Int) < ten61 := by decide +kernel
theorem ten61_log : ten61.natAbs.log2 < 9000 := by decide +kernel
theorem great_pos : (0 : Int) < (10 ^ (60 : Int).toNat) ^ (10 : Int).toNat := by decide +kernel
theorem great_bits : (Builtin.Int.intBits (10 ^ (60 : Int).toNat) : Int) * 10 ≤ 2 ^ 27 := by decide +kernel
theorem log_of {t : Int} (h0 : 0 < t) (h : t ≤ ten61) : t.natAbs.log2 < 9000 := by
  have e : t.natAbs ≤ ten61.natAbs := by omega
  have z : t.natAbs ≠ 0 := by omega
  refine Nat.lt_of_le_of_lt ?_ ten61_log
  exact (Nat.le_log2 (by decide +kernel)).mpr (Nat.le_trans (Nat.log2_self_le z) e)
theorem modA (i : Int) : -(2 ^ 64) < i % 2305843009213693951 ∧ i % 2305843009213693951 < 2 ^ 64 := by omega
theorem modB (i : Int) : -(2 ^ 64) < i % 2305843009213693921 ∧ i % 2305843009213693921 < 2 ^ 64 := by omega
/-! ### the bag -/
/-- all but the object at B is as it was -/
def SB (B : Addr) (H H' : Hp) : Prop := ∀ b o, b ≠ B → H b = some o → H' b = some o
def BagAt (H : Hp) (B : Addr) : Prop := ∃ x y z : Int, H B = some (.lst [.int x, .int y, .int z])
theorem SB.refl (B : Addr) (H : Hp) : SB B H H := fun _ _ _ h => h
theorem SB.trans {B : Addr} {H H1 H2 : Hp} (a : SB B H H1) (b : SB B H1 H2) : SB B H H2 := fun c o n h => b c o n (a c o n h)
theorem SB.upd {B : Addr} {H H1 : Hp} {o : HO} (a : SB B H H1) : SB B H (upd H1 B o) := fun c u n h => by
  rw [upd_ne n]
  exact a c u n h
theorem SB.new {B p : Addr} {H H1 : Hp} {o : HO} (a : SB B H H1) (hp : H1 p = none) : SB B H (L2.upd H1 p o) := fun c u n h => by
  have z := a c u n h
  rw [upd_ne (ne_of_none z hp)]
  exact z
theorem SB.of {B : Addr} {H H' : Hp} (a : Same H H') : SB B H H' := fun b o _ h => a b o h
/-- the object p, new since H, is changed -/
theorem SB.own {B p : Addr} {H H1 : Hp} {o : HO} (a : SB B H H1) (hp : H p = none) : SB B H (L2.upd H1 p o) := fun c u n h => by
  rw [upd_ne (ne_of_none h hp)]
  exact a c u n h
theorem BagAt.new {B p : Addr} {H : Hp} {o : HO} (a : BagAt H B) (hp : H p = none) : BagAt (upd H p o) B := by
  obtain ⟨x, y, z, h⟩ := a
  exact ⟨x, y, z, by rw [upd_ne (ne_of_none h hp)]; exact h⟩
theorem BagAt.other {B p : Addr} {H : Hp} {o : HO} (a : BagAt H B) (hp : B ≠ p) : BagAt (upd H p o) B := by
  obtain ⟨x, y, z, h⟩ := a
  exact ⟨x, y, z, by rw [upd_ne hp]; exact h⟩
theorem BagAt.nn {B : Addr} {H : Hp} (a : BagAt H B) : H B ≠ none := by
  obtain ⟨x, y, z, h⟩ := a
  rw [h]
  exact fun q => nomatch q
theorem BagAt.ne {B p : Addr} {H : Hp} (a : BagAt H B) (hp : H p = none) : p ≠ B := fun e => a.nn (by rw [← e]; exact hp)
/-! ### promises -/
def spStart (K : PySem.W.Frag) : Sp := fun vs H Q _ => ∃ (a : Addr) (ns : List Int), ∃ at_ : Nat, vs = [.ref a, .int (at_ : Int)] ∧ SqL K H a (ns.map V.int) ∧
  ∀ H' B, Same H H' → H B = none → BagAt H' B → Q (.ref B) H'
def spThrow : Sp := fun vs H Q _ => ∃ (B : Addr) (t : Int), vs = [.ref B, .int t] ∧ BagAt H B ∧ 0 < t ∧ t ≤ ten61 ∧
  ∀ r H', 0 ≤ r → r < t → SB B H H' → BagAt H' B → Q (.int r) H'
def spPickS : Sp := fun vs H Q _ => ∃ (B : Addr) (z : Str), vs = [.ref B, .str z] ∧ BagAt H B ∧ 0 < z.length ∧ z.length ≤ 100 ∧
  ∀ c H', c ∈ z.cps.toList → SB B H H' → BagAt H' B → Q (.str ⟨#[c]⟩) H'
def spPickL : Sp := fun vs H Q _ => ∃ (B L : Addr) (ys : List V), vs = [.ref B, .ref L] ∧ BagAt H B ∧ B ≠ L ∧ H L = some (.lst ys) ∧ 0 < ys.length ∧ ys.length ≤ 100 ∧
  ∀ y H', y ∈ ys → SB B H H' → BagAt H' B → Q y H'
structure TxtA (mg : Str → Option Value) (fT : Addr) : Prop where
  len : mg "len" = none
  int : mg "int" = none
  abs : mg "abs" = none
  max : mg "max" = none
  thr : mg "_law_throw" = some (.ref fT)
section
variable {P : Program} {w : World} {K : PySem.W.Frag} {mg : Str → Option Value} {base : Heap} {fT : Addr}
theorem scStart : FnScope ["script", "at", "cell", "great", "mixed"] ["script", "at"] (defScope sStart) := ⟨rfl, rfl, rfl, by decide +kernel, rfl, by decide +kernel, by decide +kernel⟩
theorem ok_start {f : Addr} {fd : FuncData} (F : Fun K "_law_start" "_law_start" sStart f fd) (T : TxtA mg fT) : FnOk P w K mg base CX0 1 f fd ["script", "at"] (spStart K) := by
  refine F.ok scStart (fun vs H Q E h => ?_) (fun cdv A outer s H vs Q E hr h => ?_)
  · obtain ⟨a, ns, at_, rfl, _⟩ := h
    rfl
  · obtain ⟨a, ns, at_, rfl, hS, k⟩ := h
    refine ⟨_, pss_cons (ps_set (i := 2) scStart.nd rfl (Or.inl rfl) (pe_ifExp (pt_cmpR op_lt (pv 1) (pe_callB call_len_seq (by rfl) T.len PySem.boot_len (pa_cons (pv 0) pa_nil)) (nomark _))
        (pe_ix ix_list (pv 0) (pv 1) (fun _ _ => rfl)) (pe_op op_add (pe_op op_mul pe_int (pv 1)) pe_int)))
      (pss_cons (ps_set (i := 3) scStart.nd rfl (Or.inl rfl) (pe_op op_mod (pe_callTy call_int1 (by rfl) T.int (by decide +kernel) (pa_cons (pe_callB call_abs (by rfl) T.abs (by decide +kernel) (pa_cons (pv 2) pa_nil)) pa_nil))
        (pe_op op_powB (pe_op op_pow pe_int pe_int) pe_int)))
      (pss_cons (ps_set (i := 4) scStart.nd rfl (Or.inl rfl) (pe_op op_add (pe_op op_mul (pe_op op_mod (pe_callTy call_int1 (by rfl) T.int (by decide +kernel) (pa_cons (pv 3) pa_nil)) pe_int) pe_int)
        (pe_callTy call_int1 (by rfl) T.int (by decide +kernel) (pa_cons (pe_cmpR op_lt (pv 2) pe_int (nomark _)) pa_nil))))
      (pss_one (ps_ret (pe_lst (pa_cons (pe_callB (call_max2 rfl) (by rfl) T.max (by decide +kernel) (pa_cons pe_int (pa_cons (pe_op op_sub (pv 3) (pe_op op_pow pe_int pe_int)) pa_nil)))
        (pa_cons (pe_op op_mod (pe_callTy call_int1 (by rfl) T.int (by decide +kernel) (pa_cons (pe_op op_add (pe_op op_add (pe_op op_mul (pv 4) pe_int) (pe_op op_mul pe_int (pv 1))) pe_int) pa_nil)) pe_int)
        (pa_cons pe_int pa_nil)))))))), ?_⟩
    refine ⟨_, rfl, _, rfl, a, _, rfl, .inl hS, _, _, rfl, rfl, _, rfl, ?_⟩
    refine ite2 (fun c => ?_) (fun _ => ?_)
    · obtain ⟨n0, hn⟩ : ∃ n0 : Int, (ns.map V.int)[at_]? = some (V.int n0) := by
        have c' := of_decide_eq_true c
        have c2 : at_ < (ns.map V.int).length := by omega
        rw [List.length_map] at c2
        exact ⟨ns[at_], by rw [List.getElem?_map, List.getElem?_eq_getElem c2]; rfl⟩
      refine ⟨_, rfl, _, rfl, a, _, _, _, rfl, rfl, hS, atI_nat (j := at_) hn, ?_⟩
      refine ⟨_, rfl, _, rfl, .inl ⟨_, rfl, _, _, rfl, rfl, ⟨by decide, by decide, by decide⟩, _, _, rfl, rfl, ⟨by decide, great_bits⟩, _, _, rfl, rfl, great_pos, ?_⟩⟩
      refine ⟨_, rfl, .inl ⟨_, rfl, _, _, rfl, rfl, (by show (0 : Int) < _; decide), _, _, rfl, rfl, .inr ⟨by decide, by decide⟩, _, rfl, _, _, rfl, rfl, .inr ⟨_, rfl, _, _, rfl, rfl, ?_⟩⟩⟩
      refine ⟨_, rfl, _, _, rfl, rfl, ⟨by decide, by decide, by decide⟩, _, _, rfl, rfl, _, _, rfl, _, rfl, _, _, rfl, rfl, .inr ⟨by decide, by decide⟩, _, rfl, _, _, rfl, rfl, .inl ⟨by decide, by decide⟩, _, _, rfl, rfl, _, _, rfl, rfl,
        .inl ⟨_, rfl, _, _, rfl, rfl, (by show (0 : Int) < _; decide), (by show 3 ≤ sizeLine; decide), fun l hl => ?_⟩⟩
      exact k _ l (fun b o e => by rw [upd_ne (ne_of_none e hl)]; exact e) hl ⟨_, _, _, upd_same⟩
    · refine ⟨_, rfl, _, _, rfl, rfl, .inl ⟨by decide, by decide⟩, _, _, rfl, rfl, ?_⟩
      refine ⟨_, rfl, _, rfl, .inl ⟨_, rfl, _, _, rfl, rfl, ⟨by decide, by decide, by decide⟩, _, _, rfl, rfl, ⟨by decide, great_bits⟩, _, _, rfl, rfl, great_pos, ?_⟩⟩
      refine ⟨_, rfl, .inl ⟨_, rfl, _, _, rfl, rfl, (by show (0 : Int) < _; decide), _, _, rfl, rfl, .inr ⟨by decide, by decide⟩, _, rfl, _, _, rfl, rfl, .inr ⟨_, rfl, _, _, rfl, rfl, ?_⟩⟩⟩
      refine ⟨_, rfl, _, _, rfl, rfl, ⟨by decide, by decide, by decide⟩, _, _, rfl, rfl, _, _, rfl, _, rfl, _, _, rfl, rfl, .inr ⟨by decide, by decide⟩, _, rfl, _, _, rfl, rfl, .inl ⟨by decide, by decide⟩, _, _, rfl, rfl, _, _, rfl, rfl,
        .inl ⟨_, rfl, _, _, rfl, rfl, (by show (0 : Int) < _; decide), (by show 3 ≤ sizeLine; decide), fun l hl => ?_⟩⟩
      exact k _ l (fun b o e => by rw [upd_ne (ne_of_none e hl)]; exact e) hl ⟨_, _, _, upd_same⟩
theorem scThrow : FnScope ["bag", "total", "found", "one", "two", "three"] ["bag", "total"] (defScope sThrow) := ⟨rfl, rfl, rfl, by decide +kernel, rfl, by decide +kernel, by decide +kernel⟩
theorem ok_throw {f : Addr} {fd : FuncData} (F : Fun K "_law_throw" "_law_throw" sThrow f fd) (T : TxtA mg fT) : FnOk P w K mg base CX0 1 f fd ["bag", "total"] spThrow := by
  refine F.ok scThrow (fun vs H Q E h => ?_) (fun cdv A outer s H vs Q E hr h => ?_)
  · obtain ⟨B, t, rfl, _⟩ := h
    rfl
  · obtain ⟨B, t, rfl, ⟨x, y, z, hB⟩, h0, ht, k⟩ := h
    refine ⟨_, pss_cons (ps_if (pt_cmpR op_gt (pe_ix ix_list (pv 0) pe_int (fun _ _ => rfl)) pe_int (nomark _))
        (pss_cons (ps_set (i := 2) scThrow.nd rfl (Or.inl rfl) (pe_op op_mod (pe_callTy call_int1 (by rfl) T.int (by decide +kernel) (pa_cons (pe_ix ix_list (pv 0) pe_int (fun _ _ => rfl)) pa_nil)) (pv 1)))
        (pss_cons (ps_asg (pe_op op_fdivW (pe_ix ix_list (pv 0) pe_int (fun _ _ => rfl)) (pv 1)) (pg_sub (pv 0) pe_int set_list))
        (pss_one (ps_ret (pv 2))))) pss_nil)
      (pss_cons (ps_asg (pe_op op_add (pe_ix ix_list (pv 0) pe_int (fun _ _ => rfl)) pe_int) (pg_sub (pv 0) pe_int set_list))
      (pss_cons (ps_set (i := 3) scThrow.nd rfl (Or.inl rfl) (pe_op op_mod (pe_callTy call_int1 (by rfl) T.int (by decide +kernel) (pa_cons (pe_op op_add (pe_ix ix_list (pv 0) pe_int (fun _ _ => rfl)) (pe_op op_mul pe_int (pe_ix ix_list (pv 0) pe_int (fun _ _ => rfl)))) pa_nil)) pe_int))
      (pss_cons (ps_set (i := 4) scThrow.nd rfl (Or.inl rfl) (pe_op op_mod (pe_callTy call_int1 (by rfl) T.int (by decide +kernel) (pa_cons (pe_op op_add (pe_op op_mul (pv 3) (pv 3)) (pe_op op_mul pe_int (pe_ix ix_list (pv 0) pe_int (fun _ _ => rfl)))) pa_nil)) pe_int))
      (pss_cons (ps_set (i := 5) scThrow.nd rfl (Or.inl rfl) (pe_op op_mod (pe_callTy call_int1 (by rfl) T.int (by decide +kernel) (pa_cons (pe_op op_add (pe_op op_mul (pv 4) (pv 3)) pe_int) pa_nil)) pe_int))
      (pss_one (ps_ret (pe_op op_mod (pe_callTy call_int1 (by rfl) T.int (by decide +kernel) (pa_cons (pe_op op_fdiv (pv 5) pe_int) pa_nil)) (pv 1)))))))), ?_⟩
    refine ⟨_, rfl, B, _, _, _, rfl, rfl, SqL.of hB, atI_nat (j := 0) rfl, _, _, rfl, rfl, _, rfl, ?_⟩
    refine ite2 (fun c => ?_) (fun _ => ?_)
    · refine ⟨_, rfl, B, _, _, _, rfl, rfl, SqL.of hB, atI_nat (j := 0) rfl, .inl ⟨_, rfl, _, rfl, _, _, rfl, rfl, h0, ?_⟩⟩
      refine ⟨_, rfl, B, _, _, _, rfl, rfl, SqL.of hB, atI_nat (j := 0) rfl, _, rfl, _, _, rfl, rfl, ⟨h0, log_of h0 ht⟩, _, rfl, B, _, _, 0, rfl, rfl, hB, rfl, ?_⟩
      refine ⟨_, rfl, ?_⟩
      exact k _ _ (Int.emod_nonneg _ (by omega)) (Int.emod_lt_of_pos _ h0) (SB.refl _ _).upd ⟨_, _, _, upd_same⟩
    · refine ⟨_, rfl, B, _, _, _, rfl, rfl, SqL.of hB, atI_nat (j := 2) rfl, _, _, rfl, rfl, _, rfl, B, _, _, 2, rfl, rfl, hB, rfl, ?_⟩
      refine ⟨_, rfl, B, _, _, _, rfl, rfl, SqL.of upd_same, atI_nat (j := 1) rfl, _, rfl, B, _, _, _, rfl, rfl, SqL.of upd_same, atI_nat (j := 2) rfl, _, _, rfl, rfl, .inl ⟨by decide, by decide⟩, _, _, rfl, rfl,
        .inl ⟨_, rfl, _, _, rfl, rfl, (by show (0 : Int) < _; decide), ?_⟩⟩
      refine ⟨_, rfl, _, rfl, _, _, rfl, rfl, .inl (modA _), _, rfl, B, _, _, _, rfl, rfl, SqL.of upd_same, atI_nat (j := 2) rfl, _, _, rfl, rfl, .inl ⟨by decide, by decide⟩, _, _, rfl, rfl,
        .inl ⟨_, rfl, _, _, rfl, rfl, (by show (0 : Int) < _; decide), ?_⟩⟩
      refine ⟨_, rfl, _, rfl, _, _, rfl, rfl, .inl (modB _), _, _, rfl, rfl, .inl ⟨_, rfl, _, _, rfl, rfl, (by show (0 : Int) < _; decide), ?_⟩⟩
      refine ⟨_, rfl, _, _, rfl, rfl, ⟨by decide, by decide⟩, .inl ⟨_, rfl, _, rfl, _, _, rfl, rfl, h0, ?_⟩⟩
      exact k _ _ (Int.emod_nonneg _ (by omega)) (Int.emod_lt_of_pos _ h0) (SB.refl _ _).upd ⟨_, _, _, upd_same⟩
theorem t60 : (100 : Int) < ten60 := by decide +kernel
theorem scPick : FnScope ["bag", "items"] ["bag", "items"] (defScope sPick) := ⟨rfl, rfl, rfl, by decide +kernel, rfl, by decide +kernel, by decide +kernel⟩
theorem ok_pickS {f : Addr} {fd fdT : FuncData} (F : Fun K "_law_pick" "_law_pick" sPick f fd) (T : TxtA mg fT) (FT : Fun K "_law_throw" "_law_throw" sThrow fT fdT) (bT : Binds K fdT ["bag", "total"] []) :
    FnOk P w K mg base CX0 2 f fd ["bag", "items"] spPickS := by
  have G : FnOk P w K mg base CX0 1 fT fdT ["bag", "total"] spThrow := ok_throw FT T
  refine F.ok scPick (fun vs H Q E h => ?_) (fun cdv A outer s H vs Q E hr h => ?_)
  · obtain ⟨B, z, rfl, _⟩ := h
    rfl
  · obtain ⟨B, z, rfl, hB, h0, h1, k⟩ := h
    have hz : z.length ≤ sizeLine := Nat.le_of_lt (small1000 (by omega))
    refine ⟨_, pss_one (ps_ret (pe_ix ix_str (pv 1) (pe_call G hr rfl T.thr FT.kp bT .nil pass0 (pa_cons (pv 0) (pa_cons (pe_callB call_len_str (by rfl) T.len PySem.boot_len (pa_cons (pv 1) pa_nil)) pa_nil))) (fun _ _ => rfl))), ?_⟩
    refine ⟨_, rfl, _, rfl, _, rfl, z, rfl, hz, B, _, rfl, hB, by omega, ?_, fun r H' r0 r1 sb hB' => ?_⟩
    · exact Int.le_trans (by omega : (z.length : Int) ≤ 100) (by decide +kernel)
    · have hlt : r.toNat < z.cps.toList.length := by
        have e : z.cps.toList.length = z.length := by simp [Str.length]
        omega
      refine ⟨z, r, _, rfl, rfl, hz, ?_, k (z.cps.toList[r.toNat]'hlt) H' (List.getElem_mem hlt) sb hB'⟩
      exact at_nn r0 (by simp [hlt])
theorem ok_pickL {f : Addr} {fd fdT : FuncData} (F : Fun K "_law_pick" "_law_pick" sPick f fd) (T : TxtA mg fT) (FT : Fun K "_law_throw" "_law_throw" sThrow fT fdT) (bT : Binds K fdT ["bag", "total"] []) :
    FnOk P w K mg base CX0 2 f fd ["bag", "items"] spPickL := by
  have G : FnOk P w K mg base CX0 1 fT fdT ["bag", "total"] spThrow := ok_throw FT T
  refine F.ok scPick (fun vs H Q E h => ?_) (fun cdv A outer s H vs Q E hr h => ?_)
  · obtain ⟨B, L, ys, rfl, _⟩ := h
    rfl
  · obtain ⟨B, L, ys, rfl, hB, nBL, hL, h0, h1, k⟩ := h
    refine ⟨_, pss_one (ps_ret (pe_ix ix_list (pv 1) (pe_call G hr rfl T.thr FT.kp bT .nil pass0 (pa_cons (pv 0) (pa_cons (pe_callB call_len_seq (by rfl) T.len PySem.boot_len (pa_cons (pv 1) pa_nil)) pa_nil))) (fun _ _ => rfl))), ?_⟩
    refine ⟨_, rfl, _, rfl, _, rfl, L, _, rfl, .inl (SqL.of hL), B, _, rfl, hB, by omega, ?_, fun r H' r0 r1 sb hB' => ?_⟩
    · exact Int.le_trans (by omega : (ys.length : Int) ≤ 100) (by decide +kernel)
    · have hlt : r.toNat < ys.length := by omega
      refine ⟨L, _, r, _, rfl, rfl, SqL.of (sb _ _ nBL.symm hL), ?_, k (ys[r.toNat]'hlt) H' (List.getElem_mem _) sb hB'⟩
      exact at_nn r0 (by simp [hlt])
def spPickT (K : PySem.W.Frag) : Sp := fun vs H Q _ => ∃ (B L : Addr) (ys : List V), vs = [.ref B, .ref L] ∧ BagAt H B ∧ (∀ H', SB B H H' → SqT K H' L ys) ∧ 0 < ys.length ∧ ys.length ≤ 100 ∧
  ∀ y H', y ∈ ys → SB B H H' → BagAt H' B → Q y H'
theorem ok_pickT {f : Addr} {fd fdT : FuncData} (F : Fun K "_law_pick" "_law_pick" sPick f fd) (T : TxtA mg fT) (FT : Fun K "_law_throw" "_law_throw" sThrow fT fdT) (bT : Binds K fdT ["bag", "total"] []) :
    FnOk P w K mg base CX0 2 f fd ["bag", "items"] (spPickT K) := by
  have G : FnOk P w K mg base CX0 1 fT fdT ["bag", "total"] spThrow := ok_throw FT T
  refine F.ok scPick (fun vs H Q E h => ?_) (fun cdv A outer s H vs Q E hr h => ?_)
  · obtain ⟨B, L, ys, rfl, _⟩ := h
    rfl
  · obtain ⟨B, L, ys, rfl, hB, hL, h0, h1, k⟩ := h
    refine ⟨_, pss_one (ps_ret (pe_ix (r := rIxT K) ix_tup (pv 1) (pe_call G hr rfl T.thr FT.kp bT .nil pass0 (pa_cons (pv 0) (pa_cons (pe_callB call_len_seq (by rfl) T.len PySem.boot_len (pa_cons (pv 1) pa_nil)) pa_nil))) (fun _ _ => rfl))), ?_⟩
    refine ⟨_, rfl, _, rfl, _, rfl, L, _, rfl, .inr (hL H (SB.refl _ _)), B, _, rfl, hB, by omega, ?_, fun r H' r0 r1 sb hB' => ?_⟩
    · exact Int.le_trans (by omega : (ys.length : Int) ≤ 100) (by decide +kernel)
    · have hlt : r.toNat < ys.length := by omega
      refine ⟨L, _, r, _, rfl, rfl, hL H' sb, ?_, k (ys[r.toNat]'hlt) H' (List.getElem_mem _) sb hB'⟩
      exact at_nn r0 (by simp [hlt])
end
end Wd

set_option Elab.async false
set_option linter.all false
set_option maxRecDepth 100000
set_option maxHeartbeats 4000000
namespace Wd
open PySem L2 PyProof.Rows
/-- list(text) -/
theorem call_listS {X : Cx} (hc : X.calm = true) : CallR X (.type "list") (fun xs H Q => ∃ z : Str, xs = [.str z] ∧ z.length ≤ sizeLine ∧ ∀ l, H l = none → Q (.ref l) (upd H l (.lst (letV z.cps.toList)))) := by
  intro pins s σ H vs us Q I r h
  obtain ⟨z, rfl, hz, q⟩ := h
  cases r with
  | @cons _ u _ ur ru rr =>
    cases rr
    obtain ⟨t, rfl⟩ := ru
    have hn : H s.heap.objs.size = none := I.hok.fresh (Nat.le_refl _)
    refine call_list_str (prog := X.prog) (w := X.w) (I.ok.hd hc) z t (fun h' tk acc c kp at_ items => ?_) hz
    have ss : Vals (letV z.cps.toList) acc.toList := by
      rw [letV_sgn]
      refine vals_of_strs (strs_at (by simp [items.1]) fun j v e => ?_)
      obtain ⟨a, u, e1, e2⟩ := items.2 j v (by rw [← Array.getElem?_toList]; exact e)
      exact ⟨sgn a, u, by rw [List.getElem?_map, Array.getElem?_toList, e1]; rfl, e2⟩
    have len : (letV z.cps.toList).length ≤ sizeLine := by
      rw [letV, List.length_map, Array.length_toList]
      exact hz
    exact ⟨.ref s.heap.objs.size, upd H s.heap.objs.size (.lst (letV z.cps.toList)), I.laid (t' := tk) kp (Nat.le_refl _) (show ObjOk X.prog X.w _ _ _ (.lst (letV z.cps.toList)) from ⟨len, acc.toList, c, ss, at_⟩), rfl, q _ hn⟩
end Wd

set_option Elab.async false
set_option linter.all false
set_option maxRecDepth 100000
set_option maxHeartbeats 4000000
namespace Wd
open PySem L2
def spLetter : Sp := fun vs H Q _ => ∃ B : Addr, vs = [.ref B] ∧ BagAt H B ∧ ∀ c H', low c → SB B H H' → BagAt H' B → Q (.str (sgn c)) H'
def spLetters : Sp := fun vs H Q _ => ∃ (B : Addr) (most : Int), vs = [.ref B, .int most] ∧ BagAt H B ∧ 1 ≤ most ∧ most ≤ 26 ∧
  ∀ (t : Addr) (ds : List Nat) H', Letters ds → t ≠ B → H' t = some (.tup (letV ds)) → SB B H H' → BagAt H' B → Q (.ref t) H'
structure GTxt (mg : Str → Option Value) (fT fP : Addr) : Prop extends TxtA mg fT where
  pick : mg "_law_pick" = some (.ref fP)
  range : mg "range" = none
  sorted : mg "sorted" = none
  list : mg "list" = none
  tuple : mg "tuple" = none
theorem pe_popAt {X : Cx} {K : PySem.W.Frag} {o e : Expr} {es : List Expr} {to : TE} {t : TA} {apos cpos : Pos} (hK : X.K = K) (ho : PE X o to) (ha : PA X (e :: es) t)
    (hbase : attributeBase o "pop" X.env (eval o X.env) = eval o X.env := by rfl)
    (hfew : ((backTo cpos (starEach (e :: es) X.env)).all (fun x => !x.1) && (backToKw cpos (keywordEach [] X.env)).all (fun x => x.1.isSome) && decide ((e :: es).length + ([] : List Keyword).length + (if ([] : List Keyword).isEmpty then 0 else 1) < 30)) = true := by rfl)
    (hline : (apos.endLine == cpos.line) = true := by rfl) (he : starEach (e :: es) X.env = (false, eval e X.env) :: starEach es X.env := by rfl)
    (hpl : (backTo cpos (starEach es X.env)).any (·.1) = false := by rfl) : PE X (.Call (.Attribute o "pop" apos) (e :: es) [] cpos) (tBM K "list" rPopAt to t) := by
  subst hK
  exact pe_bm PySem.F.plainAttrs_list PySem.F.slot_list_pop PySem.F.type_list_pop mt_popAt ho ha hbase hfew hline he hpl
theorem erase_perm : ∀ (l : List Nat) (k : Nat) (h : k < l.length), (l[k] :: l.eraseIdx k).Perm l
  | [], _, h => absurd h (Nat.not_lt_zero _)
  | c :: l, 0, _ => List.Perm.refl _
  | c :: l, k + 1, h => by
    have hk : k < l.length := Nat.lt_of_succ_lt_succ h
    have ih := erase_perm l k hk
    show (l[k] :: c :: l.eraseIdx k).Perm (c :: l)
    exact (List.Perm.swap _ _ _).trans (ih.cons c)
theorem letV_erase : ∀ (cs : List Nat) (k : Nat), (letV cs).eraseIdx k = letV (cs.eraseIdx k)
  | [], _ => rfl
  | _ :: _, 0 => rfl
  | c :: r, k + 1 => congrArg (V.str ⟨#[c]⟩ :: ·) (letV_erase r k)
theorem ab_low : ∀ c ∈ (Str.ofString "ab").cps.toList, low c := by unfold low; decide +kernel
theorem abc_low : ∀ c ∈ (Str.ofString "abc").cps.toList, low c := by unfold low; decide +kernel
theorem st_low : ∀ c ∈ (Str.ofString "st").cps.toList, low c := by unfold low; decide +kernel
theorem abcd_low : ∀ c ∈ (Str.ofString "abcd").cps.toList, low c := by unfold low; decide +kernel
theorem alpha_low : ∀ c ∈ (Str.ofString "abcdefghijklmnopqrstuvwxyz").cps.toList, low c := fun c h => (alpha_mem c).mp h
section
variable {P : Program} {w : World} {K : PySem.W.Frag} {mg : Str → Option Value} {base : Heap} {fT fP : Addr}
theorem scLetter : FnScope ["bag"] ["bag"] (defScope sLetter) := ⟨rfl, rfl, rfl, by decide +kernel, rfl, by decide +kernel, by decide +kernel⟩
theorem ok_letter {f : Addr} {fd fdT fdP : FuncData} (F : Fun K "_law_letter" "_law_letter" sLetter f fd) (X : GTxt mg fT fP) (FT : Fun K "_law_throw" "_law_throw" sThrow fT fdT) (bT : Binds K fdT ["bag", "total"] [])
    (FP : Fun K "_law_pick" "_law_pick" sPick fP fdP) (bP : Binds K fdP ["bag", "items"] []) : FnOk P w K mg base CX0 3 f fd ["bag"] spLetter := by
  have GS : FnOk P w K mg base CX0 2 fP fdP ["bag", "items"] spPickS := ok_pickS FP X.toTxtA FT bT
  have GL : FnOk P w K mg base CX0 2 fP fdP ["bag", "items"] spPickL := ok_pickL FP X.toTxtA FT bT
  refine F.ok scLetter (fun vs H Q E h => ?_) (fun cdv A outer s H vs Q E hr h => ?_)
  · obtain ⟨B, rfl, _⟩ := h
    rfl
  · obtain ⟨B, rfl, hB, k⟩ := h
    refine ⟨_, pss_one (ps_ret (pe_call GS hr rfl X.pick FP.kp bP .nil pass0 (pa_cons (pv 0) (pa_cons (pe_call GL hr rfl X.pick FP.kp bP .nil pass0 (pa_cons (pv 0) (pa_cons (pe_lst (pa_cons pe_str (pa_cons pe_str (pa_cons pe_str pa_nil)))) pa_nil))) pa_nil)))), ?_⟩
    refine ⟨_, rfl, _, rfl, (by show 3 ≤ sizeLine; decide), fun l hl => ?_⟩
    refine ⟨B, l, _, rfl, hB.new hl, (hB.ne hl).symm, upd_same, by decide, by decide, fun y H1 hy s1 b1 => ?_⟩
    have s1' : SB B H H1 := fun b o n e => s1 b o n (by rw [upd_ne (ne_of_none e hl)]; exact e)
    simp only [List.mem_cons, List.not_mem_nil, or_false] at hy
    rcases hy with rfl | rfl | rfl
    · exact ⟨B, _, rfl, b1, by decide, by decide, fun c H2 hc s2 b2 => k c _ (ab_low c hc) (s1'.trans s2) b2⟩
    · exact ⟨B, _, rfl, b1, by decide, by decide, fun c H2 hc s2 b2 => k c _ (abc_low c hc) (s1'.trans s2) b2⟩
    · exact ⟨B, _, rfl, b1, by decide, by decide, fun c H2 hc s2 b2 => k c _ (alpha_low c hc) (s1'.trans s2) b2⟩
abbrev nLetters : List Str := ["bag", "most", "signs", "size", "turn"]
theorem scLetters : FnScope nLetters ["bag", "most"] (defScope sLetters) := ⟨rfl, rfl, rfl, by decide +kernel, rfl, by decide +kernel, by decide +kernel⟩
theorem ok_letters {f : Addr} {fd fdT : FuncData} (F : Fun K "_law_letters" "_law_letters" sLetters f fd) (X : GTxt mg fT fP) (FT : Fun K "_law_throw" "_law_throw" sThrow fT fdT) (bT : Binds K fdT ["bag", "total"] []) :
    FnOk P w K mg base CX0 2 f fd ["bag", "most"] spLetters := by
  have GT : FnOk P w K mg base CX0 1 fT fdT ["bag", "total"] spThrow := ok_throw FT X.toTxtA
  refine F.ok scLetters (fun vs H Q E h => ?_) (fun cdv A outer s H vs Q E hr h => ?_)
  · obtain ⟨B, most, rfl, _⟩ := h
    rfl
  · obtain ⟨B, most, rfl, hB, m1, m5, k⟩ := h
    refine ⟨_, pss_cons (ps_set (i := 2) scLetters.nd rfl (Or.inr rfl) (pe_callTy (call_listS rfl) (by rfl) X.list (by decide +kernel) (pa_cons pe_str pa_nil)))
      (pss_cons (ps_if (PW.pt (pw_and (pt_cmpR op_le (pv 1) pe_int (nomark _)) (pw_and1 (pt_cmpR op_gt (pe_call GT hr rfl X.thr FT.kp bT .nil pass0 (pa_cons (pv 0) (pa_cons pe_int pa_nil))) pe_int (nomark _)))))
        (pss_one (ps_set (i := 2) scLetters.nd rfl (Or.inr rfl) (pe_callTy (call_listS rfl) (by rfl) X.list (by decide +kernel) (pa_cons pe_str pa_nil)))) pss_nil)
      (pss_cons (ps_set (i := 3) scLetters.nd rfl (Or.inl rfl) (pe_op op_add pe_int (pe_call GT hr rfl X.thr FT.kp bT .nil pass0 (pa_cons (pv 0) (pa_cons (pv 1) pa_nil)))))
      (pss_one (ps_ret (pe_callTy call_tuple_of (by rfl) X.tuple (by decide +kernel) (pa_cons (pe_callB cr_sortedS (by rfl) X.sorted (by decide +kernel) (pa_cons (pe_lc (own := [("turn", 4)]) (g := gName 4) (tt := tYes) rfl scLetters.nd
          (pi_range1 rfl X.range (pa_cons (pv 3) pa_nil)) (blkOk_by (N := nLetters) (sc := defScope sLetters) (by decide +kernel)) (fun _ _ _ _ _ => pg_name (i := 4) scLetters.nd rfl (Or.inl rfl)) (fun _ _ _ _ _ => pts_nil)
          (fun _ _ _ _ _ => pe_popAt (K := K) rfl (pv 2)
            (pa_cons (pe_call GT hr rfl X.thr FT.kp bT .nil pass0 (pa_cons (pv 0) (pa_cons (pe_callB (r := rLenQ K) call_lenQ (by rfl) X.len PySem.boot_len (pa_cons (pv 2) pa_nil)) pa_nil))) pa_nil))) pa_nil)) pa_nil)))))), ?_⟩
    refine ⟨_, rfl, by decide, fun L0 hL0 => ?_⟩
    have c26 : (Str.ofString "abcdefghijklmnopqrstuvwxyz").cps.toList.length = 26 := by decide +kernel
    have c4 : (Str.ofString "abcd").cps.toList.length = 4 := by decide +kernel
    have b0 := hB.new (o := .lst (letV (Str.ofString "abcdefghijklmnopqrstuvwxyz").cps.toList)) hL0
    have sb0 := (SB.refl B H).new (o := .lst (letV (Str.ofString "abcdefghijklmnopqrstuvwxyz").cps.toList)) hL0
    have e0 : (upd H L0 (.lst (letV (Str.ofString "abcdefghijklmnopqrstuvwxyz").cps.toList))) L0 = some (.lst (letV (Str.ofString "abcdefghijklmnopqrstuvwxyz").cps.toList)) := upd_same
    have n0 : L0 ≠ B := hB.ne hL0
    generalize upd H L0 (.lst (letV (Str.ofString "abcdefghijklmnopqrstuvwxyz").cps.toList)) = H0 at b0 sb0 e0
    dsimp only [gName]
    have nd26 : (Str.ofString "abcdefghijklmnopqrstuvwxyz").cps.toList.Nodup := by decide +kernel
    have nd4 : (Str.ofString "abcd").cps.toList.Nodup := by decide +kernel
    refine join_if (Good := fun σ' H1 => ∃ (L : Addr) (cs : List Nat), σ' = [some (.ref B), some (.int most), some (.ref L), none, none] ∧ SB B H H1 ∧ BagAt H1 B ∧ H1 L = some (.lst (letV cs)) ∧ L ≠ B ∧ H L = none ∧ cs.Nodup ∧ (∀ c ∈ cs, low c) ∧ most ≤ cs.length ∧ cs.length ≤ 26) (fun nxt hn => ?_) ?_
    · refine ⟨_, rfl, _, _, rfl, rfl, _, rfl, ?_⟩
      refine ite2 (fun g => ?_) (fun g => ?_)
      · have g' : most ≤ 4 := of_decide_eq_true g
        refine ⟨_, rfl, B, 3, rfl, b0, by decide, by decide +kernel, fun r H1 _ _ s1 b1 => ⟨_, _, rfl, rfl, _, rfl, ?_⟩⟩
        refine ite2 (fun _ => ?_) (fun _ => ?_)
        · refine ⟨_, rfl, by decide, fun L hL => ?_⟩
          have hLn : H L = none := by
            cases e : H L with
            | none => rfl
            | some o => exact absurd ((sb0.trans s1) _ _ (b1.ne hL) e) (by rw [hL]; exact fun q => nomatch q)
          exact hn _ _ ⟨L, _, rfl, (sb0.trans s1).new hL, b1.new hL, upd_same, b1.ne hL, hLn, nd4, abcd_low, by omega, by omega⟩
        · exact hn _ _ ⟨L0, _, rfl, sb0.trans s1, b1, s1 _ _ n0 e0, n0, hL0, nd26, alpha_low, by omega, by omega⟩
      · exact hn _ _ ⟨L0, _, rfl, sb0, b0, e0, n0, hL0, nd26, alpha_low, by omega, by omega⟩
    · rintro σ' H1 ⟨L, cs, rfl, sb1, b1, hL1, nLB, hLn, ndc, hlow, hc, hc6⟩
      refine ⟨_, rfl, _, rfl, B, most, rfl, b1, by omega, Int.le_trans (by omega : most ≤ 26) (by decide +kernel), fun r H2 r0 r1 s2 b2 => ?_⟩
      refine ⟨_, _, rfl, rfl, _, rfl, _, rfl, by omega, by omega, fun D hD => ?_⟩
      have hL2 : H2 L = some (.lst (letV cs)) := s2 _ _ nLB hL1
      have nLD : L ≠ D := ne_of_none hL2 hD
      have nDB : D ≠ B := b2.ne hD
      have hDn : H D = none := by
        cases e : H D with
        | none => rfl
        | some o => exact absurd ((sb1.trans s2) _ _ nDB e) (by rw [hD]; exact fun q => nomatch q)
      refine lc_range (lo := 0) (n := (1 + r).toNat) (fun i H' => SB B H H' ∧ BagAt H' B ∧ ∃ cs' ds : List Nat, H' L = some (.lst (letV cs')) ∧ cs'.length + i = cs.length ∧ (cs' ++ ds).Nodup ∧ (∀ c ∈ cs' ++ ds, low c) ∧ ds.length = i ∧ H' D = some (.lst (letV ds)))
        ⟨(sb1.trans s2).new hD, b2.new hD, cs, [], (upd_ne nLD).trans hL2, rfl, by rw [List.append_nil]; exact ndc, by rw [List.append_nil]; exact hlow, rfl, upd_same⟩ ?_ ?_
      · rintro i H' hi ⟨sb, bg, cs', ds, hL', lc, nd', low', ld, hD'⟩
        have l1 : (letV cs').length = cs'.length := List.length_map _
        refine ⟨rfl, _, rfl, .inl ⟨rfl, _, SqL.of hL'⟩, _, rfl, _, rfl, L, _, rfl, .inl (SqL.of hL'), B, _, rfl, bg, by omega, ?_, fun q H3 q0 q1 s3 b3 => ?_⟩
        · exact Int.le_trans (by omega : ((letV cs').length : Int) ≤ 26) (by decide +kernel)
        · have hq : q.toNat < cs'.length := by omega
          have ix : ixN (letV cs').length q = some q.toNat := by
            unfold ixN
            rw [if_pos q0, if_pos q1]
          have hL3 := s3 _ _ nLB hL'
          have hD3 := s3 _ _ nDB hD'
          refine ⟨L, _, q, q.toNat, .str (sgn cs'[q.toNat]), rfl, rfl, hL3, by omega, by omega, (ixN_seq ix).1, by simp [letV, hq, sgn], _, (upd_ne nLD.symm).trans hD3, ?_, ?_⟩
          · rw [letV, List.length_map, ld]
            exact small1000 (by omega)
          · have er := letV_erase cs' q.toNat
            have pm : (cs'.eraseIdx q.toNat ++ (ds ++ [cs'[q.toNat]])).Perm (cs' ++ ds) := by
              have h1 : (cs'[q.toNat] :: cs'.eraseIdx q.toNat).Perm cs' := erase_perm cs' q.toNat hq
              have h2 : (cs'.eraseIdx q.toNat ++ (ds ++ [cs'[q.toNat]])).Perm (cs'[q.toNat] :: (cs'.eraseIdx q.toNat ++ ds)) := by
                rw [← List.append_assoc]
                exact List.perm_append_singleton _ _
              exact h2.trans (h1.append_right ds)
            refine ⟨((sb.trans s3).own hLn).own hDn, ?_, cs'.eraseIdx q.toNat, ds ++ [cs'[q.toNat]], ?_, ?_, pm.nodup_iff.mpr nd', fun c hc => low' c (pm.mem_iff.mp hc), by simp [ld], ?_⟩
            · exact (b3.other (Ne.symm nLB)).other (Ne.symm nDB)
            · rw [upd_ne nLD, upd_same, er]
            · rw [List.length_eraseIdx_of_lt hq]
              omega
            · rw [upd_same, letV, letV, List.map_append]
              rfl
      · rintro H3 ⟨sb, bg, cs', ds, _, lc, nd', low', ld, hD3⟩
        have hD4 : H3 D = some (.lst ((ds.map sgn).map V.str)) := by rw [← letV_sgn]; exact hD3
        have l2 : (ds.map sgn).length = ds.length := List.length_map _
        refine ⟨D, ds.map sgn, rfl, SqL.of hD4, by omega, fun ys p pm srt hp => ⟨p, _, rfl, .inl ⟨SqL.of upd_same, fun t ht => ?_⟩⟩⟩
        obtain ⟨es, rfl⟩ := sgns_of (cs := ds) fun y hy => pm.mem_iff.mp hy
        have l3 : es.length = ds.length := by
          have := pm.length_eq
          rw [List.length_map, List.length_map] at this
          exact this
        have ndd : ds.Nodup := (List.nodup_append.mp nd').2.1
        have nde : es.Nodup := by
          have h1 : (ds.map sgn).Nodup := List.pairwise_map.mpr (ndd.imp fun h e => h (sgn_inj e))
          have h2 : (es.map sgn).Nodup := pm.nodup_iff.mpr h1
          exact (List.pairwise_map.mp h2).imp fun h e => h (by rw [e])
        refine k t es _ ⟨fun e => ?_, fun c hc => ?_, strict_of (sorted_le srt) nde⟩ ((bg.new hp).ne ht) (upd_same.trans (by rw [letV_sgn])) ((sb.new hp).new ht) ((bg.new hp).new ht)
        · rw [e] at l3
          simp at l3
          omega
        · obtain ⟨d, hd, e⟩ := List.mem_map.mp (pm.mem_iff.mp (List.mem_map.mpr ⟨c, hc, rfl⟩))
          exact sgn_inj e ▸ low' d (by simp [hd])
end
end Wd

set_option Elab.async false
set_option linter.all false
set_option maxRecDepth 100000
set_option maxHeartbeats 4000000
set_option pp.maxSteps 400
set_option pp.deepTerms false
namespace Wd
open PySem L2
theorem inV_words (z : Str) (ws : List Str) : inV (.str z) (ws.map V.str) = true ↔ z ∈ ws := by
  unfold inV
  rw [List.any_eq_true]
  constructor
  · rintro ⟨y, hy, q⟩
    obtain ⟨x, hx, rfl⟩ := List.mem_map.mp hy
    have : (x == z) = true := q
    exact (beq_iff_eq.mp this) ▸ hx
  · exact fun h => ⟨_, List.mem_map.mpr ⟨z, h, rfl⟩, show (z == z) = true from beq_self_eq_true z⟩
theorem flat_strs (ys : List Str) : (ys.map V.str).all flatV = true := by
  rw [List.all_eq_true]
  intro v hv
  obtain ⟨y, _, rfl⟩ := List.mem_map.mp hv
  rfl
def spWords : Sp := fun vs H Q _ => vs = [] ∧ ∀ H' (L : Addr), Same H H' → H L = none → H' L = some (.lst (words.map V.str)) → Q (.ref L) H'
section
variable {P : Program} {w : World} {K : PySem.W.Frag} {mg : Str → Option Value} {base : Heap}
theorem scWords : FnScope ["words"] [] (defScope sWords) := ⟨rfl, rfl, rfl, by decide +kernel, rfl, by decide +kernel, by decide +kernel⟩
theorem ok_words {f : Addr} {fd : FuncData} (F : Fun K "_law_words" "_law_words" sWords f fd) : FnOk P w K mg base CX0 1 f fd [] spWords := by
  refine F.ok scWords (fun vs H Q E h => ?_) (fun cdv A outer s H vs Q E hr h => ?_)
  · obtain ⟨rfl, _⟩ := h
    rfl
  · obtain ⟨rfl, k⟩ := h
    refine ⟨_, pss_cons (ps_set (i := 0) scWords.nd rfl (Or.inl rfl) (pe_lst (pa_cons pe_str (pa_cons pe_str (pa_cons pe_str (pa_cons pe_str (pa_cons pe_str (pa_cons pe_str (pa_cons pe_str (pa_cons pe_str (pa_cons pe_str (pa_cons pe_str (pa_cons pe_str (pa_cons pe_str (pa_cons pe_str pa_nil))))))))))))))) (pss_one (ps_ret (pe_op op_cat (pv 0) (pe_lst (pa_cons pe_str (pa_cons pe_str (pa_cons pe_str (pa_cons pe_str (pa_cons pe_str (pa_cons pe_str (pa_cons pe_str (pa_cons pe_str (pa_cons pe_str (pa_cons pe_str pa_nil)))))))))))))), ?_⟩
    refine ⟨by show 13 ≤ sizeLine; decide, fun l hl => ?_⟩
    refine ⟨_, rfl, by show 10 ≤ sizeLine; decide, fun m hm => ?_⟩
    have hlm : l ≠ m := fun e => by
      rw [e] at hm
      rw [← e, upd_same] at hm
      cases hm
    refine ⟨l, m, _, _, rfl, rfl, (upd_ne hlm).trans upd_same, upd_same, ?_, fun p hp => ?_⟩
    · show 13 + 10 ≤ sizeLine
      decide
    · have hm' : H m = none := by
        rw [upd_ne (Ne.symm hlm)] at hm
        exact hm
      have hpl : p ≠ l := fun z => by
        rw [z, upd_ne hlm, upd_same] at hp
        cases hp
      have hpm : p ≠ m := fun z => by
        rw [z, upd_same] at hp
        cases hp
      have hp' : H p = none := by
        rw [upd_ne hpm, upd_ne hpl] at hp
        exact hp
      refine k _ p (fun b o e => ?_) hp' (upd_same.trans rfl)
      rw [upd_ne (ne_of_none e hp'), upd_ne (ne_of_none e hm'), upd_ne (ne_of_none e hl)]
      exact e
end
end Wd

set_option Elab.async false
set_option linter.all false
set_option maxRecDepth 100000
set_option maxHeartbeats 4000000
namespace Wd
open PySem L2
/-- a short text of letters -/
def LowT (z : Str) : Prop := (1 ≤ z.length ∧ z.length ≤ 8) ∧ ∀ c ∈ z.cps.toList, low c
theorem LowT.ok {z : Str} (h : LowT z) : PyData.strOk z = true := by
  unfold PyData.strOk
  rw [Array.all_eq_true']
  intro c hc
  have := h.2 c (by simpa using hc)
  unfold low at this
  simp
  omega
theorem cps_append (a b : Str) : (a ++ b).cps.toList = a.cps.toList ++ b.cps.toList := by
  show (a.cps ++ b.cps).toList = _
  simp
theorem join_sgn : ∀ ds : List Nat, (Txt.join (Str.ofString "") (ds.map sgn)).cps.toList = ds := by
  intro ds
  rw [show Txt.join (Str.ofString "") (ds.map sgn) = Str.join (Str.ofString "") (ds.map sgn) from StrLaws.glued_eq_join _ _]
  induction ds with
  | nil => rfl
  | cons a r ih =>
    cases r with
    | nil => rfl
    | cons b r =>
      show (sgn a ++ Str.ofString "" ++ Str.join (Str.ofString "") ((b :: r).map sgn)).cps.toList = _
      rw [cps_append, cps_append, ih]
      rfl
theorem len_cps (z : Str) : z.length = z.cps.toList.length := (Array.length_toList (xs := z.cps)).symm
theorem cutS_mem {z : Str} {lo hi : Option Int} {c : Nat} (h : c ∈ (cutS z lo hi).cps.toList) : c ∈ z.cps.toList := by
  have h' : c ∈ (z.cps.toList.drop (HT.sIx z.length 0 lo)).take (HT.sIx z.length z.length hi - HT.sIx z.length 0 lo) := by
    simpa [cutS] using h
  exact List.mem_of_mem_drop (List.mem_of_mem_take h')
theorem LowT.cut {z : Str} (h : ∀ c ∈ z.cps.toList, low c) {c : Nat} (hc : low c) : LowT (cutS z none (some 7) ++ sgn c) := by
  refine ⟨?_, fun d hd => ?_⟩
  · rw [len_cps, cps_append, List.length_append]
    have : (cutS z none (some 7)).cps.toList.length ≤ 7 := by
      have e : (cutS z none (some 7)).cps.toList = (z.cps.toList.drop (HT.sIx z.length 0 none)).take (HT.sIx z.length z.length (some 7) - HT.sIx z.length 0 none) := by simp [cutS]
      rw [e, List.length_take]
      have : HT.sIx z.length z.length (some 7) ≤ 7 := by
        show (HT.sIx z.length z.length (some 7)) ≤ 7
        unfold HT.sIx
        simp
        omega
      omega
    show 1 ≤ _ + 1 ∧ _ + 1 ≤ 8
    omega
  · rw [cps_append] at hd
    rcases List.mem_append.mp hd with q | q
    · exact h d (cutS_mem q)
    · have e : d = c := by simpa [sgn] using q
      exact e ▸ hc
theorem zzz_name : NameS (Str.ofString "zzz") := by
  refine ⟨by decide, by decide, ?_, by decide +kernel⟩
  unfold low
  decide +kernel
theorem sum_ones : ∀ {ys : List Str}, (∀ y ∈ ys, y.length = 1) → (ys.map (·.length)).sum = ys.length
  | [], _ => rfl
  | a :: r, h => by
    rw [List.map_cons, List.sum_cons, List.length_cons, sum_ones (fun y hy => h y (List.mem_cons_of_mem _ hy)), h a (List.mem_cons_self ..)]
    omega
theorem bag_nl {B L : Addr} {H : Hp} {ys : List Str} (b : BagAt H B) (h : H L = some (.lst (ys.map V.str))) : B ≠ L := by
  obtain ⟨x, y, z, hb⟩ := b
  intro e
  rw [← e, hb] at h
  cases ys with
  | nil => cases h
  | cons a r => cases h
def spName : Sp := fun vs H Q _ => ∃ (B L : Addr) (ks : List Str), vs = [.ref B, .ref L] ∧ BagAt H B ∧ H L = some (.lst (ks.map V.str)) ∧ ∀ z H', NameS z → SB B H H' → BagAt H' B → Q (.str z) H'
section
variable {P : Program} {w : World} {K : PySem.W.Frag} {mg : Str → Option Value} {base : Heap} {fT fP fW : Addr}
abbrev nName : List Str := ["bag", "used", "alphabet", "signs", "text", "name", "turn", "sign"]
theorem scName : FnScope nName ["bag", "used"] (defScope sName) := ⟨rfl, rfl, rfl, by decide +kernel, rfl, by decide +kernel, by decide +kernel⟩
theorem ok_name {f : Addr} {fd fdT fdP fdW : FuncData} (F : Fun K "_law_name" "_law_name" sName f fd) (T : GTxt mg fT fP) (wrds : mg "_law_words" = some (.ref fW)) (FT : Fun K "_law_throw" "_law_throw" sThrow fT fdT) (bT : Binds K fdT ["bag", "total"] [])
    (FP : Fun K "_law_pick" "_law_pick" sPick fP fdP) (bP : Binds K fdP ["bag", "items"] []) (FW : Fun K "_law_words" "_law_words" sWords fW fdW) (bW : Binds K fdW [] []) :
    FnOk P w K mg base CX0 3 f fd ["bag", "used"] spName := by
  have GT : FnOk P w K mg base CX0 1 fT fdT ["bag", "total"] spThrow := ok_throw FT T.toTxtA
  have GS : FnOk P w K mg base CX0 2 fP fdP ["bag", "items"] spPickS := ok_pickS FP T.toTxtA FT bT
  have GL : FnOk P w K mg base CX0 2 fP fdP ["bag", "items"] spPickL := ok_pickL FP T.toTxtA FT bT
  have GW : FnOk P w K mg base CX0 1 fW fdW [] spWords := ok_words FW
  refine F.ok scName (fun vs H Q E h => ?_) (fun cdv A outer s H vs Q E hr h => ?_)
  · obtain ⟨B, L, ks, rfl, _⟩ := h
    rfl
  · obtain ⟨B, L, ks, rfl, hB, hL, k⟩ := h
    have hr1 : Room 1 _ := hr.mono (by decide)
    refine ⟨_, pss_cons (ps_set (i := 2) scName.nd rfl (Or.inl rfl) pe_str)
      (pss_cons (ps_set (i := 3) scName.nd rfl (Or.inr rfl) (pe_call GL hr rfl T.pick FP.kp bP .nil pass0 (pa_cons (pv 0) (pa_cons (pe_lst (pa_cons (pv 2) (pa_cons pe_str (pa_cons pe_str pa_nil)))) pa_nil))))
      (pss_cons (ps_set (i := 4) scName.nd rfl (Or.inr rfl) (pe_join pe_str (pe_lc (own := [("turn", 6)]) (g := gName 6) (tt := tYes) rfl scName.nd
          (pi_range1 rfl T.range (pa_cons (pe_op op_add pe_int (pe_call GT hr1 rfl T.thr FT.kp bT .nil pass0 (pa_cons (pv 0) (pa_cons pe_int pa_nil)))) pa_nil))
          (blkOk_by (N := nName) (sc := defScope sName) (by decide +kernel)) (fun _ _ _ _ _ => pg_name (i := 6) scName.nd rfl (Or.inl rfl)) (fun _ _ _ _ _ => pts_nil)
          (fun _ _ _ _ _ => pe_call GS hr rfl T.pick FP.kp bP .nil pass0 (pa_cons (pv 0) (pa_cons (pv 3) pa_nil))))))
      (pss_cons (ps_for PassesOwn.never rfl (pi_list (pe_op op_cat (pe_lst (pa_cons (pv 4) pa_nil)) (pe_lc (own := [("sign", 7)]) (g := gName 7) (tt := tYes) rfl scName.nd (pi_str (pv 2))
          (blkOk_by (N := nName) (sc := defScope sName) (by decide +kernel)) (fun _ _ _ _ _ => pg_name (i := 7) scName.nd rfl (Or.inl rfl)) (fun _ _ _ _ _ => pts_nil)
          (fun _ _ _ _ _ => pe_op op_add_str (pe_slice sl_str (pv 4) po_none (po_some pe_int)) (pv 7))))) (pg_name (i := 5) scName.nd rfl (Or.inl rfl))
        (pss_one (ps_if (PW.pt (pw_and (pt_cmpR op_notIn_seq (pv 5) (pv 1) (by rfl)) (pw_and1 (pt_cmpR op_notIn_seq (pv 5) (pe_call0 GW hr1 rfl wrds FW.kp bW .nil pass0) (by rfl))))) (pss_one (ps_ret (pv 5))) pss_nil)))
      (pss_one (ps_ret pe_str))))), ?_⟩
    refine ⟨_, rfl, _, rfl, by show 3 ≤ sizeLine; decide, fun l hl => ?_⟩
    refine ⟨B, l, [_, _, _], rfl, hB.new hl, (hB.ne hl).symm, upd_same, by decide, by decide, fun y0 H1 hy s1 b1 => ?_⟩
    obtain ⟨y, rfl, hy1, hy2, hy3⟩ : ∃ y : Str, y0 = .str y ∧ 0 < y.length ∧ y.length ≤ 100 ∧ ∀ c ∈ y.cps.toList, low c := by
      simp only [List.mem_cons, List.not_mem_nil, or_false] at hy
      rcases hy with rfl | rfl | rfl
      · exact ⟨_, rfl, by decide, by decide, alpha_low⟩
      · exact ⟨_, rfl, by decide, by decide, ab_low⟩
      · exact ⟨_, rfl, by decide, by decide, st_low⟩
    have s1' : SB B H H1 := fun b o n e => s1 b o n (by rw [upd_ne (ne_of_none e hl)]; exact e)
    refine ⟨⟨_, rfl⟩, _, rfl, B, _, rfl, b1, by decide, by decide +kernel, fun r H2 r0 r1 s2 b2 => ?_⟩
    refine ⟨_, _, rfl, rfl, _, rfl, by omega, by omega, fun D hD => ?_⟩
    refine lc_range (lo := 0) (n := _) (fun i H' => SB B H2 H' ∧ BagAt H' B ∧ ∃ ds : List Nat, ds.length = i ∧ (∀ c ∈ ds, low c) ∧ H' D = some (.lst ((ds.map sgn).map V.str)))
      ⟨(SB.refl B H2).new hD, b2.new hD, [], rfl, (fun z h => by cases h), upd_same⟩ ?_ ?_
    · rintro i H' hi ⟨sb, bg, ds, el, e1, hD'⟩
      refine ⟨rfl, ?_⟩
      refine ⟨_, rfl, _, rfl, B, y, rfl, bg, hy1, hy2, fun c H3 hc s3 b3 => ?_⟩
      have nDB : D ≠ B := (b2.ne hD)
      refine ⟨_, s3 _ _ nDB hD', ?_, ?_⟩
      · rw [List.length_map, List.length_map, el]
        exact small1000 (by omega)
      · refine ⟨(sb.trans s3).own hD, b3.other nDB.symm, ds ++ [c], by simp [el], fun z hz => ?_, ?_⟩
        · rcases List.mem_append.mp hz with q | q
          · exact e1 z q
          · rw [List.mem_singleton.mp q]
            exact hy3 c hc
        · rw [upd_same, List.map_append, List.map_append] <;> rfl
    · rintro H3 ⟨s3, b3, ds, el, e1, hD3⟩
      have el9 : 1 ≤ ds.length ∧ ds.length ≤ 8 := by omega
      have one : ∀ z ∈ ds.map sgn, z.length = 1 := fun z hz => by
        obtain ⟨c, _, rfl⟩ := List.mem_map.mp hz
        rfl
      have zl : ((ds.map sgn).map (·.length)).sum + (ds.map sgn).length * (Str.ofString "").length ≤ 16777216 := by
        rw [sum_ones one, List.length_map]
        show ds.length + ds.length * 0 ≤ 16777216
        omega
      refine ⟨_, D, ds.map sgn, rfl, rfl, .inl (SqL.of hD3), zl, ?_⟩
      have tx := join_sgn ds
      have tl : (Txt.join (Str.ofString "") (ds.map sgn)).length = ds.length := by
        rw [len_cps, tx]
      have tlow : ∀ c ∈ (Txt.join (Str.ofString "") (ds.map sgn)).cps.toList, low c := by
        rw [tx]
        exact e1
      generalize ht : Txt.join (Str.ofString "") (ds.map sgn) = text at tl tlow
      have tz : text.length ≤ sizeLine := Nat.le_of_lt (small1000 (by omega))
      refine ⟨_, rfl, by show 1 ≤ sizeLine; decide, fun m hm => ?_⟩
      refine ⟨_, rfl, _, rfl, fun D2 hD2 => ?_⟩
      have nm2 : m ≠ D2 := fun e => by
        rw [← e, upd_same] at hD2
        cases hD2
      have hD2' : H3 D2 = none := by
        rw [upd_ne nm2.symm] at hD2
        exact hD2
      refine lc_it walk_str (fun i H' => ∃ zs : List Str, zs.length = i ∧ (∀ z ∈ zs, LowT z) ∧ H' = upd (upd H3 m (.lst [.str text])) D2 (.lst (zs.map V.str))) ⟨[], rfl, (fun z h => by cases h), rfl⟩ (fun _ _ _ _ => trivial) ?_ ?_
      · rintro i x H4 H5 hi ⟨zs, el, zlow, rfl⟩ ⟨rfl, c, hc, rfl⟩
        have hi26 : i < 26 := hi
        have lc : low c := alpha_low c (by
          have := Array.mem_of_getElem? hc
          simpa using this)
        refine ⟨rfl, ?_⟩
        refine ⟨_, rfl, _, rfl, text, rfl, tz, _, rfl, _, _, rfl, rfl, ?_, _, upd_same, ?_, ?_⟩
        · refine Nat.le_trans (Nat.add_le_add_right (cutS_length _ _ _) _) ?_
          exact Nat.le_of_lt (small1000 (by show text.length + 1 ≤ 1000; omega))
        · rw [List.length_map, el]
          exact small1000 (by omega)
        · refine ⟨zs ++ [cutS text none (some 7) ++ sgn c], by simp [el], fun z hz => ?_, ?_⟩
          · rcases List.mem_append.mp hz with q | q
            · exact zlow z q
            · rw [List.mem_singleton.mp q]
              exact LowT.cut tlow lc
          · rw [upd_upd, List.map_append]
            rfl
      · rintro H4 ⟨zs, el, zlow, rfl⟩
        have elz : zs.length = 26 := el
        refine ⟨m, D2, _, _, rfl, rfl, (upd_ne nm2).trans upd_same, upd_same, ?_, fun p hp => ?_⟩
        · rw [List.length_map, elz]
          show 1 + 26 ≤ sizeLine
          decide
        have npD : p ≠ D2 := fun e => by
          rw [e, upd_same] at hp
          cases hp
        have npm : p ≠ m := fun e => by
          rw [upd_ne npD, e, upd_same] at hp
          cases hp
        have hp3 : H3 p = none := by
          rw [upd_ne npD, upd_ne npm] at hp
          exact hp
        have nBp := b3.ne hp3
        have nL : B ≠ L := bag_nl hB hL
        have sAll : SB B H3 (upd (upd (upd H3 m (.lst [.str text])) D2 (.lst (zs.map V.str))) p (.lst ([V.str text] ++ zs.map V.str))) :=
          (((SB.refl B H3).new hm).new hD2).new hp
        have s3' : SB B H H3 := s1'.trans (s2.trans s3)
        have bAll : BagAt (upd (upd (upd H3 m (.lst [.str text])) D2 (.lst (zs.map V.str))) p (.lst ([V.str text] ++ zs.map V.str))) B :=
          ((b3.new hm).new hD2).new hp
        have all : ∀ z ∈ text :: zs, LowT z := fun z hz => by
          rcases List.mem_cons.mp hz with q | q
          · rw [q]
            exact ⟨by omega, tlow⟩
          · exact zlow z q
        generalize hH : upd (upd (upd H3 m (.lst [.str text])) D2 (.lst (zs.map V.str))) p (.lst ([V.str text] ++ zs.map V.str)) = H9 at sAll bAll
        have hp9 : H9 p = some (.lst ((text :: zs).map V.str)) := by
          rw [← hH, upd_same]
          rfl
        refine ⟨p, rfl, ⟨_, SqL.of hp9⟩, ?_⟩
        refine for_list (K := K) (a := p) (xs := (text :: zs).map V.str) (fun i σ H' => ∃ v : Option V, σ = [some (.ref B), some (.ref L), some (.str _), some (.str y), some (.str text), v, none, none] ∧ SB B H9 H' ∧ BagAt H' B)
          ⟨none, rfl, SB.refl B H9, bAll⟩ (fun i σ H' _ ⟨_, _, sb, _⟩ => SqL.of (sb _ _ nBp hp9)) ?_ ?_
        · rintro i x σ H' hi ⟨v, rfl, sb, bg⟩
          obtain ⟨z, hz, rfl⟩ : ∃ z : Str, z ∈ text :: zs ∧ x = V.str z := by
            obtain ⟨z, hz, e⟩ := List.mem_map.mp (List.mem_of_getElem? hi)
            exact ⟨z, hz, e.symm⟩
          have hL' : H' L = some (.lst (ks.map V.str)) := (s3'.trans (sAll.trans sb)) _ _ nL.symm hL
          refine ⟨_, rfl, _, rfl, L, _, rfl, .inl (SqL.of hL'), rfl, flat_strs _, _, rfl, ?_⟩
          refine ite2 (fun _ => ?_) (fun _ => ?_)
          · refine ⟨_, rfl, rfl, fun H7 l7 same _ hl7 => ⟨l7, _, rfl, .inl (SqL.of hl7), rfl, flat_strs _, _, rfl, ?_⟩⟩
            have bg7 : BagAt H7 B := by
              obtain ⟨a1, a2, a3, q⟩ := bg
              exact ⟨a1, a2, a3, same _ _ q⟩
            refine ite2 (fun c => ?_) (fun _ => ?_)
            · have nw : z ∉ words := fun q => by
                have i1 := (inV_words z words).mpr q
                rw [i1] at c
                exact Bool.noConfusion c
              have az := all z hz
              exact ⟨_, rfl, k _ _ ⟨az.1.1, az.1.2, az.2, nw⟩ (s3'.trans (sAll.trans (sb.trans (SB.of same)))) bg7⟩
            · exact ⟨_, rfl, sb.trans (SB.of same), bg7⟩
          · exact ⟨_, rfl, sb, bg⟩
        · rintro σ H' ⟨v, rfl, sb, bg⟩
          exact k _ _ zzz_name (s3'.trans (sAll.trans sb)) bg
end
end Wd

set_option Elab.async false
set_option linter.all false
set_option maxRecDepth 100000
set_option maxHeartbeats 4000000
set_option pp.maxSteps 400
set_option pp.deepTerms false
namespace Wd
open PySem L2 TL
open SX (S)

def formS : List (String × String) := [("never", "W"), ("told", "W"), ("one", "L"), ("after", "DL"), ("every", "DL"), ("only", "AP"), ("pick", "IP"), ("fold", "TP"), ("first", "CP"), ("changes", "P"), ("pairs", "P"), ("quiet", "DP"),
  ("spaced", "DP"), ("late", "DMP"), ("again", "P"), ("+", "PP"), ("&", "PP"), ("at", "PP"), ("until", "PP"), ("then", "PP"), ("else", "DPP"), ("switch", "PP"), ("busy", "PP")]
/-- the words of the operators, and a sign for each argument -/
def forms : List (List Nat × List Nat) := formS.map fun p => (tl (Str.ofString p.1), tl (Str.ofString p.2))
def formText : List Nat := tl (Str.ofString "never W|told W|one L|after DL|every DL|only AP|pick IP|fold TP|first CP|changes P|pairs P|quiet DP" ++ Str.ofString "|spaced DP|late DMP|again P|+ PP|& PP|at PP|until PP|then PP|else DPP|switch PP|busy PP")
theorem forms_split : spl [124] 0 [] formText = forms.map fun r => r.1 ++ 32 :: r.2 := by decide +kernel
theorem form_split : ∀ r ∈ forms, spl [32] 0 [] (r.1 ++ 32 :: r.2) = [r.1, r.2] := by decide +kernel
theorem form_len : ∀ r ∈ forms, (r.1 ++ 32 :: r.2).length ≤ 20 := by decide +kernel
def FormAt (H : Hp) (r : List Nat × List Nat) (x : V) : Prop := ∃ p, x = .ref p ∧ H p = some (.tup [.str (S r.1), .str (S r.2)])
theorem FormAt.mono {H H' : Hp} (k : TK H H') {r : List Nat × List Nat} {x : V} : FormAt H r x → FormAt H' r x := fun ⟨p, h1, h2⟩ => ⟨p, h1, k _ _ h2⟩
def spForms : Sp := fun vs H Q _ => vs = [] ∧ ∀ H' L xs, Same H H' → H L = none → H' L = some (.lst xs) → Paired (FormAt H') forms xs → Q (.ref L) H'
def rTupQ (K : PySem.W.Frag) : List V → Hp → VK → Prop := fun xs H Q => ∃ p ys, xs = [.ref p] ∧ ((SqL K H p ys ∧ ∀ l, H l = none → Q (.ref l) (upd H l (.tup ys))) ∨ (SqT K H p ys ∧ Q (.ref p) H))
theorem paired_of {α : Type} {F : α → V → Prop} : ∀ (es : List α) (ys : List V), ys.length = es.length → (∀ (i : Nat) y, ys[i]? = some y → ∃ e, es[i]? = some e ∧ F e y) → Paired F es ys
  | [], ys, l, _ => by
    rw [List.eq_nil_of_length_eq_zero l]
    exact .nil
  | e :: es, [], l, _ => nomatch l
  | e :: es, y :: ys, l, hv => by
    obtain ⟨d, e1, e2⟩ := hv 0 y rfl
    cases e1
    exact .cons e2 (paired_of es ys (Nat.succ.inj l) fun i v e => hv (i + 1) v e)
section
variable {P : Program} {w : World} {K : PySem.W.Frag} {mg : Str → Option Value} {base : Heap}
theorem scForms : FnScope ["rows", "row"] [] (defScope sForms) := ⟨rfl, rfl, rfl, by decide +kernel, rfl, by decide +kernel, by decide +kernel⟩
theorem ok_forms {f : Addr} {fd : FuncData} (F : Fun K "_law_forms" "_law_forms" sForms f fd) (X : NTxt mg) : FnOk P w K mg base CX0 1 f fd [] spForms := by
  refine F.ok scForms (fun vs H Q E h => ?_) (fun cdv Ao outer s H vs Q E hr h => ?_)
  · obtain ⟨rfl, _⟩ := h
    rfl
  · obtain ⟨rfl, q⟩ := h
    have nd := scForms.nd
    refine ⟨_, pss_cons (ps_set (i := 0) nd rfl (Or.inl rfl) pe_str)
      (pss_cons (ps_set (i := 0) nd rfl (Or.inl rfl) (pe_op op_add_str (pv 0) pe_str))
      (pss_one (ps_ret (pe_lc (own := [("row", 1)]) (g := gName 1) (tt := tYes) rfl nd (pi_list (pe_split (pv 0) pe_str)) (blkOk_by (N := ["rows", "row"]) (sc := defScope sForms) (by decide +kernel)) (fun _ _ _ _ _ => pg_name (i := 1) nd rfl (Or.inl rfl)) (fun _ _ _ _ _ => pts_nil)
        (fun _ _ _ _ _ => pe_callTy (r := rTupQ K) call_tuple_of (by rfl) X.tup (by decide +kernel) (pa_cons (pe_split (pv 1) pe_str) pa_nil)))))), ?_⟩
    have lt : formText.length ≤ 300 := by decide +kernel
    refine ⟨_, rfl, _, _, rfl, rfl, (show (Str.ofString "never W|told W|one L|after DL|every DL|only AP|pick IP|fold TP|first CP|changes P|pairs P|quiet DP").length + (Str.ofString "|spaced DP|late DMP|again P|+ PP|& PP|at PP|until PP|then PP|else DPP|switch PP|busy PP").length ≤ sizeLine by decide +kernel), ?_⟩
    have et : (Str.ofString "never W|told W|one L|after DL|every DL|only AP|pick IP|fold TP|first CP|changes P|pairs P|quiet DP" ++ Str.ofString "|spaced DP|late DMP|again P|+ PP|& PP|at PP|until PP|then PP|else DPP|switch PP|busy PP" : Str) = S formText := (SX.S_tl _).symm
    rw [et]
    have sp : Txt.split (S formText) (S [124]) = (forms.map fun r => r.1 ++ 32 :: r.2).map S := by rw [SX.split_S (by simp) (by decide), forms_split]
    refine ⟨_, rfl, ⟨_, rfl⟩, _, _, rfl, rfl, rfl, (by rw [SX.S_len]; exact Nat.le_trans (by omega : _ + 2 ≤ 302) (by decide)), fun p hp => ?_⟩
    have s1 := same_new (o := .lst ((Txt.split (S formText) (S [124])).map V.str)) hp
    have e1 : (upd H p (.lst ((Txt.split (S formText) (S [124])).map V.str))) p = some (.lst (wV (forms.map fun r => r.1 ++ 32 :: r.2))) := by
      rw [upd_same, sp, wV_eq]
    have lf : (wV (forms.map fun r => r.1 ++ 32 :: r.2)).length = forms.length := by rw [wV_len, List.length_map]
    have l23 : forms.length = 23 := by decide +kernel
    refine ⟨p, rfl, ⟨_, SqL.of e1⟩, fun D hD => ?_⟩
    refine lc_keepW (n := (wV (forms.map fun r => r.1 ++ 32 :: r.2)).length) (walk_list (K := K) (xs := wV (forms.map fun r => r.1 ++ 32 :: r.2)) (a := p)) (fun i H y => ∃ r, forms[i]? = some r ∧ FormAt H r y) (fun _ _ _ _ k ⟨r, h1, h2⟩ => ⟨r, h1, h2.mono k⟩) hD (by omega) (fun H5 s5 => SqL.of (s5 _ _ e1)) ?_ ?_
    · rintro i x H5 H' kT hi s5 ⟨rfl, hx⟩ h
      rw [lf] at hi
      rw [wV_get (by rw [List.length_map]; exact hi)] at hx
      rw [List.getElem_map] at hx
      cases hx
      have hm := List.getElem_mem hi
      have fl := form_len _ hm
      refine ⟨rfl, _, rfl, ⟨_, rfl⟩, _, _, rfl, rfl, rfl, (by rw [SX.S_len]; exact Nat.le_trans (by omega : _ + 2 ≤ 22) (by decide)), fun p2 hp2 => ?_⟩
      have sp2 : Txt.split (S (forms[i].1 ++ 32 :: forms[i].2)) (S [32]) = [forms[i].1, forms[i].2].map S := by rw [SX.split_S (by simp) (by decide), form_split _ hm]
      have e2 : (upd H' p2 (.lst ((Txt.split (S (forms[i].1 ++ 32 :: forms[i].2)) (S [32])).map V.str))) p2 = some (.lst [.str (S forms[i].1), .str (S forms[i].2)]) := by
        rw [upd_same, sp2]
        rfl
      refine ⟨p2, _, rfl, .inl ⟨SqL.of e2, fun l hl => ?_⟩⟩
      exact h _ _ ((same_new hp2).trans (same_new hl)) ⟨_, List.getElem?_eq_getElem hi, l, rfl, upd_same⟩
    · intro H5 ys s5 e5 l5 r5
      have hDn : H D = none := by
        cases e : H D with
        | none => rfl
        | some o => exact absurd ((s1 _ _ e).symm.trans hD) (fun z => nomatch z)
      exact q _ D ys (s1.trans s5) hDn e5 (paired_of forms ys (by omega) r5)
end
end Wd

set_option Elab.async false
set_option linter.all false
set_option maxRecDepth 100000
set_option maxHeartbeats 4000000
set_option pp.maxSteps 400
set_option pp.deepTerms false
namespace Wd
open PySem L2 TL
open SX (S)

/-- the sign of an argument in the forms -/
def codeOf : Kind → Nat
  | .name => 0 | .letter => 76 | .letters => 65 | .places => 73 | .table => 84 | .delay => 68 | .count => 67 | .room => 77 | .width => 87
def spRanges : Sp := fun vs H Q _ => ∃ kd : Kind, vs = [.str (S [codeOf kd])] ∧ (kd matches .delay | .count | .room | .width) ∧ ∀ H' t, Same H H' → H' t = some (.tup [.int (lims kd).1, .int (lims kd).2]) → Q (.ref t) H'
section
variable {P : Program} {w : World} {K : PySem.W.Frag} {mg : Str → Option Value} {base : Heap}
theorem scRanges : FnScope ["code"] ["code"] (defScope sRanges) := ⟨rfl, rfl, rfl, by decide +kernel, rfl, by decide +kernel, by decide +kernel⟩
theorem ok_ranges {f : Addr} {fd : FuncData} (F : Fun K "_law_ranges" "_law_ranges" sRanges f fd) : FnOk P w K mg base CX0 1 f fd ["code"] spRanges := by
  refine F.ok scRanges (fun vs H Q E h => ?_) (fun cdv Ao outer s H vs Q E hr h => ?_)
  · obtain ⟨kd, rfl, _⟩ := h
    rfl
  · obtain ⟨kd, rfl, hk, q⟩ := h
    have two : PA (cxOf CX0 P w K mg base ["code"] "_law_ranges" (defScope sRanges) f cdv Ao outer s H E).nox [] tNil := pa_nil
    refine ⟨_, pss_one (ps_ret (pe_dget2 (Nat.lt_of_le_of_lt (Nat.add_le_add_left (by decide) _) hr.units) (pe_disp (pps_cons pe_str (pe_tup (pa_cons pe_int (pa_cons pe_int pa_nil))) (pps_cons pe_str (pe_tup (pa_cons pe_int (pa_cons (pe_op op_sub (pe_op op_powB pe_int pe_int) pe_int) pa_nil)))
      (pps_cons pe_str (pe_tup (pa_cons pe_int (pa_cons pe_int pa_nil))) (pps_cons pe_str (pe_tup (pa_cons pe_int (pa_cons pe_int pa_nil))) pps_nil)))) (by rfl) (by rfl) (fun z => by cases z) (by decide)) (pv 0) (pe_tup (pa_cons pe_int (pa_cons pe_int pa_nil))) ⟨by rfl, by rfl, by rfl, by rfl⟩)), ?_⟩
    refine fun D hD => ?_
    refine ⟨by show 2 ≤ sizeLine; decide, fun p1 hp1 => ?_⟩
    refine ⟨_, _, rfl, rfl, ⟨by decide, by decide +kernel⟩, _, _, rfl, rfl, by show 2 ≤ sizeLine; decide, fun p2 hp2 => ?_⟩
    refine ⟨by show 2 ≤ sizeLine; decide, fun p3 hp3 => ?_⟩
    refine ⟨by show 2 ≤ sizeLine; decide, fun p4 hp4 => ?_⟩
    have s0 := same_new (o := .dK []) hD
    have s1 := same_new (o := .tup [.int 0, .int 4]) hp1
    have s2 := same_new (o := .tup [.int 1, .int ((10 : Int) ^ (40 : Int).toNat - 1)]) hp2
    have s3 := same_new (o := .tup [.int 1, .int 9]) hp3
    have s4 := same_new (o := .tup [.int 1, .int 3]) hp4
    have d4 := (s1.trans (s2.trans (s3.trans s4))) _ _ (upd_same (H := H) (a := D) (o := .dK []))
    have a1 := (s2.trans (s3.trans s4)) _ _ upd_same
    have a2 := (s3.trans s4) _ _ upd_same
    have a3 := s4 _ _ upd_same
    refine ⟨d4, [(.inr (Str.ofString "W"), .ref p1), (.inr (Str.ofString "D"), .ref p2), (.inr (Str.ofString "C"), .ref p3), (.inr (Str.ofString "M"), .ref p4)], rfl, by show 4 ≤ 15; decide, ?_⟩
    have a4 := upd_same (H := upd (upd (upd (upd H D (.dK [])) p1 (.tup [.int 0, .int 4])) p2 (.tup [.int 1, .int ((10 : Int) ^ (40 : Int).toNat - 1)])) p3 (.tup [.int 1, .int 9])) (a := p4) (o := .tup [.int 1, .int 3])
    have n1 : p1 ≠ D := fun e => by rw [e] at hp1; rw [upd_same] at hp1; cases hp1
    have tkD : TK (upd (upd (upd (upd (upd H D (.dK [])) p1 (.tup [.int 0, .int 4])) p2 (.tup [.int 1, .int ((10 : Int) ^ (40 : Int).toNat - 1)])) p3 (.tup [.int 1, .int 9])) p4 (.tup [.int 1, .int 3]))
        (upd (upd (upd (upd (upd (upd H D (.dK [])) p1 (.tup [.int 0, .int 4])) p2 (.tup [.int 1, .int ((10 : Int) ^ (40 : Int).toNat - 1)])) p3 (.tup [.int 1, .int 9])) p4 (.tup [.int 1, .int 3])) D
          (.dK (mergeK [] [(.inr (Str.ofString "W"), .ref p1), (.inr (Str.ofString "D"), .ref p2), (.inr (Str.ofString "C"), .ref p3), (.inr (Str.ofString "M"), .ref p4)]))) := fun b xs e => by
      rw [upd_ne (fun z => by rw [z] at e; exact absurd (d4.symm.trans e) (fun q => nomatch q))]
      exact e
    have sA : Same H (upd (upd (upd (upd (upd (upd H D (.dK [])) p1 (.tup [.int 0, .int 4])) p2 (.tup [.int 1, .int ((10 : Int) ^ (40 : Int).toNat - 1)])) p3 (.tup [.int 1, .int 9])) p4 (.tup [.int 1, .int 3])) D
          (.dK (mergeK [] [(.inr (Str.ofString "W"), .ref p1), (.inr (Str.ofString "D"), .ref p2), (.inr (Str.ofString "C"), .ref p3), (.inr (Str.ofString "M"), .ref p4)]))) := fun b o e => by
      rw [upd_ne (ne_of_none e hD)]
      exact (s0.trans (s1.trans (s2.trans (s3.trans s4)))) b o e
    have eD := upd_same (H := upd (upd (upd (upd (upd H D (.dK [])) p1 (.tup [.int 0, .int 4])) p2 (.tup [.int 1, .int ((10 : Int) ^ (40 : Int).toNat - 1)])) p3 (.tup [.int 1, .int 9])) p4 (.tup [.int 1, .int 3])) (a := D)
      (o := .dK (mergeK [] [(.inr (Str.ofString "W"), .ref p1), (.inr (Str.ofString "D"), .ref p2), (.inr (Str.ofString "C"), .ref p3), (.inr (Str.ofString "M"), .ref p4)]))
    refine ⟨D, rfl, .inl ⟨_, .inl eD⟩, _, rfl, by show 2 ≤ sizeLine; decide, fun p5 hp5 => ?_⟩
    have s5 := same_new (o := .tup [.int 0, .int 3]) hp5
    have b1 := s5 _ _ (tkD _ _ a1)
    have b2 := s5 _ _ (tkD _ _ a2)
    have b3 := s5 _ _ (tkD _ _ a3)
    have b4 := s5 _ _ (tkD _ _ a4)
    have eD5 := s5 _ _ eD
    have fin := sA.trans s5
    refine ⟨_, DGet.k (k := .inr (S [codeOf kd])) eD5, ?_⟩
    cases kd with
    | width => exact q _ p1 fin b1
    | delay => exact q _ p2 fin (b2.trans (congrArg (fun n => some (HO.tup [V.int 1, V.int n])) (by decide +kernel)))
    | count => exact q _ p3 fin b3
    | room => exact q _ p4 fin b4
    | _ => cases hk
end
end Wd

set_option Elab.async false
set_option linter.all false
set_option maxRecDepth 100000
set_option maxHeartbeats 4000000
/-! sorted(xs) of a list of pairs (int, text of one sign) -/
namespace SrP
open PySem PySem.Spec PyProof.Rows L2 SrtO
def lexP (p q : Int × Nat) : Bool := if p.1 = q.1 then decide (p.2 < q.2) else decide (p.1 < q.1)
theorem lexP_iff {p q : Int × Nat} : lexP p q = true ↔ p.1 < q.1 ∨ (p.1 = q.1 ∧ p.2 < q.2) := by
  unfold lexP
  split
  · rename_i e
    rw [decide_eq_true_iff]
    omega
  · rename_i e
    rw [decide_eq_true_iff]
    omega
theorem lexP_no {p q : Int × Nat} : lexP p q = false ↔ ¬ (p.1 < q.1 ∨ (p.1 = q.1 ∧ p.2 < q.2)) := by
  rw [← lexP_iff]
  cases lexP p q <;> simp
theorem swoP {α : Type} (k : α → Int × Nat) : Swo fun v u => lexP (k v) (k u) := by
  refine ⟨fun x y h => ?_, fun x y z h1 h2 => ?_⟩
  · rw [lexP_no]
    rw [lexP_iff] at h
    omega
  · rw [lexP_no] at h1 h2 ⊢
    omega
def IsP (h : Heap) (v : Value) (k : Int × Nat) : Prop := ∃ b o t u n, v = .ref b ∧ h.get? b = some o ∧ o.cls = .type "tuple" ∧ o.data = .seq #[.int k.1 t, .str ⟨#[k.2]⟩ u] n
theorem IsP.keeps {h h' : Heap} {v : Value} {k : Int × Nat} (x : IsP h v k) (kp : ∀ b o, h.get? b = some o → o.cls = .type "tuple" → h'.get? b = some o) : IsP h' v k :=
  let ⟨b, o, t, u, n, e1, e2, e3, e4⟩ := x
  ⟨b, o, t, u, n, e1, kp b o e2 e3, e3, e4⟩
theorem sign_cmp {c d : Nat} : decide ((⟨#[c]⟩ : Str).cps.toList < (⟨#[d]⟩ : Str).cps.toList) = decide (c < d) := by
  have : ([c] : List Nat) < [d] ↔ c < d := by
    rw [List.cons_lt_cons_iff]
    simp
  exact decide_eq_decide.mpr this
section
variable {prog : Program} {w : World} {A : Around} {E : Value → Shared → Prop} {s : Shared}
theorem cmpP {us : List Value} {key : Value → Int × Nat} (hp : ∀ v ∈ us, IsP s.heap v (key v)) : Cmp prog w A s (tuples' true) (fun p => p.1 ∈ us) (lt2 fun v u => lexP (key v) (key u)) := by
  intro x y mx my
  obtain ⟨b, o, t, u, n, ex, g1, c1, g3⟩ := hp _ mx
  obtain ⟨b', o', t', u', n', ey, k1, c2, k3⟩ := hp _ my
  have two : lt2 (fun v u => lexP (key v) (key u)) x y = lexP (key x.1) (key y.1) := rfl
  rw [two]
  generalize key x.1 = p at g3
  generalize key y.1 = q at k3
  rw [ex, ey]
  refine PySem.W.kat_lt g1 g3 k1 k3 ?_
  refine PySem.W.kat_cons (wpAny_eqBool_int (PySem.W.kat_go (fun e => ?_) fun e => ?_))
  · have e1 : p.1 = q.1 := by simpa using e
    refine PySem.W.kat_yes (PySem.W.kat_cons (wpAny_eqBool_str (PySem.W.kat_go (fun e => ?_) fun e => ?_)))
    · have e2 := of_decide_eq_true e
      have e3 : p.2 = q.2 := by
        injection e2 with e2
        injection e2 with e2
        simpa using e2
      refine PySem.W.kat_yes (PySem.W.kat_nil ⟨rfl, ?_⟩)
      rw [lexP_no.mpr (by omega)]
      rfl
    · refine PySem.W.kat_no (PyProof.Rows.oneLt_any_str ⟨rfl, ?_⟩)
      rw [sign_cmp]
      unfold lexP
      rw [if_pos e1]
  · have e1 : ¬ p.1 = q.1 := by simpa using e
    refine PySem.W.kat_no (PyProof.Rows.oneLt_any_int ⟨rfl, ?_⟩)
    unfold lexP
    rw [if_neg e1]
theorem headsP {h : Heap} {key : Value → Int × Nat} : ∀ us : List Value, (∀ u ∈ us, IsP h u (key u)) → ∃ ts, PySem.W.KatTups h us ts ∧ ts.length = us.length ∧ ∀ t ∈ ts, ∃ z k, t = Value.int z k := by
  intro us
  induction us with
  | nil => exact fun _ => ⟨[], .nil, rfl, fun _ e => (List.not_mem_nil e).elim⟩
  | cons u us ih =>
    intro all
    obtain ⟨ts, r1, r2, r3⟩ := ih fun x hx => all x (.tail _ hx)
    obtain ⟨b, o, t, u', n, eu, e1, c, e3⟩ := all u (.head _)
    rw [eu]
    refine ⟨_ :: ts, .cons e1 c e3 rfl r1, congrArg (· + 1) r2, fun t ht => ?_⟩
    cases ht with
    | head => exact ⟨_, _, rfl⟩
    | tail _ ht => exact r3 t ht
theorem sortableP {a : Addr} {us : List Value} {key : Value → Int × Nat} (h0 : 0 < us.length) (hp : ∀ v ∈ us, IsP s.heap v (key v)) (ha : ∀ o, s.heap.get? a = some o → o.cls ≠ .type "tuple") : SortableO prog w A s a us fun v u => lexP (key v) (key u) := by
  intro h' keep
  have hp' : ∀ v ∈ us, IsP h' v (key v) := fun v m => (hp v m).keeps fun b o e c => keep b o (fun z => ha o (by rw [← z]; exact e) c) e
  obtain ⟨ts, t1, t2, t3⟩ := headsP us hp'
  refine ⟨tuples' true, fun R E' k => ?_, cmpP (s := { s with heap := h' }) hp'⟩
  refine PySem.W.kat_kind (T := .type "int") t1 (by omega) (fun t ht => ?_) (by rfl) ?_
  · obtain ⟨z, c, rfl⟩ := t3 t ht
    exact PySem.W.Looks.of_pure rfl
  · rw [show (Value.type "int" != Value.type "tuple") = true by decide +kernel]
    exact k
end
/-- sorted(xs), xs a list of pairs (int, sign): the same pairs, ascending -/
def rSortP (K : PySem.W.Frag) : List V → Hp → VK → Prop := fun vs H Q => ∃ (a : Addr) (xs : List V) (k : V → Int × Nat), vs = [V.ref a] ∧ SqL K H a xs ∧ (∀ x ∈ xs, ∃ t, x = V.ref t ∧ H t = some (.tup [.int (k x).1, .str ⟨#[(k x).2]⟩])) ∧
  ∀ ys p, ys.Pairwise (fun x y => lexP (k y) (k x) = false) → ys.Perm xs → H p = none → Q (.ref p) (upd H p (.lst ys))
theorem cr_sortP {X : Cx} : CallR X (.builtin "sorted") (rSortP X.K) := by
  intro pins s σ H vs us Q I r h
  obtain ⟨a, xs, k, rfl, hs, hx, q⟩ := h
  obtain ⟨its, rv, hl, hz⟩ := I.list hs
  obtain ⟨u, rfl, ru⟩ := vals1 r
  obtain rfl : u = Value.ref a := ru
  obtain ⟨e1, e2⟩ := refs_back rv fun x m => by
    obtain ⟨t, e, _⟩ := hx x m
    exact ⟨t, e⟩
  have pr : ∀ v ∈ its, IsP s.heap v (k (backV v)) := fun v hv => by
    obtain ⟨t, rfl⟩ := e2 v hv
    have hm : V.ref t ∈ xs := by
      rw [e1]
      exact List.mem_map.mpr ⟨_, hv, rfl⟩
    obtain ⟨t', e, ht⟩ := hx _ hm
    cases e
    obtain ⟨_, its2, r2, o, ho, hc, n, hd⟩ := I.hok _ _ ht
    obtain ⟨u1, u2, rfl, ⟨t1, rfl⟩, ⟨t2, rfl⟩⟩ := vals2 r2
    exact ⟨t, o, t1, t2, n, rfl, ho, hc, hd⟩
  have lz : its.length ≤ sizeLine := by
    rw [← rv.length]
    exact hz
  refine sorted_ord (swoP fun u => k (backV u)) hl.isList lz (fun h2 h₁ b hb kk => ?_) fun out hs hb => ?_
  · refine sortableP (s := { s with heap := h₁ }) (by omega) (fun v hm => (pr v hm).keeps fun c o e _ => (kk c o e).2) fun o e => ?_
    have e' : some o = some (seqObj "list" its.toArray 0) := e.symm.trans hb
    cases e'
    intro c
    exact absurd (Value.type.inj c) (by decide)
  · have h3 : ∀ u ∈ out, ∃ a, u = Value.ref a := fun u hu => e2 u (hb.perm.mem_iff.mp hu)
    have pm : (out.map backV).Perm xs := by
      rw [e1]
      exact hb.perm.map backV
    obtain ⟨n, hn⟩ := sortedAll_at s.heap its out.toArray
    refine ⟨.ref (s.heap.objs.size + 1), upd H (s.heap.objs.size + 1) (.lst (out.map backV)), I.laid (t' := s.toks) (fun b o e => sortedAll_old e) (Nat.le_succ _) ⟨?_, out, n, vals_back h3, hn⟩, rfl, q _ _ ?_ pm (I.hok.fresh (Nat.le_succ _))⟩
    · rw [List.length_map, hb.perm.length_eq]
      exact lz
    · exact List.pairwise_map.mpr hs
end SrP

set_option Elab.async false
set_option linter.all false
set_option maxRecDepth 100000
set_option maxHeartbeats 4000000
set_option pp.maxSteps 400
set_option pp.deepTerms false
namespace Wd
open PySem L2 TL
open SX (S)

/-! ### keys of tables -/
def kdP (k : Nat × Nat) : PyData := .tuple [.int k.1, .str (S [k.2])]
def KeyAt (H : Hp) (k : Nat × Nat) (x : V) : Prop := ∃ t, x = .ref t ∧ H t = some (.tup [.int k.1, .str (S [k.2])])
theorem KeyAt.mono {H H' : Hp} (h : TK H H') {k : Nat × Nat} {x : V} : KeyAt H k x → KeyAt H' k x := fun ⟨t, h1, h2⟩ => ⟨t, h1, h _ _ h2⟩
theorem kd_eqv (a b : Nat × Nat) : PyData.eqv (kdP a) (kdP b) = decide (a = b) := by
  rw [Bool.eq_iff_iff, decide_eq_true_iff]
  unfold kdP
  simp only [PyData.eqv, PyData.eqvAll, Bool.and_true, Bool.and_eq_true, beq_iff_eq]
  constructor
  · rintro ⟨h1, h2⟩
    have h2 := SX.S_inj h2
    injection h2 with h2
    exact Prod.ext (by omega) h2
  · rintro rfl
    exact ⟨rfl, rfl⟩
theorem kd_in (k : Nat × Nat) (kl : List (Nat × Nat)) : ((kl.map kdP).any fun z => PyData.eqv z (kdP k)) = decide (k ∈ kl) := by
  rw [Bool.eq_iff_iff, decide_eq_true_iff, List.any_eq_true]
  constructor
  · rintro ⟨z, hz, h⟩
    obtain ⟨a, ha, rfl⟩ := List.mem_map.mp hz
    rw [kd_eqv, decide_eq_true_iff] at h
    exact h ▸ ha
  · exact fun h => ⟨_, List.mem_map_of_mem h, by rw [kd_eqv, decide_eq_true_iff]⟩
theorem kd_lay {k : Nat × Nat} (h : low k.2) : PyData.canLay0 (kdP k) = true := by
  have o : PyData.strOk (S [k.2]) = true := low_ok (by simpa using h)
  simp [kdP, PyData.canLay0, PyData.canLayAll0, o]
theorem kd_deep (k : Nat × Nat) : PyData.depth (kdP k) = 1 := by simp [kdP, PyData.depth, PyData.depthAll]
theorem kd_shape {k : Nat × Nat} (h : low k.2) : SeqAt.shaped (kdP k) = true := by
  unfold SeqAt.shaped
  rw [kd_lay h, kd_deep]
  rfl
theorem kds_lay : ∀ {kl : List (Nat × Nat)}, (∀ k ∈ kl, low k.2) → PyData.canLayAll0 (kl.map kdP) = true
  | [], _ => rfl
  | k :: kl, h => by
    rw [List.map_cons]
    simp only [PyData.canLayAll0, Bool.and_eq_true]
    exact ⟨kd_lay (h k (by simp)), kds_lay fun j hj => h j (by simp [hj])⟩
theorem kds_deep : ∀ kl : List (Nat × Nat), PyData.depthAll (kl.map kdP) ≤ 1
  | [] => Nat.zero_le _
  | k :: kl => by
    rw [List.map_cons]
    simp only [PyData.depthAll]
    exact Nat.max_le.mpr ⟨by rw [kd_deep]; exact Nat.le_refl _, kds_deep kl⟩
theorem kds_shape {kl : List (Nat × Nat)} (h : ∀ k ∈ kl, low k.2) : SeqAt.shaped (.list (kl.map kdP)) = true := by
  have a := kds_deep kl
  have d : PyData.depth (.list (kl.map kdP)) ≤ 64 := by
    rw [show PyData.depth (.list (kl.map kdP)) = PyData.depthAll (kl.map kdP) + 1 by rw [PyData.depth]]
    omega
  have c : PyData.canLay0 (.list (kl.map kdP)) = true := by
    rw [PyData.canLay0]
    exact kds_lay h
  unfold SeqAt.shaped
  rw [c, decide_eq_true d]
  rfl
theorem key_dp {K : PySem.W.Frag} {H : Hp} {k : Nat × Nat} {x : V} : KeyAt H k x → Dp K H x (kdP k) := fun ⟨t, h1, h2⟩ => by
  rw [h1]
  exact .tup (SqT.of h2) (.cons (.int _) (.cons (.str _) .nil))
theorem keys_dp {K : PySem.W.Frag} {H : Hp} : ∀ {kl : List (Nat × Nat)} {xs : List V}, Paired (KeyAt H) kl xs → DpAll K H xs (kl.map kdP)
  | _, _, .nil => .nil
  | _, _, .cons h hs => .cons (key_dp h) (keys_dp hs)
theorem SB.tk {B : Addr} {H H' : Hp} (s : SB B H H') (b : BagAt H B) : TK H H' := fun a xs h => s _ _ (fun e => by
  obtain ⟨x, y, z, h2⟩ := b
  rw [e, h2] at h
  cases h) h
theorem cut_one (o : Option Nat) : cutS (S (optL o) ++ S [45]) none (some 1) = S [o.getD 45] := by
  rw [SX.S_cat]
  cases o with
  | none => rfl
  | some c => rfl
/-- the key of a value over a heap -/
def keyV (H : Hp) : V → Int × Nat
  | .ref t => match H t with
    | some (.tup [.int i, .str z]) => (i, z.cps.toList.headD 0)
    | _ => (0, 0)
  | _ => (0, 0)
theorem keyV_of {H : Hp} {k : Nat × Nat} {x : V} : KeyAt H k x → keyV H x = ((k.1 : Int), k.2) := fun ⟨t, h1, h2⟩ => by
  rw [h1]
  show (match H t with | some (.tup [.int i, .str z]) => ((i, z.cps.toList.headD 0) : Int × Nat) | _ => (0, 0)) = _
  rw [h2]
  rfl
theorem paired_back {H : Hp} : ∀ {ys : List V}, (∀ y ∈ ys, ∃ k : Nat × Nat, KeyAt H k y) → Paired (KeyAt H) (ys.map fun y => ((keyV H y).1.toNat, (keyV H y).2)) ys
  | [], _ => .nil
  | y :: ys, h => by
    obtain ⟨k, hk⟩ := h y (by simp)
    refine .cons ?_ (paired_back fun z hz => h z (by simp [hz]))
    show KeyAt H ((keyV H y).1.toNat, (keyV H y).2) y
    rw [keyV_of hk]
    exact hk
theorem paired_map {H : Hp} : ∀ {kl : List (Nat × Nat)} {xs : List V}, Paired (KeyAt H) kl xs → xs.map (fun y => ((keyV H y).1.toNat, (keyV H y).2)) = kl
  | _, _, .nil => rfl
  | _, _, .cons h hs => by
    rw [List.map_cons, paired_map hs, keyV_of h]
    rfl
section
variable {P : Program} {w : World} {K : PySem.W.Frag} {mg : Str → Option Value} {base : Heap} {fT fP fL : Addr} {dT dP dL : FuncData}
abbrev nTable : List Str := ["bag", "keys", "turn", "key", "entries", "words", "state", "letter", "after", "other"]
theorem scTable : FnScope nTable ["bag"] (defScope sTableText) := ⟨rfl, rfl, rfl, by decide +kernel, rfl, by decide +kernel, by decide +kernel⟩
def spTableT : Sp := fun vs H Q _ => ∃ B : Addr, vs = [.ref B] ∧ BagAt H B ∧ ∀ H' p es x, (Ar.table es).Ok .table → ArAt H' (.table es) x → H' p = some (.tup [x, .str (S (Ar.table es).text)]) → SB B H H' → BagAt H' B → Q (.ref p) H'
theorem ok_table_text {f : Addr} {fd : FuncData} (F : Fun K "_law_table_text" "_law_table_text" sTableText f fd) (X : NTxt mg) (G : GTxt mg fT fP) (T : At P w K mg base 1 "_law_throw" fT dT ["bag", "total"] spThrow) (GL : FnOk P w K mg base CX0 2 fP dP ["bag", "items"] spPickL)
    (kP : PySem.W.keepIn K (.ref fP) = true) (bP : Binds K dP ["bag", "items"] []) (L : At P w K mg base 3 "_law_letter" fL dL ["bag"] spLetter) : FnOk P w K mg base CX0 4 f fd ["bag"] spTableT := by
  refine F.ok scTable (fun vs H Q E h => ?_) (fun cdv Ao outer s H vs Q E hr h => ?_)
  · obtain ⟨B, rfl, _⟩ := h
    rfl
  · obtain ⟨B, rfl, hB, q⟩ := h
    have nd := scTable.nd
    have hr1 : Room 1 _ := hr.mono (by decide)
    have hr2 : Room 2 _ := hr.mono (by decide)
    have u65 : (cxOf CX0 P w K mg base nTable "_law_table_text" (defScope sTableText) f cdv Ao outer s H E).nox.A.units + 65 < cLine := by
      have h1 := hr.un
      show (Ao.deeper (PyProof.Rows.envOfC "_law_table_text" (defScope sTableText) s.heap.objs.size f cdv)).units + 65 < cLine
      omega
    refine ⟨_, pss_cons (ps_set (i := 1) nd rfl (Or.inl rfl) (pe_lst pa_nil))
      (pss_cons (ps_for PassesOwn.never rfl (pi_range1 rfl X.range (pa_cons (pe_op op_add pe_int (pe_call T.g hr1 rfl T.m T.kp T.b .nil pass0 (pa_cons (pv 0) (pa_cons (pe_call GL hr2 rfl G.pick kP bP .nil pass0 (pa_cons (pv 0) (pa_cons (pe_lst (pa_cons pe_int (pa_cons pe_int pa_nil))) pa_nil))) pa_nil)))) pa_nil)) (pg_name (i := 2) nd rfl (Or.inl rfl))
        (pss_cons (ps_set (i := 3) nd rfl (Or.inl rfl) (pe_tup (pa_cons (pe_call T.g hr1 rfl T.m T.kp T.b .nil pass0 (pa_cons (pv 0) (pa_cons pe_int pa_nil))) (pa_cons (pe_call L.g hr rfl L.m L.kp L.b .nil pass0 (pa_cons (pv 0) pa_nil)) pa_nil))))
        (pss_one (ps_if (pt_cmpR (op_notInD u65) (pv 3) (pv 1) (by rfl)) (pss_one (ps_expr (pe_bm PySem.F.plainAttrs_list PySem.F.slot_list_append PySem.F.type_list_append mt_append (pv 1) (pa_cons (pv 3) pa_nil)))) pss_nil))))
      (pss_cons (ps_par (i := 4) (j := 5) (by rfl) nd rfl rfl (by decide) rfl rfl (pa_cons (pe_lst pa_nil) (pa_cons (pe_lst pa_nil) pa_nil)) rfl)
      (pss_cons (ps_for PassesOwn.never rfl (pi_list (pe_callB SrP.cr_sortP (by rfl) G.sorted (by decide +kernel) (pa_cons (pv 1) pa_nil))) (pg_tup rfl (pgs_cons (pg_name (i := 6) nd rfl (Or.inl rfl)) (pgs_cons (pg_name (i := 7) nd rfl (Or.inl rfl)) pgs_nil)))
        (pss_cons (ps_par (i := 8) (j := 9) (by rfl) nd rfl rfl (by decide) rfl rfl (pa_cons (pe_call T.g hr1 rfl T.m T.kp T.b .nil pass0 (pa_cons (pv 0) (pa_cons pe_int pa_nil))) (pa_cons (pe_call GL hr2 rfl G.pick kP bP .nil pass0 (pa_cons (pv 0) (pa_cons (pe_lst (pa_cons pe_str (pa_cons (pe_call L.g hr rfl L.m L.kp L.b .nil pass0 (pa_cons (pv 0) pa_nil)) (pa_cons (pe_call L.g hr rfl L.m L.kp L.b .nil pass0 (pa_cons (pv 0) pa_nil)) pa_nil)))) pa_nil))) pa_nil)) rfl)
        (pss_cons (ps_expr (pe_bm PySem.F.plainAttrs_list PySem.F.slot_list_append PySem.F.type_list_append mt_append (pv 4) (pa_cons (pe_tup (pa_cons (pe_tup (pa_cons (pv 6) (pa_cons (pv 7) pa_nil))) (pa_cons (pe_tup (pa_cons (pv 8) (pa_cons (pv 9) pa_nil))) pa_nil))) pa_nil)))
        (pss_one (ps_expr (pe_bm PySem.F.plainAttrs_list PySem.F.slot_list_append PySem.F.type_list_append mt_append (pv 5) (pa_cons (pe_op op_add_str (pe_op op_add_str (pe_op op_add_str (pe_callTy call_str_int (by rfl) X.str (by decide +kernel) (pa_cons (pv 6) pa_nil)) (pv 7)) (pe_callTy call_str_int (by rfl) X.str (by decide +kernel) (pa_cons (pv 8) pa_nil))) (pe_slice sl_str (pe_op op_add_str (pv 9) pe_str) po_none (po_some pe_int))) pa_nil)))))))
      (pss_one (ps_ret (pe_tup (pa_cons (pe_callTy call_tuple_of (by rfl) X.tup (by decide +kernel) (pa_cons (pv 4) pa_nil)) (pa_cons (pe_join pe_str (pv 5)) pa_nil)))))))), ?_⟩
    refine ⟨by show 0 ≤ sizeLine; decide, fun D hD => ?_⟩
    have nDB : D ≠ B := hB.ne hD
    have s1 : SB B H (upd H D (.lst [])) := SB.of (same_new hD)
    have b1 : BagAt (upd H D (.lst [])) B := hB.new hD
    have e1 : (upd H D (.lst [])) D = some (.lst []) := upd_same
    generalize upd H D (.lst []) = H1 at s1 b1 e1
    refine ⟨_, rfl, _, rfl, by show 2 ≤ sizeLine; decide, fun l hl => ?_⟩
    refine ⟨B, l, _, rfl, b1.new hl, (b1.ne hl).symm, upd_same, by decide, by decide, fun y H2 hy s2 b2 => ?_⟩
    have nDl : D ≠ l := fun e => by rw [e] at e1; rw [e1] at hl; cases hl
    have s2' : SB B H1 H2 := fun b o n e => s2 b o n (by rw [upd_ne (ne_of_none e hl)]; exact e)
    obtain ⟨m, rfl, m0, m20⟩ : ∃ m : Int, y = .int m ∧ 0 < m ∧ m ≤ 20 := by
      simp only [List.mem_cons, List.not_mem_nil, or_false] at hy
      rcases hy with rfl | rfl
      · exact ⟨3, rfl, by decide, by decide⟩
      · exact ⟨20, rfl, by decide, by decide⟩
    refine ⟨B, m, rfl, b2, m0, Int.le_trans m20 (by decide +kernel), fun r H3 r0 r1 s3 b3 => ?_⟩
    have s13 := (s1.trans s2').trans s3
    have e3 := s3 _ _ nDB (s2' _ _ nDB e1)
    refine ⟨_, _, rfl, rfl, _, rfl, by omega, by omega, ?_⟩
    refine for_it (n := (1 + r).toNat) (walk_range (lo := 0) (n := (1 + r).toNat)) (fun i σ H' => ∃ v2 v3 : Option V, σ = [some (.ref B), some (.ref D), v2, v3, none, none, none, none, none, none] ∧ SB B H H' ∧ BagAt H' B ∧
      ∃ kl xs, H' D = some (.lst xs) ∧ Paired (KeyAt H') kl xs ∧ kl.Nodup ∧ kl.length ≤ i ∧ (0 < i → kl ≠ []) ∧ ∀ k ∈ kl, k.1 ≤ 8 ∧ low k.2) ⟨_, _, rfl, s13, b3, [], [], e3, .nil, List.nodup_nil, Nat.zero_le _, fun h => absurd h (Nat.lt_irrefl _), fun k h => nomatch h⟩ (fun _ _ _ _ _ => trivial) ?_ ?_
    · rintro i x σ H4 H' hi ⟨v2, v3, rfl, s4, b4, kl, xs, e4, pr, ndk, lk, ne, okk⟩ ⟨rfl, rfl⟩
      refine ⟨_, rfl, B, 9, rfl, b4, by decide, by decide +kernel, fun st H5 st0 st1 s5 b5 => ?_⟩
      refine ⟨_, rfl, B, rfl, b5, fun c H6 hc s6 b6 => ?_⟩
      refine ⟨by show 2 ≤ sizeLine; decide, fun p hp => ?_⟩
      have e6 := s6 _ _ nDB (s5 _ _ nDB e4)
      have s46 := s5.trans s6
      have tk6 := s46.tk b4
      have b7 := b6.new (o := .tup [.int st, .str (sgn c)]) hp
      have s67 : SB B H6 (upd H6 p (.tup [.int st, .str (sgn c)])) := SB.of (same_new hp)
      have e7 := (same_new (o := .tup [.int st, .str (sgn c)]) hp) _ _ e6
      have tk7 : TK H6 (upd H6 p (.tup [.int st, .str (sgn c)])) := TK.of (same_new hp)
      have ep : (upd H6 p (.tup [.int st, .str (sgn c)])) p = some (.tup [.int st, .str (sgn c)]) := upd_same
      generalize upd H6 p (.tup [.int st, .str (sgn c)]) = H7 at b7 s67 e7 tk7 ep
      have s47 := s46.trans s67
      have ek : ((st.toNat : Nat) : Int) = st := Int.toNat_of_nonneg st0
      have ka : KeyAt H7 (st.toNat, c) (.ref p) := ⟨p, rfl, by rw [ep]; show some (HO.tup [V.int st, V.str (sgn c)]) = some (HO.tup [V.int ((st.toNat : Nat) : Int), V.str (S [c])]); rw [ek]; rfl⟩
      have pr7 := paired_mono (fun _ _ => KeyAt.mono (tk6.trans tk7)) pr
      have lowk : ∀ k ∈ kl, low k.2 := fun k hk => (okk k hk).2
      have lx := pr7.length
      refine ⟨_, rfl, _, rfl, kdP (st.toNat, c), kl.map kdP, key_dp ka, .lst (SqL.of e7) (keys_dp pr7), kd_shape hc, kds_shape lowk, _, rfl, ?_⟩
      rw [kd_in]
      by_cases hin : (st.toNat, c) ∈ kl
      · rw [decide_eq_true hin]
        refine iteF ⟨_, _, rfl, s4.trans s47, b7, kl, xs, e7, pr7, ndk, by omega, fun _ e => ?_, okk⟩
        rw [e] at hin
        cases hin
      · rw [decide_eq_false hin]
        have nDp : D ≠ p := fun e => by rw [← e, e7] at ep; cases ep
        have tk8 : TK H7 (upd H7 D (.lst (xs ++ [.ref p]))) := TK.lst e7
        have hDn : H D = none := hD
        refine iteT ⟨_, rfl, .inl ⟨rfl, _, SqL.of e7⟩, _, rfl, D, xs, .ref p, rfl, rfl, e7, small1000 (by omega), ?_⟩
        refine ⟨_, _, rfl, (s4.trans s47).own hDn, b7.other (Ne.symm nDB), kl ++ [(st.toNat, c)], xs ++ [.ref p], upd_same, paired_app (paired_mono (fun _ _ => KeyAt.mono tk8) pr7) (.cons (ka.mono tk8) .nil), ?_, ?_, fun _ e => ?_, fun k hk => ?_⟩
        · rw [List.nodup_append]
          refine ⟨ndk, by simp, fun a ha b hb e => ?_⟩
          rw [List.mem_singleton.mp hb] at e
          exact hin (e ▸ ha)
        · rw [List.length_append, List.length_singleton]
          omega
        · have := congrArg List.length e
          simp at this
        · rcases List.mem_append.mp hk with hk | hk
          · exact okk k hk
          · rw [List.mem_singleton.mp hk]
            exact ⟨by show st.toNat ≤ 8; omega, hc⟩
    · rintro σ H4 ⟨v2, v3, rfl, s4, b4, kl, xs, e4, pr, ndk, lk, ne, okk⟩
      have hr9 : 0 < (1 + r).toNat := by omega
      refine ⟨by show 0 ≤ sizeLine; decide, fun pE hE => ⟨by show 0 ≤ sizeLine; decide, fun pW hW => ⟨_, _, rfl, ?_⟩⟩⟩
      have nEB : pE ≠ B := b4.ne hE
      have b5 := b4.new (o := .lst []) hE
      have nWB : pW ≠ B := b5.ne hW
      have b6 := b5.new (o := .lst []) hW
      have nWE : pW ≠ pE := fun e => by rw [e, upd_same] at hW; cases hW
      have sE := same_new (o := .lst []) hE
      have sW := same_new (o := .lst []) hW
      have sEW := sE.trans sW
      have eE : (upd (upd H4 pE (.lst [])) pW (.lst [])) pE = some (.lst []) := by
        rw [upd_ne (Ne.symm nWE)]
        exact upd_same
      have eW : (upd (upd H4 pE (.lst [])) pW (.lst [])) pW = some (.lst []) := upd_same
      have e5 := sEW _ _ e4
      have pr5 := paired_mono (fun _ _ => KeyAt.mono (TK.of sEW)) pr
      have s6 : SB B H (upd (upd H4 pE (.lst [])) pW (.lst [])) := s4.trans (SB.of sEW)
      have gone : ∀ {z : Addr}, H4 z = none → z ≠ B → H z = none := fun {z} h n => by
        cases e : H z with
        | none => rfl
        | some o => rw [s4 _ _ n e] at h; cases h
      have hE0 : H pE = none := gone hE nEB
      have hW0 : H pW = none := gone (by rw [upd_ne nWE] at hW; exact hW) nWB
      have nDE : D ≠ pE := fun e => by rw [← e, e4] at hE; cases hE
      have nDW : D ≠ pW := fun e => by rw [← e, sE _ _ e4] at hW; cases hW
      generalize upd (upd H4 pE (.lst [])) pW (.lst []) = H5 at b6 sEW eE eW e5 pr5 s6
      refine ⟨_, rfl, D, xs, keyV H5, rfl, SqL.of e5, fun x hx => ?_, fun ys p srt pm hp => ?_⟩
      · obtain ⟨k, hk, t, h1, h2⟩ := paired_mem pr5 x hx
        refine ⟨t, h1, ?_⟩
        rw [keyV_of ⟨t, h1, h2⟩]
        exact h2
      · have sp := same_new (o := .lst ys) hp
        have e6p : (upd H5 p (.lst ys)) p = some (.lst ys) := upd_same
        have npB : p ≠ B := b6.ne hp
        have b7 := b6.new (o := .lst ys) hp
        have s7 : SB B H (upd H5 p (.lst ys)) := s6.trans (SB.of sp)
        have eE7 := sp _ _ eE
        have eW7 := sp _ _ eW
        have npE : p ≠ pE := fun e => by rw [e, eE] at hp; cases hp
        have npW : p ≠ pW := fun e => by rw [e, eW] at hp; cases hp
        have hp0 : H p = none := by
          cases e : H p with
          | none => rfl
          | some o => rw [s6 _ _ npB e] at hp; cases hp
        have kp : Paired (KeyAt H5) (ys.map fun y => ((keyV H5 y).1.toNat, (keyV H5 y).2)) ys := paired_back fun y hy => by
          obtain ⟨k, _, h⟩ := paired_mem pr5 y (pm.mem_iff.mp hy)
          exact ⟨k, h⟩
        have pk : (ys.map fun y => ((keyV H5 y).1.toNat, (keyV H5 y).2)).Perm kl := by
          have := pm.map fun y => ((keyV H5 y).1.toNat, (keyV H5 y).2)
          rw [paired_map pr5] at this
          exact this
        have str : (ys.map fun y => ((keyV H5 y).1.toNat, (keyV H5 y).2)).Pairwise fun a b => a.1 < b.1 ∨ a.1 = b.1 ∧ a.2 < b.2 := by
          have h1 : (ys.map fun y => ((keyV H5 y).1.toNat, (keyV H5 y).2)).Pairwise fun a b => ¬ (b.1 < a.1 ∨ b.1 = a.1 ∧ b.2 < a.2) := by
            rw [List.pairwise_map]
            refine srt.imp_of_mem fun {x y} hx hy h => ?_
            obtain ⟨k1, _, g1⟩ := paired_mem pr5 x (pm.mem_iff.mp hx)
            obtain ⟨k2, _, g2⟩ := paired_mem pr5 y (pm.mem_iff.mp hy)
            have h := SrP.lexP_no.mp h
            rw [keyV_of g1, keyV_of g2] at h ⊢
            simp only [Int.toNat_natCast] at h ⊢
            omega
          refine (h1.and (pk.nodup_iff.mpr ndk)).imp fun {a b} h => ?_
          have ne : ¬ (a.1 = b.1 ∧ a.2 = b.2) := fun e => h.2 (Prod.ext e.1 e.2)
          have h := h.1
          omega
        have okk' : ∀ k ∈ (ys.map fun y => ((keyV H5 y).1.toNat, (keyV H5 y).2)), k.1 ≤ 8 ∧ low k.2 := fun k hk => okk k (pk.mem_iff.mp hk)
        have lk' : (ys.map fun y => ((keyV H5 y).1.toNat, (keyV H5 y).2)).length = kl.length := pk.length_eq
        have kp := paired_mono (fun _ _ => KeyAt.mono (TK.of sp)) kp
        generalize (ys.map fun y => ((keyV H5 y).1.toNat, (keyV H5 y).2)) = kl' at kp pk str okk' lk'
        generalize upd H5 p (.lst ys) = H6 at e6p b7 s7 eE7 eW7 kp
        have lky := kp.length
        refine ⟨p, rfl, ⟨_, SqL.of e6p⟩, ?_⟩
        refine for_it (n := ys.length) (walk_list (K := K) (xs := ys) (a := p)) (fun i σ H' => ∃ v2 v3 v6 v7 v8 v9 : Option V, σ = [some (.ref B), some (.ref D), v2, v3, some (.ref pE), some (.ref pW), v6, v7, v8, v9] ∧ SB B H H' ∧ BagAt H' B ∧ H' p = some (.lst ys) ∧ TK H6 H' ∧
          ∃ (es : List Ent) (zs : List V), H' pE = some (.lst zs) ∧ H' pW = some (.lst (wV (es.map entL))) ∧ Paired (EntAt H') es zs ∧ (es.map fun e => (e.s, e.l)) = kl'.take i ∧ ∀ e ∈ es, e.Ok) ⟨_, _, _, _, _, _, rfl, s7, b7, e6p, TK.refl _, [], [], eE7, eW7, .nil, rfl, fun e h => nomatch h⟩ (fun _ _ _ _ ⟨_, _, _, _, _, _, _, _, _, h, _⟩ => SqL.of h) ?_ ?_
        · rintro i y σ H7 H' hi ⟨v2, v3, v6, v7, v8, v9, rfl, s8, b8, ep8, tk8, es, zs, eE8, eW8, pe8, ke8, ok8⟩ ⟨rfl, hy⟩
          have hik : i < kl'.length := by omega
          have ky := (paired_get kp (List.getElem?_eq_getElem hik) hy).mono tk8
          have okk := okk' _ (List.getElem_mem hik)
          obtain ⟨t, rfl, et⟩ := ky
          have lze := pe8.length
          have les : es.length = i := by
            have := congrArg List.length ke8
            rw [List.length_map, List.length_take] at this
            omega
          refine ⟨t, _, rfl, SqT.of et, rfl, _, _, rfl, _, _, rfl, rfl, ?_⟩
          refine ⟨_, rfl, B, 9, rfl, b8, by decide, by decide +kernel, fun af H9 a0 a1 s9 b9 => ?_⟩
          obtain ⟨n, rfl⟩ := Int.eq_ofNat_of_zero_le a0
          refine ⟨_, rfl, _, rfl, B, rfl, b9, fun c1 H10 hc1 s10 b10 => ?_⟩
          refine ⟨_, rfl, B, rfl, b10, fun c2 H11 hc2 s11 b11 => ?_⟩
          refine ⟨by show 3 ≤ sizeLine; decide, fun l hl => ?_⟩
          refine ⟨B, l, _, rfl, b11.new hl, (b11.ne hl).symm, upd_same, by show 0 < 3; decide, by show 3 ≤ 100; decide, fun yv H12 hyv s12 b12 => ?_⟩
          obtain ⟨o, rfl, oo⟩ : ∃ o : Option Nat, yv = .str (S (optL o)) ∧ ∀ c, o = some c → low c := by
            simp only [List.mem_cons, List.not_mem_nil, or_false] at hyv
            rcases hyv with rfl | rfl | rfl
            · exact ⟨none, rfl, fun c h => by cases h⟩
            · exact ⟨some c1, rfl, fun c h => by cases h; exact hc1⟩
            · exact ⟨some c2, rfl, fun c h => by cases h; exact hc2⟩
          have s12' : SB B H11 H12 := fun b o n e => s12 b o n (by rw [upd_ne (ne_of_none e hl)]; exact e)
          have sA := ((s9.trans s10).trans s11).trans s12'
          have tkA := sA.tk b8
          have eEA := sA _ _ nEB eE8
          have eWA := sA _ _ nWB eW8
          have epA := sA _ _ npB ep8
          refine ⟨_, _, rfl, ?_⟩
          refine ⟨_, rfl, .inl ⟨rfl, _, SqL.of eEA⟩, _, rfl, _, rfl, by show 2 ≤ sizeLine; decide, fun p1 hp1 => ?_⟩
          refine ⟨_, rfl, _, rfl, by show 2 ≤ sizeLine; decide, fun p2 hp2 => ?_⟩
          refine ⟨by show 2 ≤ sizeLine; decide, fun p3 hp3 => ?_⟩
          have n1 := same_new (o := .tup [.int ((kl'[i].1 : Nat) : Int), .str (S [kl'[i].2])]) hp1
          have n2 := same_new (o := .tup [.int n, .str (S (optL o))]) hp2
          have n3 := same_new (o := .tup [.ref p1, .ref p2]) hp3
          have nn := n1.trans (n2.trans n3)
          have en : EntAt (upd (upd (upd H12 p1 (.tup [.int ((kl'[i].1 : Nat) : Int), .str (S [kl'[i].2])])) p2 (.tup [.int n, .str (S (optL o))])) p3 (.tup [.ref p1, .ref p2])) ⟨kl'[i].1, kl'[i].2, n, o⟩ (.ref p3) :=
            ⟨p3, p1, p2, rfl, upd_same, (n2.trans n3) _ _ upd_same, n3 _ _ upd_same⟩
          have oke : (⟨kl'[i].1, kl'[i].2, n, o⟩ : Ent).Ok := ⟨okk.1, okk.2, by show n ≤ 8; omega, oo⟩
          refine ⟨pE, zs, .ref p3, rfl, rfl, nn _ _ eEA, small1000 (by omega), ?_⟩
          have b15 : BagAt (upd (upd (upd H12 p1 (.tup [.int ((kl'[i].1 : Nat) : Int), .str (S [kl'[i].2])])) p2 (.tup [.int n, .str (S (optL o))])) p3 (.tup [.ref p1, .ref p2])) B := ((b12.new hp1).new hp2).new hp3
          have s15 := (s8.trans sA).trans (SB.of nn)
          have tk15 := (tk8.trans tkA).trans (TK.of nn)
          have eE15 := nn _ _ eEA
          have eW15 := nn _ _ eWA
          have ep15 := nn _ _ epA
          have pe15 := paired_mono (fun _ _ => EntAt.mono (tkA.trans (TK.of nn))) pe8
          generalize upd (upd (upd H12 p1 (.tup [.int ((kl'[i].1 : Nat) : Int), .str (S [kl'[i].2])])) p2 (.tup [.int n, .str (S (optL o))])) p3 (.tup [.ref p1, .ref p2]) = H15 at en b15 s15 tk15 eE15 eW15 ep15 pe15
          have tkE : TK H15 (upd H15 pE (.lst (zs ++ [.ref p3]))) := TK.lst eE15
          have eWF : (upd H15 pE (.lst (zs ++ [.ref p3]))) pW = some (.lst (wV (es.map entL))) := by
            rw [upd_ne nWE]
            exact eW15
          have st : (toString ((kl'[i].1 : Nat) : Int) : Str) = S (numL kl'[i].1) := SX.num_S _
          have sn : (toString ((n : Nat) : Int) : Str) = S (numL n) := SX.num_S _
          have l1 : (numL kl'[i].1).length = 1 := by rw [numL_lt (by omega)]; rfl
          have l2 : (numL n).length = 1 := by rw [numL_lt (by omega)]; rfl
          have lo : (optL o).length ≤ 1 := by cases o <;> simp [optL]
          have big : (100 : Nat) ≤ sizeLine := by decide
          refine ⟨_, rfl, .inl ⟨rfl, _, SqL.of eWF⟩, _, rfl, _, rfl, log_small (Nat.lt_of_le_of_lt okk.1 (by decide)), _, rfl, _, _, rfl, rfl, ?_, _, rfl, _, rfl, log_small (Nat.lt_of_le_of_lt (by omega : n ≤ 8) (by decide)), _, _, rfl, rfl, ?_, _, rfl, _, _, rfl, rfl, ?_, _, rfl, _, rfl, ?_, _, _, rfl, rfl, ?_, pW, _, _, rfl, rfl, eWF, small1000 (by rw [wV_len, List.length_map]; omega), ?_⟩
          · rw [st, SX.S_len, SX.S_len, l1]
            show 1 + 1 ≤ _
            omega
          · rw [st, sn, SX.S_cat, SX.S_len, SX.S_len, List.length_append, l1, l2]
            show 1 + 1 + 1 ≤ _
            omega
          · rw [show Str.ofString "-" = S [45] from rfl, SX.S_len, SX.S_len]
            show _ + 1 ≤ _
            omega
          · rw [show Str.ofString "-" = S [45] from rfl, SX.S_cat, SX.S_len, List.length_append]
            show _ + 1 ≤ _
            omega
          · rw [st, sn, show Str.ofString "-" = S [45] from rfl, cut_one, SX.S_cat, SX.S_cat, SX.S_len, SX.S_len, List.length_append, List.length_append, l1, l2]
            show 1 + 1 + 1 + 1 ≤ _
            omega
          · have ew : (toString ((kl'[i].1 : Nat) : Int) : Str) ++ S [kl'[i].2] ++ (toString ((n : Nat) : Int) : Str) ++ cutS (S (optL o) ++ Str.ofString "-") none (some 1) = S (entL ⟨kl'[i].1, kl'[i].2, n, o⟩) := by
              rw [st, sn, show Str.ofString "-" = S [45] from rfl, cut_one, SX.S_cat, SX.S_cat, SX.S_cat]
              unfold entL
              simp
            rw [ew]
            have tkW : TK (upd H15 pE (.lst (zs ++ [.ref p3]))) (upd (upd H15 pE (.lst (zs ++ [.ref p3]))) pW (.lst (wV (es.map entL) ++ [.str (S (entL ⟨kl'[i].1, kl'[i].2, n, o⟩))]))) := TK.lst eWF
            have tkF := tkE.trans tkW
            refine ⟨_, _, _, _, _, _, rfl, (s15.own hE0).own hW0, (b15.other (Ne.symm nEB)).other (Ne.symm nWB), ?_, tk15.trans tkF, es ++ [⟨kl'[i].1, kl'[i].2, n, o⟩], zs ++ [.ref p3], ?_, ?_, paired_app (paired_mono (fun _ _ => EntAt.mono tkF) pe15) (.cons (en.mono tkF) .nil), ?_, fun e he => ?_⟩
            · rw [upd_ne npW, upd_ne npE]
              exact ep15
            · rw [upd_ne (Ne.symm nWE)]
              exact upd_same
            · rw [upd_same, List.map_append]
              unfold wV
              rw [List.map_append]
              rfl
            · rw [List.map_append, ke8, List.take_add_one, List.getElem?_eq_getElem hik]
              rfl
            · rcases List.mem_append.mp he with he | he
              · exact ok8 e he
              · rw [List.mem_singleton.mp he]
                exact oke
        · rintro σ H7 ⟨v2, v3, v6, v7, v8, v9, rfl, s8, b8, ep8, tk8, es, zs, eE8, eW8, pe8, ke8, ok8⟩
          rw [List.take_of_length_le (by omega)] at ke8
          have le : es.length = kl'.length := by
            have := congrArg List.length ke8
            rw [List.length_map] at this
            exact this
          have kne : 1 ≤ kl.length := List.length_pos_iff.mpr (ne hr9)
          have ok : (Ar.table es).Ok .table := by
            refine ⟨by omega, by omega, ok8, ?_⟩
            rw [← ke8, List.pairwise_map] at str
            exact str
          refine ⟨_, rfl, pE, zs, rfl, .inl ⟨SqL.of eE8, fun t ht => ?_⟩⟩
          have st := same_new (o := .tup zs) ht
          have lj := ok.len
          refine ⟨⟨_, rfl⟩, _, rfl, _, pW, (es.map entL).map S, rfl, rfl, .inl (SqL.of (by rw [← wV_eq]; exact st _ _ eW8)), ?_, ?_⟩
          · rw [SX.lens, List.length_map, List.length_map]
            have := sum_le (xs := es.map entL) (m := 4) fun x hx => by
              obtain ⟨e, he, rfl⟩ := List.mem_map.mp hx
              rw [ent_len (ok8 e he)]
              exact Nat.le_refl _
            rw [List.length_map] at this
            show _ + _ * 1 ≤ _
            omega
          · refine ⟨by show 2 ≤ sizeLine; decide, fun z hz => ?_⟩
            have ej : Txt.join (Str.ofString ",") ((es.map entL).map S) = S (joinL [44] (es.map entL)) := SX.join_S [44] _
            rw [ej]
            have sz := same_new (o := .tup [.ref t, .str (S (joinL [44] (es.map entL)))]) hz
            refine q _ z es (.ref t) ok ⟨t, zs, rfl, sz _ _ upd_same, paired_mono (fun _ _ => EntAt.mono (TK.of (st.trans sz))) pe8⟩ upd_same ((s8.trans (SB.of st)).trans (SB.of sz)) ((b8.new ht).new hz)
end
end Wd

set_option Elab.async false
set_option linter.all false
set_option maxRecDepth 100000
set_option maxHeartbeats 4000000
set_option pp.maxSteps 400
set_option pp.deepTerms false
namespace Wd
open PySem L2 TL
open SX (S)

def isNum : Kind → Bool
  | .delay => true | .count => true | .room => true | .width => true | _ => false
theorem isNum_is : ∀ kd : Kind, isNum kd = true → (kd matches .delay | .count | .room | .width) = true := fun kd => by cases kd <;> intro h <;> first | rfl | cases h
theorem numV_dp {K : PySem.W.Frag} {H : Hp} : ∀ ps : List Nat, DpAll K H (numV ps) (ps.map fun (n : Nat) => PyData.int (n : Int))
  | [] => .nil
  | n :: ps => .cons (.int _) (numV_dp ps)
theorem nums_shape (ps : List Nat) : SeqAt.shaped (.tuple (ps.map fun (n : Nat) => PyData.int (n : Int))) = true := by
  have h1 : ∀ ps : List Nat, PyData.canLayAll0 (ps.map fun (n : Nat) => PyData.int (n : Int)) = true := by
    intro ps
    induction ps with
    | nil => rfl
    | cons n ps ih =>
      rw [List.map_cons]
      simp only [PyData.canLayAll0, PyData.canLay0, Bool.true_and]
      exact ih
  have h2 : ∀ ps : List Nat, PyData.depthAll (ps.map fun (n : Nat) => PyData.int (n : Int)) = 0 := by
    intro ps
    induction ps with
    | nil => rfl
    | cons n ps ih =>
      rw [List.map_cons]
      simp only [PyData.depthAll, PyData.depth]
      rw [ih]
      rfl
  unfold SeqAt.shaped
  rw [show PyData.canLay0 (.tuple (ps.map fun (n : Nat) => PyData.int (n : Int))) = true by rw [PyData.canLay0]; exact h1 ps, show PyData.depth (.tuple (ps.map fun (n : Nat) => PyData.int (n : Int))) = 1 by rw [PyData.depth, h2 ps]]
  rfl
theorem nums_eqv (ps : List Nat) : PyData.eqv (.tuple (ps.map fun (n : Nat) => PyData.int (n : Int))) (.tuple []) = decide (ps = []) := by
  cases ps with
  | nil => simp [PyData.eqv, PyData.eqvAll]
  | cons n ps => simp [PyData.eqv, PyData.eqvAll]
structure MTxt (mg : Str → Option Value) : Prop where
  min : mg "min" = none
def spArgT : Sp := fun vs H Q _ => ∃ (B : Addr) (kd : Kind), vs = [.ref B, .str (S [codeOf kd])] ∧ kd ≠ .name ∧ BagAt H B ∧ ∀ H' p a x, a.Ok kd → ArAt H' a x → H' p = some (.tup [x, .str (S a.text)]) → SB B H H' → BagAt H' B → Q (.ref p) H'
section
variable {P : Program} {w : World} {K : PySem.W.Frag} {mg : Str → Option Value} {base : Heap} {fT fP fL fLs fR fB : Addr} {dT dP dL dLs dR dB : FuncData}
abbrev nArgT : List Str := ["bag", "code", "letter", "letters", "places", "least", "greatest", "wide", "number", "turn", "place"]
theorem scArgT : FnScope nArgT ["bag", "code"] (defScope sLArgText) := ⟨rfl, rfl, rfl, by decide +kernel, rfl, by decide +kernel, by decide +kernel⟩
theorem ok_arg_text {f : Addr} {fd : FuncData} (F : Fun K "_law_argument_text" "_law_argument_text" sLArgText f fd) (X : NTxt mg) (M : MTxt mg) (G : GTxt mg fT fP) (T : At P w K mg base 1 "_law_throw" fT dT ["bag", "total"] spThrow) (GL : FnOk P w K mg base CX0 2 fP dP ["bag", "items"] spPickL)
    (kP : PySem.W.keepIn K (.ref fP) = true) (bP : Binds K dP ["bag", "items"] []) (L : At P w K mg base 3 "_law_letter" fL dL ["bag"] spLetter) (Ls : At P w K mg base 2 "_law_letters" fLs dLs ["bag", "most"] spLetters) (R : At P w K mg base 1 "_law_ranges" fR dR ["code"] spRanges)
    (B : At P w K mg base 4 "_law_table_text" fB dB ["bag"] spTableT) : FnOk P w K mg base CX0 5 f fd ["bag", "code"] spArgT := by
  refine F.ok scArgT (fun vs H Q E h => ?_) (fun cdv Ao outer s H vs Q E hr h => ?_)
  · obtain ⟨B, kd, rfl, _⟩ := h
    rfl
  · obtain ⟨B0, kd, rfl, kn, hB, q⟩ := h
    have nd := scArgT.nd
    have hr1 : Room 1 _ := hr.mono (by decide)
    have hr2 : Room 2 _ := hr.mono (by decide)
    have hr3 : Room 3 _ := hr.mono (by decide)
    refine ⟨_, pss_cons (ps_if (pt_cmpR op_eq (pv 1) pe_str (nomark _)) (pss_one (ps_ret (pe_call B.g hr rfl B.m B.kp B.b .nil pass0 (pa_cons (pv 0) pa_nil)))) pss_nil)
      (pss_cons (ps_if (pt_cmpR op_eq (pv 1) pe_str (nomark _)) (pss_cons (ps_set (i := 2) nd rfl (Or.inl rfl) (pe_call L.g hr3 rfl L.m L.kp L.b .nil pass0 (pa_cons (pv 0) pa_nil))) (pss_one (ps_ret (pe_tup (pa_cons (pv 2) (pa_cons (pv 2) pa_nil)))))) pss_nil)
      (pss_cons (ps_if (pt_cmpR op_eq (pv 1) pe_str (nomark _)) (pss_cons (ps_set (i := 3) nd rfl (Or.inl rfl) (pe_call Ls.g hr2 rfl Ls.m Ls.kp Ls.b .nil pass0 (pa_cons (pv 0) (pa_cons pe_int pa_nil)))) (pss_one (ps_ret (pe_tup (pa_cons (pv 3) (pa_cons (pe_join pe_str (pv 3)) pa_nil)))))) pss_nil)
      (pss_cons (ps_if (pt_cmpR op_eq (pv 1) pe_str (nomark _)) (pss_cons (ps_set (i := 4) nd rfl (Or.inl rfl) (pe_callTy call_tuple_of (by rfl) X.tup (by decide +kernel) (pa_cons (pe_lc (own := [("turn", 9)]) (g := gName 9) (tt := tYes) rfl nd (pi_range1 rfl X.range (pa_cons (pe_call T.g hr1 rfl T.m T.kp T.b .nil pass0 (pa_cons (pv 0) (pa_cons pe_int pa_nil))) pa_nil))
            (blkOk_by (N := nArgT) (sc := defScope sLArgText) (by decide +kernel)) (fun _ _ _ _ _ => pg_name (i := 9) nd rfl (Or.inl rfl)) (fun _ _ _ _ _ => pts_nil) (fun _ _ _ _ _ => pe_call T.g hr1 rfl T.m T.kp T.b .nil pass0 (pa_cons (pv 0) (pa_cons pe_int pa_nil)))) pa_nil)))
          (pss_one (ps_ret (pe_tup (pa_cons (pv 4) (pa_cons (pe_ifExp (pt_cmpR (op_neD hr.units) (pv 4) (pe_tup pa_nil) (by rfl)) (pe_join pe_str (pe_lc (own := [("place", 10)]) (g := gName 10) (tt := tYes) rfl nd (pi_tup (pv 4)) (blkOk_by (N := nArgT) (sc := defScope sLArgText) (by decide +kernel))
            (fun _ _ _ _ _ => pg_name (i := 10) nd rfl (Or.inl rfl)) (fun _ _ _ _ _ => pts_nil) (fun _ _ _ _ _ => pe_callTy call_str_int (by rfl) X.str (by decide +kernel) (pa_cons (pv 10) pa_nil)))) pe_str) pa_nil)))))) pss_nil)
      (pss_cons (ps_asg (pe_call R.g hr1 rfl R.m R.kp R.b .nil pass0 (pa_cons (pv 1) pa_nil)) (pg_tup rfl (pgs_cons (pg_name (i := 5) nd rfl (Or.inl rfl)) (pgs_cons (pg_name (i := 6) nd rfl (Or.inl rfl)) pgs_nil))))
      (pss_cons (ps_set (i := 7) nd rfl (Or.inl rfl) (pe_call GL hr2 rfl G.pick kP bP .nil pass0 (pa_cons (pv 0) (pa_cons (pe_lst (pa_cons (pe_op op_add (pe_op op_sub (pv 6) (pv 5)) pe_int) (pa_cons (pe_callB (call_min2 rfl) (by rfl) M.min (by decide +kernel) (pa_cons pe_int (pa_cons (pe_op op_add (pe_op op_sub (pv 6) (pv 5)) pe_int) pa_nil))) pa_nil))) pa_nil))))
      (pss_cons (ps_set (i := 8) nd rfl (Or.inl rfl) (pe_call GL hr2 rfl G.pick kP bP .nil pass0 (pa_cons (pv 0) (pa_cons (pe_lst (pa_cons (pv 5) (pa_cons (pv 6) (pa_cons (pe_op op_add (pv 5) (pe_call T.g hr1 rfl T.m T.kp T.b .nil pass0 (pa_cons (pv 0) (pa_cons (pv 7) pa_nil))))
          (pa_cons (pe_op op_add (pv 5) (pe_call T.g hr1 rfl T.m T.kp T.b .nil pass0 (pa_cons (pv 0) (pa_cons (pv 7) pa_nil)))) pa_nil))))) pa_nil))))
      (pss_one (ps_ret (pe_tup (pa_cons (pv 8) (pa_cons (pe_callTy call_str_int (by rfl) X.str (by decide +kernel) (pa_cons (pv 8) pa_nil)) pa_nil))))))))))), ?_⟩
    by_cases hnum : isNum kd = true
    · have t1 : (S [codeOf kd] == Str.ofString "T") = false := by cases kd <;> first | rfl | cases hnum
      have t2 : (S [codeOf kd] == Str.ofString "L") = false := by cases kd <;> first | rfl | cases hnum
      have t3 : (S [codeOf kd] == Str.ofString "A") = false := by cases kd <;> first | rfl | cases hnum
      have t4 : (S [codeOf kd] == Str.ofString "I") = false := by cases kd <;> first | rfl | cases hnum
      have l0 : 0 ≤ (lims kd).1 ∧ (lims kd).1 < (lims kd).2 ∧ (lims kd).2 ≤ ten40 := by cases kd <;> first | decide +kernel | cases hnum
      have okn : ∀ n : Nat, (lims kd).1 ≤ n → (n : Int) ≤ (lims kd).2 → (Ar.num n).Ok kd := by
        intro n h1 h2
        have e : ((maxD : Nat) : Int) = ten40 := by decide +kernel
        cases kd with
        | delay => exact ⟨by have h1 : (1 : Int) ≤ n := h1; omega, by have h2 : (n : Int) ≤ ten40 := h2; omega⟩
        | count => exact ⟨by have h1 : (1 : Int) ≤ n := h1; omega, by have h2 : (n : Int) ≤ 9 := h2; omega⟩
        | room => exact ⟨by have h1 : (1 : Int) ≤ n := h1; omega, by have h2 : (n : Int) ≤ 3 := h2; omega⟩
        | width => exact (show n ≤ 4 by have h2 : (n : Int) ≤ 4 := h2; omega)
        | _ => cases hnum
      refine ⟨_, rfl, rfl, _, rfl, ifNe t1 ⟨_, rfl, rfl, _, rfl, ifNe t2 ⟨_, rfl, rfl, _, rfl, ifNe t3 ⟨_, rfl, rfl, _, rfl, ifNe t4 ⟨_, rfl, kd, rfl, isNum_is kd hnum, fun H1 t s1 e1 => ?_⟩⟩⟩⟩⟩
      generalize (lims kd).1 = lo at l0 okn e1
      generalize (lims kd).2 = hi at l0 okn e1
      have b1 : BagAt H1 B0 := by
        obtain ⟨x, y, z, h⟩ := hB
        exact ⟨x, y, z, s1 _ _ h⟩
      refine ⟨t, _, rfl, SqT.of e1, rfl, _, _, rfl, _, _, rfl, rfl, ?_⟩
      refine ⟨_, rfl, _, rfl, _, rfl, _, _, rfl, rfl, _, _, rfl, rfl, _, rfl, _, rfl, _, _, rfl, rfl, _, _, rfl, rfl, _, _, rfl, by show 2 ≤ sizeLine; decide, fun l hl => ?_⟩
      refine ⟨B0, l, _, rfl, b1.new hl, (b1.ne hl).symm, upd_same, by show 0 < 2; decide, by show 2 ≤ 100; decide, fun y H2 hy s2 b2 => ?_⟩
      have s2' : SB B0 H1 H2 := fun b o n e => s2 b o n (by rw [upd_ne (ne_of_none e hl)]; exact e)
      have t61 : ten40 + 1 ≤ ten61 := by decide +kernel
      obtain ⟨W, rfl, w0, w1⟩ : ∃ W : Int, y = .int W ∧ 0 < W ∧ W ≤ hi - lo + 1 := by
        simp only [List.mem_cons, List.not_mem_nil, or_false] at hy
        rcases hy with rfl | rfl
        · exact ⟨_, rfl, by omega, Int.le_refl _⟩
        · refine ⟨_, rfl, ?_, ?_⟩
          · show (0 : Int) < (if hi - lo + 1 < 9 then hi - lo + 1 else 9)
            split <;> omega
          · show (if hi - lo + 1 < 9 then hi - lo + 1 else 9) ≤ hi - lo + 1
            split <;> omega
      refine ⟨_, rfl, _, rfl, _, rfl, _, rfl, _, rfl, _, rfl, B0, W, rfl, b2, w0, by omega, fun r1 H3 r10 r11 s3 b3 => ?_⟩
      refine ⟨_, _, rfl, rfl, _, rfl, _, rfl, _, rfl, B0, W, rfl, b3, w0, by omega, fun r2 H4 r20 r21 s4 b4 => ?_⟩
      refine ⟨_, _, rfl, rfl, by show 4 ≤ sizeLine; decide, fun l2 hl2 => ?_⟩
      refine ⟨B0, l2, _, rfl, b4.new hl2, (b4.ne hl2).symm, upd_same, by show 0 < 4; decide, by show 4 ≤ 100; decide, fun y H5 hy5 s5 b5 => ?_⟩
      have s5' : SB B0 H4 H5 := fun b o n e => s5 b o n (by rw [upd_ne (ne_of_none e hl2)]; exact e)
      obtain ⟨n, rfl, n0, n1⟩ : ∃ n : Nat, y = .int n ∧ lo ≤ n ∧ (n : Int) ≤ hi := by
        have g : ∀ z : Int, lo ≤ z → z ≤ hi → ∃ n : Nat, V.int z = .int n ∧ lo ≤ n ∧ (n : Int) ≤ hi := fun z h1 h2 => by
          obtain ⟨n, rfl⟩ := Int.eq_ofNat_of_zero_le (by omega : 0 ≤ z)
          exact ⟨n, rfl, h1, h2⟩
        simp only [List.mem_cons, List.not_mem_nil, or_false] at hy5
        rcases hy5 with rfl | rfl | rfl | rfl
        · exact g _ (by omega) (by omega)
        · exact g _ (by omega) (by omega)
        · exact g _ (by omega) (by omega)
        · exact g _ (by omega) (by omega)
      have sn : (toString ((n : Nat) : Int) : Str) = S (numL n) := SX.num_S n
      have nb : n ≤ maxD := by
        have e : ((maxD : Nat) : Int) = ten40 := by decide +kernel
        omega
      refine ⟨_, rfl, _, rfl, n, rfl, log_small (Nat.lt_of_le_of_lt nb (by decide +kernel)), by show 2 ≤ sizeLine; decide, fun p hp => ?_⟩
      rw [sn]
      have all : SB B0 H H5 := (SB.of s1).trans (s2'.trans (s3.trans (s4.trans s5')))
      exact q _ p (.num n) _ (okn n n0 n1) rfl upd_same (all.trans (SB.of (same_new hp))) (b5.new hp)
    cases kd with
    | name => exact (kn rfl).elim
    | table => exact ⟨_, rfl, rfl, _, rfl, iteT ⟨_, rfl, B0, rfl, hB, fun H' p es x o av e s1 b1 => q H' p (.table es) x o av e s1 b1⟩⟩
    | letter =>
      refine ⟨_, rfl, rfl, _, rfl, ifNe rfl ⟨_, rfl, rfl, _, rfl, iteT ⟨_, rfl, B0, rfl, hB, fun c H1 hc s1 b1 => ?_⟩⟩⟩
      exact ⟨_, rfl, _, rfl, by show 2 ≤ sizeLine; decide, fun p hp => q _ p (.ltr c) _ hc rfl upd_same (s1.trans (SB.of (same_new hp))) (b1.new hp)⟩
    | letters =>
      refine ⟨_, rfl, rfl, _, rfl, ifNe rfl ⟨_, rfl, rfl, _, rfl, ifNe rfl ⟨_, rfl, rfl, _, rfl, iteT ⟨_, rfl, B0, 26, rfl, hB, by decide, by decide, fun t ds H1 ok nt et s1 b1 => ?_⟩⟩⟩⟩
      have l26 := letters_len ok
      refine ⟨_, rfl, ⟨_, rfl⟩, _, rfl, _, t, (ds.map fun c => [c]).map S, rfl, rfl, .inr (SqT.of (by rw [et]; congr 2; unfold letV; rw [List.map_map, List.map_map]; rfl)), ?_, by show 2 ≤ sizeLine; decide, fun p hp => ?_⟩
      · rw [SX.lens, List.length_map, List.length_map]
        have := sum_le (xs := ds.map fun c => [c]) (m := 1) fun x hx => by
          obtain ⟨c, _, rfl⟩ := List.mem_map.mp hx
          exact Nat.le_refl _
        rw [List.length_map] at this
        show _ + _ * 0 ≤ _
        omega
      · have e2 : joinL [] (ds.map fun c => [c]) = ds := by
          clear ok nt et l26
          induction ds with
          | nil => rfl
          | cons c cs ih =>
            cases cs with
            | nil => rfl
            | cons d ds => exact congrArg (c :: ·) ih
        have ej : Txt.join (Str.ofString "") ((ds.map fun c => [c]).map S) = S ds := by
          have := SX.join_S [] (ds.map fun c => [c])
          rw [e2] at this
          exact this
        rw [ej]
        have sp := same_new (o := .tup [.ref t, .str (S ds)]) hp
        exact q _ p (.lets ds) _ ok ⟨t, rfl, sp _ _ et⟩ upd_same (s1.trans (SB.of sp)) (b1.new hp)
    | places =>
      refine ⟨_, rfl, rfl, _, rfl, ifNe rfl ⟨_, rfl, rfl, _, rfl, ifNe rfl ⟨_, rfl, rfl, _, rfl, ifNe rfl ⟨_, rfl, rfl, _, rfl, iteT ?_⟩⟩⟩⟩
      refine ⟨_, rfl, B0, 5, rfl, hB, by decide, by decide +kernel, fun r H1 r0 r1 s1 b1 => ?_⟩
      refine ⟨_, rfl, by omega, by omega, fun D hD => ?_⟩
      have nDB : D ≠ B0 := b1.ne hD
      refine lc_range (lo := 0) (n := r.toNat) (fun i H' => SB B0 H1 H' ∧ BagAt H' B0 ∧ ∃ ps : List Nat, ps.length = i ∧ (∀ p ∈ ps, p ≤ 3) ∧ H' D = some (.lst (numV ps))) ⟨SB.of (same_new hD), b1.new hD, [], rfl, (fun p h => nomatch h), upd_same⟩ ?_ ?_
      · rintro i H' hi ⟨sb, bg, ps, lp, l3, eD⟩
        refine ⟨rfl, _, rfl, B0, 4, rfl, bg, by decide, by decide +kernel, fun x H3 x0 x1 s3 b3 => ?_⟩
        obtain ⟨n, rfl⟩ := Int.eq_ofNat_of_zero_le x0
        have eD3 := s3 _ _ nDB eD
        refine ⟨_, eD3, small1000 (by unfold numV; rw [List.length_map]; omega), (sb.trans s3).own hD, b3.other (Ne.symm nDB), ps ++ [n], by simp [lp], fun p hp => ?_, ?_⟩
        · rcases List.mem_append.mp hp with hp | hp
          · exact l3 p hp
          · rw [List.mem_singleton.mp hp]
            omega
        · rw [upd_same]
          unfold numV
          rw [List.map_append]
          rfl
      · rintro H3 ⟨sb, bg, ps, lp, l3, eD⟩
        refine ⟨D, _, rfl, .inl ⟨SqL.of eD, fun t ht => ?_⟩⟩
        have st := same_new (o := .tup (numV ps)) ht
        have bt := bg.new (o := .tup (numV ps)) ht
        have et : (upd H3 t (.tup (numV ps))) t = some (.tup (numV ps)) := upd_same
        generalize upd H3 t (.tup (numV ps)) = H4 at st bt et
        have lp4 : ps.length ≤ 4 := by omega
        have okp : (Ar.places ps).Ok .places := ⟨lp4, l3⟩
        have s14 : SB B0 H H4 := (s1.trans sb).trans (SB.of st)
        refine ⟨_, rfl, _, rfl, by show 0 ≤ sizeLine; decide, fun e he => ?_⟩
        have se := same_new (o := .tup []) he
        have be := bt.new (o := .tup []) he
        have ee : (upd H4 e (.tup [])) e = some (.tup []) := upd_same
        have et5 := se _ _ et
        have s15 : SB B0 H (upd H4 e (.tup [])) := s14.trans (SB.of se)
        generalize upd H4 e (.tup []) = H5 at be ee et5 s15
        refine ⟨_, _, .tup (SqT.of et5) (numV_dp ps), .tup (SqT.of ee) .nil, nums_shape ps, nums_shape [], _, rfl, ?_⟩
        rw [nums_eqv]
        by_cases hps : ps = []
        · rw [decide_eq_true hps]
          refine iteF ⟨by show 2 ≤ sizeLine; decide, fun p hp => ?_⟩
          have sp := same_new (o := .tup [.ref t, .str (Str.ofString "-")]) hp
          refine q _ p (.places ps) (.ref t) okp ⟨t, rfl, sp _ _ et5⟩ ?_ (s15.trans (SB.of sp)) (be.new hp)
          rw [upd_same, hps]
          rfl
        · rw [decide_eq_false hps]
          have lpv : (numV ps).length = ps.length := List.length_map _
          refine iteT ⟨⟨_, rfl⟩, _, rfl, t, rfl, ⟨_, SqT.of et5⟩, fun D2 hD2 => ?_⟩
          refine lc_texts (n := (numV ps).length) (walk_tup (K := K) (xs := numV ps) (a := t)) (ps.map numL) (by rw [List.length_map, lpv]) hD2 (by omega) (fun H6 s6 => SqT.of (s6 _ _ et5)) ?_ ?_
          · rintro i x H6 H' kT hi s6 ⟨rfl, hx⟩ h
            rw [List.length_map] at hi
            unfold numV at hx
            rw [List.getElem?_map, List.getElem?_eq_getElem hi] at hx
            cases hx
            have := l3 _ (List.getElem_mem hi)
            refine ⟨rfl, _, rfl, (ps[i] : Int), rfl, log_small (Nat.lt_of_le_of_lt this (by decide +kernel)), ?_⟩
            have z := h _ (Same.refl _)
            rw [List.getElem_map, ← SX.num_S] at z
            exact z
          · intro H6 s6 e6
            refine ⟨_, D2, (ps.map numL).map S, rfl, rfl, .inl (SqL.of (by rw [← wV_eq]; exact e6)), ?_, ?_⟩
            · rw [SX.lens, List.length_map, List.length_map]
              have := sum_le (xs := ps.map numL) (m := 1) fun x hx => by
                obtain ⟨c, hc, rfl⟩ := List.mem_map.mp hx
                have := l3 c hc
                rw [numL_lt (by omega)]
                exact Nat.le_refl _
              rw [List.length_map] at this
              show _ + _ * 1 ≤ _
              omega
            · have ej : Txt.join (Str.ofString ",") ((ps.map numL).map S) = S (joinL [44] (ps.map numL)) := SX.join_S [44] _
              rw [ej]
              refine ⟨by show 2 ≤ sizeLine; decide, fun p hp => ?_⟩
              have sp := same_new (o := .tup [.ref t, .str (S (joinL [44] (ps.map numL)))]) hp
              have b6 : BagAt H6 B0 := by
                obtain ⟨x, y, z, h⟩ := be
                exact ⟨x, y, z, s6 _ _ h⟩
              have eT : (Ar.places ps).text = joinL [44] (ps.map numL) := if_neg hps
              refine q _ p (.places ps) (.ref t) okp ⟨t, rfl, sp _ _ (s6 _ _ et5)⟩ ?_ ((s15.trans (SB.of s6)).trans (SB.of sp)) (b6.new hp)
              rw [upd_same, eT]
    | _ => exact (hnum rfl).elim
end
end Wd

set_option Elab.async false
set_option linter.all false
set_option maxRecDepth 100000
set_option maxHeartbeats 4000000
set_option pp.maxSteps 400
set_option pp.deepTerms false
namespace Wd
open PySem L2 TL
open SX (S)

def spTreeT (n : Nat) : Sp := fun vs H Q _ => ∃ (B : Addr) (z : Nat), vs = [.ref B, .int z] ∧ BagAt H B ∧ 1 ≤ z ∧ z ≤ n ∧ n ≤ 12 ∧ ∀ H' p t x, t.Ok → t.size ≤ z → TrAt H' t x → H' p = some (.tup [x, .str (S t.text)]) → SB B H H' → BagAt H' B → Q (.ref p) H'
/-- the forms by how many parts they have -/
def partsOf (r : List Nat × List Nat) : Nat := r.2.count 80
def kindOf : Nat → Option Kind
  | 76 => some .letter | 65 => some .letters | 73 => some .places | 84 => some .table | 68 => some .delay | 67 => some .count | 77 => some .room | 87 => some .width | _ => none
theorem forms_sig : ∀ r ∈ forms, (S r.1, r.2.map kindOf) ∈ sig ∧ S r.1 ≠ Str.ofString "it" ∧ S r.1 ≠ Str.ofString "source" ∧ r.2.length ≤ 3 ∧ partsOf r ≤ 2 := by
  have : ∀ r ∈ forms, (decide ((S r.1, r.2.map kindOf) ∈ sig) && decide (S r.1 ≠ Str.ofString "it") && decide (S r.1 ≠ Str.ofString "source") && decide (r.2.length ≤ 3) && decide (partsOf r ≤ 2)) = true := by decide +kernel
  intro r hr
  have q := this r hr
  simp only [Bool.and_eq_true, decide_eq_true_iff] at q
  exact ⟨q.1.1.1.1, q.1.1.1.2, q.1.1.2, q.1.2, q.2⟩
theorem forms_count : ∀ r ∈ forms, Txt.count (S r.2) (S [80]) = ((partsOf r : Nat) : Int) := by decide +kernel
theorem forms_some : ∀ m : Nat, m ≤ 2 → (forms.filter fun r => partsOf r == m) ≠ [] ∧ (forms.filter fun r => partsOf r == m).length ≤ 100 := by
  intro m hm
  have : m = 0 ∨ m = 1 ∨ m = 2 := by omega
  rcases this with rfl | rfl | rfl <;> decide +kernel
/-- the parts stand behind the arguments -/
theorem forms_order : ∀ r ∈ forms, r.2 = (r.2.filter (· != 80)) ++ List.replicate (partsOf r) 80 := by decide +kernel
theorem code_kind : ∀ c : Nat, c ≠ 80 → ∀ kd, kindOf c = some kd → codeOf kd = c := by
  intro c _ kd h
  unfold kindOf at h
  split at h <;> first | (cases h; rfl) | cases h
end Wd

set_option Elab.async false
set_option linter.all false
set_option maxRecDepth 100000
set_option maxHeartbeats 4000000
set_option pp.maxSteps 400
set_option pp.deepTerms false
namespace Wd
open PySem L2 TL
open SX (S)

/-- the kinds of an operator's arguments -/
def kindsOf (r : List Nat × List Nat) : List Kind := r.2.filterMap kindOf
theorem forms_kinds : ∀ r ∈ forms, r.2 = (kindsOf r).map codeOf ++ List.replicate (partsOf r) 80 ∧ (S r.1, (kindsOf r).map some ++ List.replicate (partsOf r) none) ∈ sig ∧ (∀ k ∈ kindsOf r, k ≠ .name) ∧ (kindsOf r).length ≤ 3 := by
  have : ∀ r ∈ forms, (decide (r.2 = (kindsOf r).map codeOf ++ List.replicate (partsOf r) 80) && decide ((S r.1, (kindsOf r).map some ++ List.replicate (partsOf r) none) ∈ sig) && decide (∀ k ∈ kindsOf r, k ≠ .name) && decide ((kindsOf r).length ≤ 3)) = true := by decide +kernel
  intro r hr
  have q := this r hr
  simp only [Bool.and_eq_true, decide_eq_true_iff] at q
  exact ⟨q.1.1.1, q.1.1.2, q.1.2, q.2⟩
theorem code_ne : ∀ k : Kind, codeOf k ≠ 80 := by
  intro k
  cases k <;> decide
/-- the operator of so many parts -/
def mkTr (w : Str) (as : List Ar) : List Tr → Tr
  | [] => .op0 w as
  | [t] => .op1 w as t
  | t :: u :: _ => .op2 w as t u
theorem mkTr_word (w : Str) (as : List Ar) : ∀ ts, (mkTr w as ts).word = w
  | [] => rfl
  | [_] => rfl
  | _ :: _ :: _ => rfl
theorem mkTr_args (w : Str) (as : List Ar) : ∀ ts, (mkTr w as ts).args = as
  | [] => rfl
  | [_] => rfl
  | _ :: _ :: _ => rfl
theorem mkTr_isOp (w : Str) (as : List Ar) : ∀ ts, (mkTr w as ts).isOp = true
  | [] => rfl
  | [_] => rfl
  | _ :: _ :: _ => rfl
theorem mkTr_parts (w : Str) (as : List Ar) : ∀ ts : List Tr, ts.length ≤ 2 → (mkTr w as ts).parts = ts
  | [], _ => rfl
  | [_], _ => rfl
  | [_, _], _ => rfl
  | _ :: _ :: _ :: _, h => absurd h (by simp)
theorem mkTr_ok {w : Str} {as : List Ar} {ks : List Kind} (n1 : w ≠ Str.ofString "it") (n2 : w ≠ Str.ofString "source") (o : Paired Ar.Ok ks as) : ∀ ts : List Tr, ts.length ≤ 2 → (w, ks.map some ++ List.replicate ts.length none) ∈ sig → (∀ t ∈ ts, t.Ok) → (mkTr w as ts).Ok
  | [], _, s, _ => ⟨⟨ks, s, o⟩, n1, n2⟩
  | [t], _, s, h => ⟨⟨⟨ks, s, o⟩, n1, n2⟩, h t (by simp)⟩
  | [t, u], _, s, h => ⟨⟨⟨ks, s, o⟩, n1, n2⟩, h t (by simp), h u (by simp)⟩
  | _ :: _ :: _ :: _, h, _, _ => absurd h (by simp)
theorem mkTr_size {w : Str} {as : List Ar} {ts : List Tr} (h : ts.length ≤ 2) : (mkTr w as ts).size = 1 + (ts.map Tr.size).sum := by
  rw [Tr.size_parts, mkTr_parts w as ts h]
theorem mkTr_text {w : Str} {as : List Ar} {ts : List Tr} (h : ts.length ≤ 2) : (mkTr w as ts).text = [40] ++ (joinL [32] (tl w :: (as.map Ar.text ++ ts.map Tr.text)) ++ [41]) := by
  rw [Tr.text_op (mkTr_isOp w as ts), mkTr_word, mkTr_args, mkTr_parts w as ts h]
theorem mkTr_at {H : Hp} {w : Str} {as : List Ar} {ts : List Tr} (h : ts.length ≤ 2) {a : Addr} {xs ys : List V} (e : H a = some (.tup (.str w :: (xs ++ ys)))) (p1 : Paired (ArAt H) as xs) (p2 : Paired (TrAt H) ts ys) : TrAt H (mkTr w as ts) (.ref a) :=
  (TrAt.op (mkTr_isOp w as ts)).mpr ⟨a, xs, ys, rfl, by rw [mkTr_word]; exact e, by rw [mkTr_args]; exact p1, by rw [mkTr_parts w as ts h]; exact p2⟩
end Wd

set_option Elab.async false
set_option linter.all false
set_option maxRecDepth 2200
set_option maxHeartbeats 4000000
set_option pp.maxSteps 400
set_option pp.deepTerms false
namespace Wd
open PySem L2 TL
open SX (S)

/-! ### the data of a tree: what repr shows of it -/
/-- data of weight at most w, depth at most k, that repr shows -/
structure Sm (w k : Nat) (d : PyData) : Prop where
  sh : d.showable = true
  nd : d.hasDict = false
  dp : d.depth ≤ k
  lv : d.leavesShort 64 = true
  wt : d.weight ≤ w
structure SmL (w k : Nat) (ds : List PyData) : Prop where
  sh : PyData.showableAll ds = true
  nd : PyData.hasDictAll ds = false
  dp : PyData.depthAll ds ≤ k
  lv : PyData.leavesShortAll 64 ds = true
  wt : PyData.weightAll ds ≤ w
theorem Sm.mono {w k w' k' : Nat} {d : PyData} (h : Sm w k d) (hw : w ≤ w') (hk : k ≤ k') : Sm w' k' d := ⟨h.sh, h.nd, Nat.le_trans h.dp hk, h.lv, Nat.le_trans h.wt hw⟩
theorem SmL.mono {w k w' k' : Nat} {d : List PyData} (h : SmL w k d) (hw : w ≤ w') (hk : k ≤ k') : SmL w' k' d := ⟨h.sh, h.nd, Nat.le_trans h.dp hk, h.lv, Nat.le_trans h.wt hw⟩
theorem SmL.nil {k : Nat} : SmL 0 k [] := ⟨rfl, rfl, Nat.zero_le _, rfl, Nat.le_refl _⟩
theorem SmL.cons {w v k : Nat} {d : PyData} {ds : List PyData} (h : Sm w k d) (hs : SmL v k ds) : SmL (w + 1 + v) k (d :: ds) := by
  refine ⟨?_, ?_, ?_, ?_, ?_⟩
  · simp only [PyData.showableAll, h.sh, hs.sh, Bool.and_self]
  · simp only [PyData.hasDictAll, h.nd, hs.nd, Bool.or_self]
  · have := h.dp
    have := hs.dp
    simp only [PyData.depthAll]
    omega
  · simp only [PyData.leavesShortAll, h.lv, hs.lv, Bool.and_self]
  · have := h.wt
    have := hs.wt
    simp only [PyData.weightAll]
    omega
theorem SmL.app {w v k : Nat} : ∀ {ds es : List PyData}, SmL w k ds → SmL v k es → SmL (w + v) k (ds ++ es)
  | [], _, _, h => h.mono (Nat.le_add_left _ _) (Nat.le_refl _)
  | d :: ds, es, h, g => by
    obtain ⟨a1, a2, a3, a4, a5⟩ := h
    simp only [PyData.showableAll, PyData.hasDictAll, PyData.depthAll, PyData.leavesShortAll, PyData.weightAll, Bool.and_eq_true, Bool.or_eq_false_iff] at a1 a2 a3 a4 a5
    have hd : Sm d.weight k d := ⟨a1.1, a2.1, by omega, a4.1, Nat.le_refl _⟩
    have ih := SmL.app (w := PyData.weightAll ds) ⟨a1.2, a2.2, by omega, a4.2, Nat.le_refl _⟩ g
    exact (SmL.cons hd ih).mono (by omega) (Nat.le_refl _)
theorem SmL.all {w k : Nat} : ∀ {ds : List PyData}, (∀ d ∈ ds, Sm w k d) → SmL (ds.length * (w + 1)) k ds
  | [], _ => SmL.nil.mono (Nat.zero_le _) (Nat.le_refl _)
  | d :: ds, h => by
    have ih := SmL.all fun e he => h e (List.mem_cons_of_mem _ he)
    have := SmL.cons (h d List.mem_cons_self) ih
    refine this.mono ?_ (Nat.le_refl _)
    rw [List.length_cons, Nat.add_mul]
    omega
theorem SmL.tup {w k : Nat} {ds : List PyData} (h : SmL w k ds) : Sm w (k + 1) (.tuple ds) := by
  refine ⟨?_, ?_, ?_, ?_, ?_⟩
  · simp only [PyData.showable, h.sh]
  · simp only [PyData.hasDict, h.nd]
  · have := h.dp
    simp only [PyData.depth]
    omega
  · simp only [PyData.leavesShort, h.lv]
  · simp only [PyData.weight]
    exact h.wt
theorem ten40_log : (10 ^ 40).log2 < 140 := by decide +kernel
theorem sm_num {n : Nat} (h : n ≤ maxD) : Sm 150 0 (.int n) := by
  have lt : n < 10 ^ 40 := Nat.lt_of_le_of_lt h (by decide +kernel)
  have lg : n ≠ 0 → n.log2 < 140 := fun z => Nat.lt_of_le_of_lt ((Nat.le_log2 (by decide +kernel)).mpr (Nat.le_trans (Nat.log2_self_le z) (Nat.le_of_lt lt))) ten40_log
  have l0 : n.log2 < 140 := by
    by_cases z : n = 0
    · subst z
      decide
    · exact lg z
  refine ⟨?_, rfl, Nat.le_refl _, ?_, ?_⟩
  · show decide (((n : Int).natAbs).log2 < 1920) = true
    rw [Int.natAbs_natCast]
    exact decide_eq_true (by omega)
  · show decide ((PyData.shown (.int n)).length ≤ 64) = true
    have := int_text_length_le10 (a := (n : Int)) (k := 40) (by decide) (by rw [Int.natAbs_natCast]; exact lt)
    refine decide_eq_true ?_
    show (Str.ofString (toString (n : Int))).length ≤ 64
    rw [ofString_length]
    omega
  · show (if (n : Int) == 0 then 0 else ((n : Int).natAbs).log2 + 1) ≤ 150
    rw [Int.natAbs_natCast]
    split <;> omega
theorem sm_few {n : Nat} (h : n ≤ 9) : Sm 5 0 (.int n) := by
  have q := sm_num (n := n) (Nat.le_trans h (by decide +kernel))
  refine ⟨q.sh, q.nd, q.dp, q.lv, ?_⟩
  show (if (n : Int) == 0 then 0 else ((n : Int).natAbs).log2 + 1) ≤ 5
  rw [Int.natAbs_natCast]
  have : n.log2 ≤ 3 := by
    have : ∀ m : Nat, m < 10 → m.log2 ≤ 3 := by decide
    exact this n (by omega)
  split <;> omega
theorem sm_str {z : Str} {w : Nat} (h : ∀ c ∈ z.cps.toList, c < 16 ^ 8) (l : z.length ≤ w) : Sm w 0 (.str z) :=
  ⟨rfl, rfl, Nat.le_refl _, by show (z.cps.toList.all fun c => decide (c < 16 ^ 8)) = true; exact List.all_eq_true.mpr fun c hc => decide_eq_true (h c hc), l⟩
theorem low_16 {c : Nat} (h : low c) : c < 16 ^ 8 := by
  unfold low at h
  have : (16 : Nat) ^ 8 = 4294967296 := by decide
  omega
theorem sm_let {c : Nat} (h : low c) : Sm 1 0 (.str (S [c])) := sm_str (fun d hd => by
  have e : d = c := by simpa [S] using hd
  rw [e]
  exact low_16 h) (Nat.le_refl _)
def Ent.dat (e : Ent) : PyData := .tuple [.tuple [.int e.s, .str (S [e.l])], .tuple [.int e.t, .str (S (optL e.o))]]
def Ar.dat : Ar → PyData
  | num n => .int n
  | ltr c => .str (S [c])
  | lets cs => .tuple (cs.map fun c => .str (S [c]))
  | places ps => .tuple (ps.map fun (n : Nat) => .int (n : Int))
  | table es => .tuple (es.map Ent.dat)
def Tr.dat : Tr → PyData
  | it => .tuple [.str (Str.ofString "it")]
  | src z => .tuple [.str (Str.ofString "source"), .str z]
  | op0 w as => .tuple (.str w :: as.map Ar.dat)
  | op1 w as t => .tuple (.str w :: (as.map Ar.dat ++ [t.dat]))
  | op2 w as t u => .tuple (.str w :: (as.map Ar.dat ++ [t.dat, u.dat]))
theorem sm_ent {e : Ent} (o : e.Ok) : Sm 32 2 e.dat := by
  have a : Sm 12 1 (.tuple [.int e.s, .str (S [e.l])]) := ((SmL.cons (sm_few (Nat.le_succ_of_le o.s)) (SmL.cons ((sm_let o.l).mono (by decide : 1 ≤ 5) (Nat.le_refl _)) SmL.nil)).tup).mono (by decide) (by decide)
  have hb : Sm 5 0 (.str (S (optL e.o))) := by
    cases ho : e.o with
    | none => exact sm_str (fun c hc => by simp [S, optL] at hc) (by decide)
    | some c => exact (sm_let (o.o c ho)).mono (by decide) (Nat.le_refl _)
  have b : Sm 12 1 (.tuple [.int e.t, .str (S (optL e.o))]) := ((SmL.cons (sm_few (Nat.le_succ_of_le o.t)) (SmL.cons hb SmL.nil)).tup).mono (by decide) (by decide)
  exact ((SmL.cons a (SmL.cons b SmL.nil)).tup).mono (by decide) (by decide)
theorem sm_ar : ∀ {kd : Kind} {a : Ar}, a.Ok kd → Sm 700 3 a.dat
  | .delay, .num n, o => (sm_num o.2).mono (by decide) (by decide)
  | .count, .num n, o => (sm_num (Nat.le_trans o.2 (by decide +kernel))).mono (by decide) (by decide)
  | .room, .num n, o => (sm_num (Nat.le_trans o.2 (by decide +kernel))).mono (by decide) (by decide)
  | .width, .num n, o => (sm_num (Nat.le_trans (show n ≤ 4 from o) (by decide +kernel))).mono (by decide) (by decide)
  | .letter, .ltr c, o => (sm_let o).mono (by decide) (by decide)
  | .letters, .lets cs, o => by
    have l := letters_len o
    refine (SmL.tup (SmL.all (w := 1) (k := 0) fun d hd => ?_)).mono ?_ (by decide)
    · obtain ⟨c, hc, rfl⟩ := List.mem_map.mp hd
      exact sm_let (o.2.1 c hc)
    · rw [List.length_map]
      omega
  | .places, .places ps, o => by
    have l := o.1
    refine (SmL.tup (SmL.all (w := 5) (k := 0) fun d hd => ?_)).mono ?_ (by decide)
    · obtain ⟨c, hc, rfl⟩ := List.mem_map.mp hd
      exact sm_few (Nat.le_trans (o.2 c hc) (by decide))
    · rw [List.length_map]
      omega
  | .table, .table es, o => by
    have l : es.length ≤ 20 := o.2.1
    refine (SmL.tup (SmL.all (w := 32) (k := 2) fun d hd => ?_)).mono ?_ (by decide)
    · obtain ⟨e, he, rfl⟩ := List.mem_map.mp hd
      exact sm_ent (o.2.2.1 e he)
    · rw [List.length_map]
      omega
theorem sm_args {ks : List Kind} {as : List Ar} (o : Paired Ar.Ok ks as) (k : Nat) (l : as.length ≤ 3) : SmL 2103 (k + 3) (as.map Ar.dat) := by
  refine (SmL.all (w := 700) (k := k + 3) fun d hd => ?_).mono ?_ (Nat.le_refl _)
  · obtain ⟨a, ha, rfl⟩ := List.mem_map.mp hd
    obtain ⟨kd, hk⟩ := paired_ok o a ha
    exact (sm_ar hk).mono (Nat.le_refl _) (by omega)
  · rw [List.length_map]
    omega
theorem sig_sm : ∀ p ∈ sig, (∀ c ∈ p.1.cps.toList, c < 16 ^ 8) ∧ p.1.length ≤ 8 := by decide +kernel
theorem sm_tr : ∀ {t : Tr}, t.Ok → Sm (2200 * t.size) (t.size + 3) t.dat
  | .it, _ => ((SmL.cons (w := 8) (k := 3) ((sm_str (w := 8) (by decide +kernel) (by decide +kernel)).mono (Nat.le_refl _) (by decide)) SmL.nil).tup).mono (by decide) (by decide)
  | .src z, o => by
    refine ((SmL.cons (w := 8) (k := 3) ((sm_str (w := 8) (by decide +kernel) (by decide +kernel)).mono (Nat.le_refl _) (by decide)) (SmL.cons (w := 8) ((sm_str (fun c hc => low_16 (o.2.2.1 c hc)) o.2.1).mono (Nat.le_refl _) (by decide)) SmL.nil)).tup).mono (show 8 + 1 + (8 + 1 + 0) ≤ 2200 * 1 by decide) (show 3 + 1 ≤ 1 + 3 by decide)
  | .op0 w as, ⟨⟨ks, o⟩, _⟩ => by
    have l : as.length ≤ 3 := sigs_len o
    obtain ⟨w1, w2⟩ := sig_sm _ o.1
    have w1 : ∀ c ∈ w.cps.toList, c < 16 ^ 8 := w1
    have w2 : w.length ≤ 8 := w2
    have h := (SmL.cons ((sm_str w1 w2).mono (Nat.le_refl _) (by omega)) (sm_args o.2 0 l)).tup
    exact h.mono (show _ ≤ 2200 * 1 by omega) (show _ ≤ 1 + 3 by omega)
  | .op1 w as t, ⟨⟨⟨ks, o⟩, _⟩, ot⟩ => by
    have l : as.length ≤ 3 := sigs_len o
    obtain ⟨w1, w2⟩ := sig_sm _ o.1
    have w1 : ∀ c ∈ w.cps.toList, c < 16 ^ 8 := w1
    have w2 : w.length ≤ 8 := w2
    have ht := sm_tr ot
    have h := (SmL.cons ((sm_str w1 w2).mono (Nat.le_refl _) (by omega)) (SmL.app (sm_args o.2 t.size l) (SmL.cons ht SmL.nil))).tup
    exact h.mono (show _ ≤ 2200 * (1 + t.size) by omega) (show _ ≤ 1 + t.size + 3 by omega)
  | .op2 w as t u, ⟨⟨⟨ks, o⟩, _⟩, ot, ou⟩ => by
    have l : as.length ≤ 3 := sigs_len o
    obtain ⟨w1, w2⟩ := sig_sm _ o.1
    have w1 : ∀ c ∈ w.cps.toList, c < 16 ^ 8 := w1
    have w2 : w.length ≤ 8 := w2
    have ht := (sm_tr ot).mono (Nat.le_refl _) (show t.size + 3 ≤ (t.size + u.size) + 3 by omega)
    have hu := (sm_tr ou).mono (Nat.le_refl _) (show u.size + 3 ≤ (t.size + u.size) + 3 by omega)
    have h := (SmL.cons ((sm_str w1 w2).mono (Nat.le_refl _) (by omega)) (SmL.app (sm_args o.2 (t.size + u.size) l) (SmL.cons ht (SmL.cons hu SmL.nil)))).tup
    exact h.mono (show _ ≤ 2200 * (1 + (t.size + u.size)) by omega) (show _ ≤ 1 + (t.size + u.size) + 3 by omega)
/-! ### on the heap -/
theorem ent_dp {K : PySem.W.Frag} {H : Hp} {e : Ent} {x : V} : EntAt H e x → Dp K H x e.dat := fun ⟨t, p, q, e1, e2, e3, e4⟩ => by
  subst e1
  exact .tup (SqT.of e2) (.cons (.tup (SqT.of e3) (.cons (.int _) (.cons (.str _) .nil))) (.cons (.tup (SqT.of e4) (.cons (.int _) (.cons (.str _) .nil))) .nil))
theorem paired_dp {α : Type} {K : PySem.W.Frag} {H : Hp} {F : α → V → Prop} {f : α → PyData} (h : ∀ a x, F a x → Dp K H x (f a)) : ∀ {as : List α} {xs : List V}, Paired F as xs → DpAll K H xs (as.map f)
  | _, _, .nil => .nil
  | _, _, .cons a as => .cons (h _ _ a) (paired_dp h as)
theorem DpAll.app {K : PySem.W.Frag} {H : Hp} : ∀ {xs ys : List V} {ds es : List PyData}, DpAll K H xs ds → DpAll K H ys es → DpAll K H (xs ++ ys) (ds ++ es)
  | _, _, _, _, .nil, h => h
  | _, _, _, _, .cons a as, h => .cons a (DpAll.app as h)
theorem lets_dp {K : PySem.W.Frag} {H : Hp} : ∀ cs : List Nat, DpAll K H (letV cs) (cs.map fun c => .str (S [c]))
  | [] => .nil
  | c :: cs => .cons (.str _) (lets_dp cs)
theorem ar_dp {K : PySem.W.Frag} {H : Hp} : ∀ {a : Ar} {v : V}, ArAt H a v → Dp K H v a.dat
  | .num n, _, h => h ▸ .int _
  | .ltr c, _, h => h ▸ .str _
  | .lets cs, _, ⟨a, h1, h2⟩ => h1 ▸ .tup (SqT.of h2) (lets_dp cs)
  | .places ps, _, ⟨a, h1, h2⟩ => h1 ▸ .tup (SqT.of h2) (numV_dp ps)
  | .table es, _, ⟨a, xs, h1, h2, h3⟩ => h1 ▸ .tup (SqT.of h2) (paired_dp (f := Ent.dat) (fun _ _ => ent_dp) h3)
theorem tr_dp {K : PySem.W.Frag} {H : Hp} : ∀ {t : Tr} {v : V}, TrAt H t v → Dp K H v t.dat
  | .it, _, ⟨a, h1, h2⟩ => h1 ▸ .tup (SqT.of h2) (.cons (.str _) .nil)
  | .src z, _, ⟨a, h1, h2⟩ => h1 ▸ .tup (SqT.of h2) (.cons (.str _) (.cons (.str _) .nil))
  | .op0 w as, _, ⟨a, xs, h1, h2, h3⟩ => h1 ▸ .tup (SqT.of h2) (.cons (.str _) (paired_dp (f := Ar.dat) (fun _ _ => ar_dp) h3))
  | .op1 w as t, _, ⟨a, xs, x, h1, h2, h3, h4⟩ => h1 ▸ .tup (SqT.of h2) (.cons (.str _) (DpAll.app (paired_dp (f := Ar.dat) (fun _ _ => ar_dp) h3) (.cons (tr_dp h4) .nil)))
  | .op2 w as t u, _, ⟨a, xs, x, y, h1, h2, h3, h4, h5⟩ => h1 ▸ .tup (SqT.of h2) (.cons (.str _) (DpAll.app (paired_dp (f := Ar.dat) (fun _ _ => ar_dp) h3) (.cons (tr_dp h4) (.cons (tr_dp h5) .nil))))
/-- what repr asks -/
theorem tr_shown {t : Tr} (o : t.Ok) (h : t.size ≤ 12) : t.dat.showable = true ∧ t.dat.hasDict = false ∧ t.dat.depth ≤ 60 ∧ t.dat.shown.length ≤ sizeLine := by
  have q := sm_tr o
  have l := PyData.shown_le 64 (by decide) _ q.lv
  have w := q.wt
  have d := q.dp
  refine ⟨q.sh, q.nd, by omega, ?_⟩
  have : (64 + 2) * t.dat.weight ≤ 66 * 26400 := Nat.mul_le_mul (Nat.le_refl _) (by omega)
  have e : (2000000 : Nat) ≤ sizeLine := by decide
  omega
end Wd

set_option Elab.async false
set_option linter.all false
set_option maxRecDepth 100000
set_option maxHeartbeats 4000000
set_option pp.maxSteps 400
set_option pp.deepTerms false
namespace Wd
open PySem L2 TL
open SX (S)

theorem BagAt.same {B : Addr} {H H' : Hp} (b : BagAt H B) (s : Same H H') : BagAt H' B := by
  obtain ⟨x, y, z, e⟩ := b
  exact ⟨x, y, z, s _ _ e⟩
section
variable {P : Program} {w : World} {K : PySem.W.Frag} {mg : Str → Option Value} {base : Heap} {fT fP fN fF fA : Addr} {dT dP dN dF dA : FuncData}
abbrev nTreeT : List Str := ["bag", "size", "many", "name", "word", "codes", "sizes", "first", "found", "words", "code", "pair", "row"]
theorem scTreeT : FnScope nTreeT ["bag", "size"] (defScope sTreeText) := ⟨rfl, rfl, rfl, by decide +kernel, rfl, by decide +kernel, by decide +kernel⟩
theorem ok_tree_text {f : Addr} {fd : FuncData} (F : Fun K "_law_tree_text" "_law_tree_text" sTreeText f fd) (X : NTxt mg) (M : MTxt mg) (G : GTxt mg fT fP) (m : mg "_law_tree_text" = some (.ref f)) (bd : Binds K fd ["bag", "size"] []) (T : At P w K mg base 1 "_law_throw" fT dT ["bag", "total"] spThrow)
    (GL : FnOk P w K mg base CX0 2 fP dP ["bag", "items"] spPickL) (kP : PySem.W.keepIn K (.ref fP) = true) (bP : Binds K dP ["bag", "items"] []) (N : At P w K mg base 3 "_law_name" fN dN ["bag", "used"] spName) (FF : At P w K mg base 1 "_law_forms" fF dF [] spForms)
    (A : At P w K mg base 5 "_law_argument_text" fA dA ["bag", "code"] spArgT) : ∀ n, FnOk P w K mg base CX0 (n + 6) f fd ["bag", "size"] (spTreeT n)
  | 0 => F.ok scTreeT (fun vs H Q E ⟨B, z, h, _⟩ => by rw [h]; rfl) fun cdv Ao outer s H vs Q E hr ⟨B, z, _, _, z1, z0, _⟩ => absurd z1 (by omega)
  | n + 1 => by
    have GT := ok_tree_text F X M G m bd T GL kP bP N FF A n
    refine F.ok scTreeT (fun vs H Q E h => ?_) (fun cdv Ao outer s H vs Q E hr h => ?_)
    · obtain ⟨B, z, rfl, _⟩ := h
      rfl
    · obtain ⟨B, z, rfl, hB, z1, zn, n12, q⟩ := h
      have nd := scTreeT.nd
      have hr1 : Room 1 _ := hr.mono (by omega)
      have hr2 : Room 2 _ := hr.mono (by omega)
      have hr3 : Room 3 _ := hr.mono (by omega)
      have hr5 : Room 5 _ := hr.mono (by omega)
      refine ⟨_, pss_cons (ps_set (i := 2) nd rfl (Or.inr rfl) (pe_callB (call_min2 rfl) (by rfl) M.min (by decide +kernel) (pa_cons (pe_op op_sub (pv 1) pe_int) (pa_cons (pe_call GL hr2 rfl G.pick kP bP .nil pass0 (pa_cons (pv 0) (pa_cons (pe_lst (pa_cons pe_int (pa_cons pe_int (pa_cons pe_int (pa_cons pe_int (pa_cons pe_int (pa_cons pe_int pa_nil)))))) ) pa_nil))) pa_nil))))
        (pss_cons (ps_set (i := 3) nd rfl (Or.inl rfl) (pe_call N.g hr3 rfl N.m N.kp N.b .nil pass0 (pa_cons (pv 0) (pa_cons (pe_lst pa_nil) pa_nil))))
        (pss_cons (ps_if (PW.pt (pw_and (pt_cmpR op_eq (pv 2) pe_int (nomark _)) (pw_and1 (pt_cmpR op_gt (pe_call T.g hr1 rfl T.m T.kp T.b .nil pass0 (pa_cons (pv 0) (pa_cons pe_int pa_nil))) pe_int (nomark _)))))
          (pss_one (ps_ret (pe_call GL hr2 rfl G.pick kP bP .nil pass0 (pa_cons (pv 0) (pa_cons (pe_lst (pa_cons (pe_tup (pa_cons (pe_tup (pa_cons pe_str pa_nil)) (pa_cons pe_str pa_nil))) (pa_cons (pe_tup (pa_cons (pe_tup (pa_cons pe_str (pa_cons (pv 3) pa_nil))) (pa_cons (pv 3) pa_nil))) (pa_cons (pe_tup (pa_cons (pe_tup (pa_cons pe_str (pa_cons (pv 3) pa_nil))) (pa_cons (pv 3) pa_nil))) pa_nil)))) pa_nil))))) pss_nil)
        (pss_cons (ps_asg (pe_call GL hr2 rfl G.pick kP bP .nil pass0 (pa_cons (pv 0) (pa_cons (pe_lc (own := [("row", 12)]) (g := gName 12) rfl nd (pi_list (pe_call0 FF.g hr1 rfl FF.m FF.kp FF.b .nil pass0)) (blkOk_by (N := nTreeT) (sc := defScope sTreeText) (by decide +kernel)) (fun _ _ _ _ _ => pg_name (i := 12) nd rfl (Or.inl rfl))
            (fun _ _ _ _ _ => pts_one (pt_cmpR op_eq (pe_m1 PySem.F.slot_str_count PySem.F.type_str_count mt_count (pe_ix (r := rIxT K) ix_tup (pv 12) pe_int (fun _ _ => rfl)) pe_str) (pv 2) (nomark _))) (fun _ _ _ _ _ => pv 12)) pa_nil))) (pg_tup rfl (pgs_cons (pg_name (i := 4) nd rfl (Or.inl rfl)) (pgs_cons (pg_name (i := 5) nd rfl (Or.inl rfl)) pgs_nil))))
        (pss_cons (ps_set (i := 6) nd rfl (Or.inl rfl) (pe_lst (pa_cons (pe_op op_sub (pv 1) pe_int) pa_nil)))
        (pss_cons (ps_if (pt_cmpR op_eq (pv 2) pe_int (nomark _)) (pss_cons (ps_set (i := 7) nd rfl (Or.inl rfl) (pe_op op_add pe_int (pe_call T.g hr1 rfl T.m T.kp T.b .nil pass0 (pa_cons (pv 0) (pa_cons (pe_op op_sub (pv 1) pe_int) pa_nil)))))
            (pss_one (ps_set (i := 6) nd rfl (Or.inl rfl) (pe_lst (pa_cons (pv 7) (pa_cons (pe_op op_sub (pe_op op_sub (pv 1) pe_int) (pv 7)) pa_nil)))))) pss_nil)
        (pss_cons (ps_par (i := 8) (j := 9) (by rfl) nd rfl rfl (by decide) rfl rfl (pa_cons (pe_lst (pa_cons (pv 4) pa_nil)) (pa_cons (pe_lst (pa_cons (pv 4) pa_nil)) pa_nil)) rfl)
        (pss_cons (ps_for PassesOwn.never rfl (pi_str (pv 5)) (pg_name (i := 10) nd rfl (Or.inl rfl))
          (pss_cons (ps_set (i := 11) nd rfl (Or.inl rfl) (pe_ifExp (pt_cmpR op_eq (pv 10) pe_str (nomark _)) (pe_call GT hr rfl m F.kp bd .nil pass0 (pa_cons (pv 0) (pa_cons (pe_bm PySem.F.plainAttrs_list PySem.F.slot_list_pop PySem.F.type_list_pop mt_popAt (pv 6) (pa_cons pe_int pa_nil)) pa_nil)))
              (pe_call A.g hr5 rfl A.m A.kp A.b .nil pass0 (pa_cons (pv 0) (pa_cons (pv 10) pa_nil)))))
          (pss_cons (ps_expr (pe_bm PySem.F.plainAttrs_list PySem.F.slot_list_append PySem.F.type_list_append mt_append (pv 8) (pa_cons (pe_ix ix_tup (pv 11) pe_int (fun _ _ => rfl)) pa_nil)))
          (pss_one (ps_expr (pe_bm PySem.F.plainAttrs_list PySem.F.slot_list_append PySem.F.type_list_append mt_append (pv 9) (pa_cons (pe_ix ix_tup (pv 11) pe_int (fun _ _ => rfl)) pa_nil)))))))
        (pss_one (ps_ret (pe_tup (pa_cons (pe_callTy call_tuple_of (by rfl) X.tup (by decide +kernel) (pa_cons (pv 8) pa_nil)) (pa_cons (pe_op op_add_str (pe_op op_add_str pe_str (pe_join pe_str (pv 9))) pe_str) pa_nil)))))))))))), ?_⟩
      refine ⟨_, rfl, _, _, rfl, rfl, _, rfl, by show 6 ≤ sizeLine; decide, fun l hl => ?_⟩
      refine ⟨B, l, _, rfl, hB.new hl, (hB.ne hl).symm, upd_same, by show 0 < 6; decide, by show 6 ≤ 100; decide, fun y H1 hy s1 b1 => ?_⟩
      have s1' : SB B H H1 := fun b o n e => s1 b o n (by rw [upd_ne (ne_of_none e hl)]; exact e)
      obtain ⟨m0, rfl, m2⟩ : ∃ m0 : Nat, y = .int m0 ∧ m0 ≤ 2 := by
        simp only [List.mem_cons, List.not_mem_nil, or_false] at hy
        rcases hy with rfl | rfl | rfl | rfl | rfl | rfl
        · exact ⟨0, rfl, by decide⟩
        · exact ⟨1, rfl, by decide⟩
        · exact ⟨1, rfl, by decide⟩
        · exact ⟨2, rfl, by decide⟩
        · exact ⟨2, rfl, by decide⟩
        · exact ⟨2, rfl, by decide⟩
      refine ⟨_, _, rfl, ?_⟩
      obtain ⟨mm, em, mz, mle⟩ : ∃ mm : Nat, (if (m0 : Int) < (z : Int) - 1 then (m0 : Int) else (z : Int) - 1) = (mm : Int) ∧ mm + 1 ≤ z ∧ mm ≤ 2 := by
        split
        · exact ⟨m0, rfl, by omega, m2⟩
        · exact ⟨z - 1, by omega, by omega, by omega⟩
      rw [em]
      refine ⟨_, rfl, by show 0 ≤ sizeLine; decide, fun l2 hl2 => ?_⟩
      refine ⟨B, l2, [], rfl, b1.new hl2, upd_same, fun nm H2 hn s2 b2 => ?_⟩
      have s2' : SB B H1 H2 := fun b o n e => s2 b o n (by rw [upd_ne (ne_of_none e hl2)]; exact e)
      have s12 := s1'.trans s2'
      dsimp only [gName]
      refine join_if (Good := fun σ' H' => σ' = [some (.ref B), some (.int z), some (.int mm), some (.str nm), none, none, none, none, none, none, none, none, none] ∧ SB B H H' ∧ BagAt H' B) (fun nxt hnx => ?_) ?_
      · refine ⟨_, rfl, rfl, _, rfl, ?_⟩
        by_cases h0 : mm = 0
        · rw [decide_eq_true (show V.int (mm : Int) = V.int 0 by rw [h0]; rfl)]
          refine iteT ⟨_, rfl, B, 3, rfl, b2, by decide, by decide +kernel, fun r H3 r0 r1 s3 b3 => ?_⟩
          refine ⟨_, _, rfl, rfl, _, rfl, ?_⟩
          by_cases hr0 : r > 0
          · rw [decide_eq_true hr0]
            refine iteT ⟨_, rfl, by show 1 ≤ sizeLine; decide, fun p1 hp1 => ⟨by show 2 ≤ sizeLine; decide, fun p2 hp2 => ?_⟩⟩
            have n1 := same_new (o := .tup [.str (Str.ofString "it")]) hp1
            have e1 : (upd H3 p1 (.tup [.str (Str.ofString "it")])) p1 = some (.tup [.str (Str.ofString "it")]) := upd_same
            generalize upd H3 p1 (.tup [.str (Str.ofString "it")]) = J1 at n1 e1 hp2
            have n2 := same_new (o := .tup [.ref p1, .str (Str.ofString "it")]) hp2
            have e2 : (upd J1 p2 (.tup [.ref p1, .str (Str.ofString "it")])) p2 = some (.tup [.ref p1, .str (Str.ofString "it")]) := upd_same
            generalize upd J1 p2 (.tup [.ref p1, .str (Str.ofString "it")]) = J2 at n2 e2
            refine ⟨_, rfl, by show 2 ≤ sizeLine; decide, fun p3 hp3 => ⟨_, rfl, by show 2 ≤ sizeLine; decide, fun p4 hp4 => ?_⟩⟩
            have n3 := same_new (o := .tup [.str (Str.ofString "source"), .str nm]) hp3
            have e3 : (upd J2 p3 (.tup [.str (Str.ofString "source"), .str nm])) p3 = some (.tup [.str (Str.ofString "source"), .str nm]) := upd_same
            generalize upd J2 p3 (.tup [.str (Str.ofString "source"), .str nm]) = J3 at n3 e3 hp4
            have n4 := same_new (o := .tup [.ref p3, .str nm]) hp4
            have e4 : (upd J3 p4 (.tup [.ref p3, .str nm])) p4 = some (.tup [.ref p3, .str nm]) := upd_same
            generalize upd J3 p4 (.tup [.ref p3, .str nm]) = J4 at n4 e4
            refine ⟨_, rfl, by show 2 ≤ sizeLine; decide, fun p5 hp5 => ⟨_, rfl, by show 2 ≤ sizeLine; decide, fun p6 hp6 => ?_⟩⟩
            have n5 := same_new (o := .tup [.str (Str.ofString "source"), .str nm]) hp5
            have e5 : (upd J4 p5 (.tup [.str (Str.ofString "source"), .str nm])) p5 = some (.tup [.str (Str.ofString "source"), .str nm]) := upd_same
            generalize upd J4 p5 (.tup [.str (Str.ofString "source"), .str nm]) = J5 at n5 e5 hp6
            have n6 := same_new (o := .tup [.ref p5, .str nm]) hp6
            have e6 : (upd J5 p6 (.tup [.ref p5, .str nm])) p6 = some (.tup [.ref p5, .str nm]) := upd_same
            generalize upd J5 p6 (.tup [.ref p5, .str nm]) = J6 at n6 e6
            refine ⟨by show 3 ≤ sizeLine; decide, fun lq hlq => ?_⟩
            have n7 := same_new (o := .lst [.ref p2, .ref p4, .ref p6]) hlq
            have e7 : (upd J6 lq (.lst [.ref p2, .ref p4, .ref p6])) lq = some (.lst [.ref p2, .ref p4, .ref p6]) := upd_same
            have nn := n1.trans (n2.trans (n3.trans (n4.trans (n5.trans n6))))
            have b6 : BagAt J6 B := by
              obtain ⟨x, y, w, e⟩ := b3
              exact ⟨x, y, w, nn _ _ e⟩
            have b7 := b6.new (o := .lst [.ref p2, .ref p4, .ref p6]) hlq
            have nlB := b6.ne hlq
            generalize upd J6 lq (.lst [.ref p2, .ref p4, .ref p6]) = J7 at n7 e7 b7
            refine ⟨B, lq, _, rfl, b7, nlB.symm, e7, by show 0 < 3; decide, by show 3 ≤ 100; decide, fun y H4 hy s4 b4 => ?_⟩
            have tk : TK J7 H4 := s4.tk b7
            have sAll : SB B H H4 := ((s12.trans s3).trans (SB.of (nn.trans n7))).trans s4
            simp only [List.mem_cons, List.not_mem_nil, or_false] at hy
            rcases hy with rfl | rfl | rfl
            · refine q H4 p2 .it (.ref p1) trivial z1 ⟨p1, rfl, tk _ _ ((n2.trans (n3.trans (n4.trans (n5.trans (n6.trans n7))))) _ _ e1)⟩ ?_ sAll b4
              exact tk _ _ ((n3.trans (n4.trans (n5.trans (n6.trans n7)))) _ _ e2)
            · refine q H4 p4 (.src nm) (.ref p3) hn z1 ⟨p3, rfl, tk _ _ ((n4.trans (n5.trans (n6.trans n7))) _ _ e3)⟩ ?_ sAll b4
              have : S (Tr.text (.src nm)) = nm := SX.S_tl nm
              rw [this]
              exact tk _ _ ((n5.trans (n6.trans n7)) _ _ e4)
            · refine q H4 p6 (.src nm) (.ref p5) hn z1 ⟨p5, rfl, tk _ _ ((n6.trans n7) _ _ e5)⟩ ?_ sAll b4
              have : S (Tr.text (.src nm)) = nm := SX.S_tl nm
              rw [this]
              exact tk _ _ (n7 _ _ e6)
          · rw [decide_eq_false hr0]
            exact iteF (hnx _ _ ⟨rfl, s12.trans s3, b3⟩)
        · rw [decide_eq_false (show V.int (mm : Int) ≠ V.int 0 from fun e => h0 (by injection e with e; exact Int.ofNat.inj e))]
          exact iteF (hnx _ _ ⟨rfl, s12, b2⟩)
      · rintro σ' H3 ⟨rfl, s3, b3⟩
        clear s1 s1' s2 s2' s12 b1 b2 hl hl2 hy
        have f0 := forms_some mm mle
        refine ⟨_, rfl, rfl, fun H4 L xs s4 hL eL pf => ?_⟩
        refine ⟨L, rfl, ⟨_, SqL.of eL⟩, fun D hD => ?_⟩
        have lx := pf.length
        have nDB : D ≠ B := (b3.same s4).ne hD
        refine lc_it (n := xs.length) (walk_list (K := K) (xs := xs) (a := L)) (fun i H' => Same H4 H' ∧ ∃ ys, H' D = some (.lst ys) ∧ Paired (FormAt H') ((forms.take i).filter fun r => partsOf r == mm) ys) ⟨same_new hD, [], upd_same, .nil⟩ (fun _ _ _ ⟨s, _⟩ => SqL.of (s _ _ eL)) ?_ ?_
        · rintro i x H5 H' hi ⟨s5, ys, e5, p5⟩ ⟨rfl, hx⟩
          have hif : i < forms.length := by omega
          obtain ⟨t, rfl, et⟩ := paired_get pf (List.getElem?_eq_getElem hif) hx
          have hm := List.getElem_mem hif
          have ec : Txt.count (S forms[i].2) (Str.ofString "P") = ((partsOf forms[i] : Nat) : Int) := forms_count _ hm
          have tk1 : (forms.take (i + 1)).filter (fun r => partsOf r == mm) = (forms.take i).filter (fun r => partsOf r == mm) ++ if partsOf forms[i] == mm then [forms[i]] else [] := by
            rw [List.take_add_one, List.getElem?_eq_getElem hif, List.filter_append]
            congr 1
            show List.filter _ [forms[i]] = _
            rw [List.filter_cons, List.filter_nil]
          refine ⟨rfl, _, rfl, t, _, _, _, rfl, rfl, SqT.of (s5 _ _ et), atI_nat (j := 1) rfl, ⟨_, rfl⟩, _, _, rfl, rfl, _, rfl, rfl, _, rfl, ?_⟩
          rw [ec]
          by_cases hp : partsOf forms[i] = mm
          · rw [decide_eq_true (show V.int ((partsOf forms[i] : Nat) : Int) = V.int mm by rw [hp])]
            rw [if_pos (by simpa using hp)] at tk1
            have ll := p5.length
            have lf := List.length_filter_le (fun r => partsOf r == mm) (forms.take i)
            have lt : (forms.take i).length ≤ i := List.length_take_le _ _
            have l23 : forms.length = 23 := by decide +kernel
            have past : Same H4 (upd H' D (.lst (ys ++ [.ref t]))) := fun b o e => by
              rw [upd_ne (ne_of_none e hD)]
              exact s5 b o e
            refine iteT ⟨_, rfl, ys, e5, small1000 (by omega), past, _, upd_same, ?_⟩
            rw [tk1]
            have tk6 : TK H' (upd H' D (.lst (ys ++ [.ref t]))) := TK.lst e5
            exact paired_app (paired_mono (fun _ _ => FormAt.mono tk6) p5) (.cons ⟨t, rfl, tk6 _ _ (s5 _ _ et)⟩ .nil)
          · rw [decide_eq_false (show V.int ((partsOf forms[i] : Nat) : Int) ≠ V.int mm from fun e => hp (by injection e with e; exact Int.ofNat.inj e))]
            rw [if_neg (by simpa using hp), List.append_nil] at tk1
            refine iteF ⟨s5, ys, e5, ?_⟩
            rw [tk1]
            exact p5
        · rintro H5 ⟨s5, ys, e5, p5⟩
          rw [List.take_of_length_le (by omega)] at p5
          have ll := p5.length
          have b5 : BagAt H5 B := b3.same (s4.trans s5)
          have f1 := List.length_pos_iff.mpr f0.1
          have f2 := f0.2
          refine ⟨B, D, ys, rfl, b5, nDB.symm, e5, by omega, by omega, fun y H6 hy s6 b6 => ?_⟩
          obtain ⟨r, hr, t, rfl, et⟩ := paired_mem p5 y hy
          obtain ⟨hrf, hrm⟩ := List.mem_filter.mp hr
          have hrm : partsOf r = mm := by simpa using hrm
          have et := (s6.tk b5) _ _ et
          have s36 : SB B H H6 := (s3.trans (SB.of (s4.trans s5))).trans s6
          have fk := forms_kinds r hrf
          have fs := forms_sig r hrf
          clear s4 s5 s6 b5 e5 p5 hy ll hL eL pf hD nDB f0 f1 f2 lx
          refine ⟨t, _, rfl, SqT.of et, rfl, _, _, rfl, _, _, rfl, rfl, ?_⟩
          dsimp only
          refine ⟨_, rfl, _, _, rfl, rfl, by show 1 ≤ sizeLine; decide, fun pS hS => ?_⟩
          have nSB := b6.ne hS
          have gone : ∀ {a : Addr}, a ≠ B → H6 a = none → H a = none := fun {a} n h => by
            cases e : H a with
            | none => rfl
            | some o => rw [s36 _ _ n e] at h; cases h
          have hS0 := gone nSB hS
          have b7 := b6.new (o := .lst [.int ((z : Int) - 1)]) hS
          have s37 : SB B H (upd H6 pS (.lst [.int ((z : Int) - 1)])) := s36.trans (SB.of (same_new hS))
          have e7 : (upd H6 pS (.lst [.int ((z : Int) - 1)])) pS = some (.lst (numV [z - 1])) := by
            rw [upd_same, show (z : Int) - 1 = ((z - 1 : Nat) : Int) by omega]
            rfl
          generalize upd H6 pS (.lst [.int ((z : Int) - 1)]) = H7 at b7 s37 e7
          clear s36 b6 et gone hS
          dsimp only [gName]
          refine join_if (Good := fun σ' H' => ∃ (v7 : Option V) (pS : Addr) (ss : List Nat), σ' = [some (.ref B), some (.int z), some (.int mm), some (.str nm), some (.str (S r.1)), some (.str (S r.2)), some (.ref pS), v7, none, none, none, none, none] ∧ SB B H H' ∧ BagAt H' B ∧
            H' pS = some (.lst (numV ss)) ∧ pS ≠ B ∧ H pS = none ∧ ss.sum + 1 = z ∧ mm ≤ ss.length ∧ (0 < mm → ∀ s ∈ ss, 1 ≤ s)) (fun nxt hnx => ?_) ?_
          · refine ⟨_, rfl, rfl, _, rfl, ?_⟩
            by_cases h2 : mm = 2
            · rw [decide_eq_true (show V.int (mm : Int) = V.int 2 by rw [h2]; rfl)]
              refine iteT ⟨_, rfl, _, rfl, _, _, rfl, rfl, B, _, rfl, b7, by omega, Int.le_trans (by omega : (z : Int) - 2 ≤ 12) (by decide +kernel), fun r8 H8 r0 r1 s8 b8 => ?_⟩
              refine ⟨_, _, rfl, rfl, ?_⟩
              refine ⟨_, rfl, _, rfl, _, _, rfl, rfl, _, rfl, _, _, rfl, rfl, by show 2 ≤ sizeLine; decide, fun pS2 hS2 => ?_⟩
              obtain ⟨k, rfl⟩ := Int.eq_ofNat_of_zero_le r0
              have nSB2 := b8.ne hS2
              have s38 := s37.trans s8
              have hS20 : H pS2 = none := by
                cases e : H pS2 with
                | none => rfl
                | some o => rw [s38 _ _ nSB2 e] at hS2; cases hS2
              refine hnx _ _ ⟨_, pS2, [1 + k, z - 1 - (1 + k)], rfl, s38.trans (SB.of (same_new hS2)), b8.new hS2, ?_, nSB2, hS20, by simp; omega, by show mm ≤ 2; omega, fun h s hs => ?_⟩
              · rw [upd_same]
                show some (HO.lst [V.int (1 + (k : Int)), V.int ((z : Int) - 1 - (1 + (k : Int)))]) = some (HO.lst [V.int ((1 + k : Nat) : Int), V.int ((z - 1 - (1 + k) : Nat) : Int)])
                rw [show (1 : Int) + (k : Int) = ((1 + k : Nat) : Int) by omega, show (z : Int) - 1 - ((1 + k : Nat) : Int) = ((z - 1 - (1 + k) : Nat) : Int) by omega]
              · simp only [List.mem_cons, List.not_mem_nil, or_false] at hs
                rcases hs with rfl | rfl <;> omega
            · rw [decide_eq_false (show V.int (mm : Int) ≠ V.int 2 from fun e => h2 (by injection e with e; exact Int.ofNat.inj e))]
              exact iteF (hnx _ _ ⟨_, pS, [z - 1], rfl, s37, b7, e7, nSB, hS0, by simp; omega, by show mm ≤ 1; omega, fun h s hs => by rw [List.mem_singleton.mp hs]; omega⟩)
          · rintro σ' H8 ⟨v7, pS, ss, rfl, s8, b8, e8, nSB, hS0, sz, sl, sp⟩
            have lc : (S r.2).cps.size = (kindsOf r).length + mm := by
              rw [show (S r.2).cps.size = r.2.length from rfl, fk.1, List.length_append, List.length_map, List.length_replicate, hrm]
            have k3 := fk.2.2.2
            refine ⟨_, rfl, by show 1 ≤ sizeLine; decide, fun pF hF => ⟨_, rfl, by show 1 ≤ sizeLine; decide, fun pW hW => ⟨_, _, rfl, ?_⟩⟩⟩
            have gone : ∀ {a : Addr}, a ≠ B → H8 a = none → H a = none := fun {a} n h => by
              cases e : H a with
              | none => rfl
              | some o => rw [s8 _ _ n e] at h; cases h
            have nFB := b8.ne hF
            have b9 := b8.new (o := .lst [.str (S r.1)]) hF
            have nWB := b9.ne hW
            have nWF : pW ≠ pF := fun e => by rw [e, upd_same] at hW; cases hW
            have hF0 := gone nFB hF
            have hW0 := gone nWB (by rw [upd_ne nWF] at hW; exact hW)
            have nSF : pS ≠ pF := fun e => by rw [← e, e8] at hF; cases hF
            have nSW : pS ≠ pW := fun e => by rw [← e, upd_ne nSF, e8] at hW; cases hW
            have sF := same_new (o := .lst [.str (S r.1)]) hF
            have sW := same_new (o := .lst [.str (S r.1)]) hW
            have b10 := b9.new (o := .lst [.str (S r.1)]) hW
            have s10 := s8.trans (SB.of (sF.trans sW))
            have eS10 := sW _ _ (sF _ _ e8)
            have eF10 := sW _ _ (show (upd H8 pF (.lst [.str (S r.1)])) pF = some (.lst [.str (S r.1)]) from upd_same)
            have eW10 : (upd (upd H8 pF (.lst [.str (S r.1)])) pW (.lst [.str (S r.1)])) pW = some (.lst [.str (S r.1)]) := upd_same
            generalize upd (upd H8 pF (.lst [.str (S r.1)])) pW (.lst [.str (S r.1)]) = H10 at b10 s10 eS10 eF10 eW10
            clear sF sW b9 hF hW gone b8 s8 e8
            refine ⟨_, rfl, _, rfl, ?_⟩
            refine for_it (n := (S r.2).cps.size) (walk_str (z := S r.2)) (fun i σ H' => ∃ v7 v10 v11 : Option V, σ = [some (.ref B), some (.int z), some (.int mm), some (.str nm), some (.str (S r.1)), some (.str (S r.2)), some (.ref pS), v7, some (.ref pF), some (.ref pW), v10, v11, none] ∧ SB B H H' ∧ BagAt H' B ∧
              ∃ (as : List Ar) (ts : List Tr) (xs ys : List V), as.length + ts.length = i ∧ H' pS = some (.lst (numV (ss.drop ts.length))) ∧ H' pF = some (.lst (.str (S r.1) :: (xs ++ ys))) ∧ H' pW = some (.lst (wV (r.1 :: (as.map Ar.text ++ ts.map Tr.text)))) ∧ Paired (ArAt H') as xs ∧ Paired (TrAt H') ts ys ∧
              Paired Ar.Ok ((kindsOf r).take i) as ∧ (∀ t ∈ ts, t.Ok) ∧ (ts.map Tr.size).sum + (ss.drop ts.length).sum + 1 ≤ z)
              ⟨_, _, _, rfl, s10, b10, [], [], [], [], rfl, eS10, eF10, eW10, .nil, .nil, .nil, (fun t h => nomatch h), by show 0 + ss.sum + 1 ≤ z; omega⟩ (fun _ _ _ _ _ => trivial) ?_ ?_
            · rintro i x σ H11 H' hi ⟨v7, v10, v11, rfl, s11, b11, as, ts, xs, ys, li, eS, eF, eW, pa, pt, po, ot, le⟩ ⟨rfl, c, hc, rfl⟩
              have la := po.length
              rw [List.length_take] at la
              have lxx := pa.length
              have lyy := pt.length
              have hc2 : ((kindsOf r).map codeOf ++ List.replicate mm 80)[i]? = some c := by
                rw [← hrm, ← fk.1]
                simpa [S] using hc
              by_cases hik : i < (kindsOf r).length
              · rw [List.getElem?_append_left (by rw [List.length_map]; exact hik), List.getElem?_map, List.getElem?_eq_getElem hik] at hc2
                have hc2 : codeOf (kindsOf r)[i] = c := by injection hc2
                have kn := fk.2.2.1 _ (List.getElem_mem hik)
                have t0 : ts = [] := List.eq_nil_of_length_eq_zero (by omega)
                subst t0
                subst hc2
                have np : V.str ⟨#[codeOf (kindsOf r)[i]]⟩ ≠ V.str (Str.ofString "P") := fun e => code_ne (kindsOf r)[i] (by
                  have e2 : S [codeOf (kindsOf r)[i]] = S [80] := by injection e
                  exact List.cons.inj (SX.S_inj e2) |>.1)
                refine ⟨_, rfl, rfl, _, rfl, ?_⟩
                rw [decide_eq_false np]
                refine iteF ⟨_, rfl, _, rfl, B, (kindsOf r)[i], rfl, kn, b11, fun H12 p a x oa aA ep s12 b12 => ?_⟩
                have tk12 := s12.tk b11
                have eS12 := s12 _ _ nSB eS
                have eF12 := s12 _ _ nFB eF
                have eW12 := s12 _ _ nWB eW
                rw [show xs ++ ys = xs by cases pt; exact List.append_nil _] at eF12
                rw [List.map_nil, List.append_nil] at eW12
                refine ⟨_, rfl, .inl ⟨rfl, _, SqL.of eF12⟩, _, rfl, p, _, _, _, rfl, rfl, SqT.of ep, atI_nat (j := 0) rfl, pF, _, x, rfl, rfl, eF12, small1000 (by rw [List.length_cons]; omega), ?_⟩
                have tkF : TK H12 (upd H12 pF (.lst (.str (S r.1) :: xs ++ [x]))) := TK.lst eF12
                have eW13 : (upd H12 pF (.lst (.str (S r.1) :: xs ++ [x]))) pW = some (.lst (wV (r.1 :: as.map Ar.text))) := by
                  rw [upd_ne nWF]
                  exact eW12
                refine ⟨_, rfl, .inl ⟨rfl, _, SqL.of eW13⟩, _, rfl, p, _, _, _, rfl, rfl, SqT.of (tkF _ _ ep), atI_nat (j := 1) rfl, pW, _, .str (S a.text), rfl, rfl, eW13, small1000 (by rw [wV_len, List.length_cons, List.length_map]; omega), ?_⟩
                have tkW : TK (upd H12 pF (.lst (.str (S r.1) :: xs ++ [x]))) (upd (upd H12 pF (.lst (.str (S r.1) :: xs ++ [x]))) pW (.lst (wV (r.1 :: as.map Ar.text) ++ [.str (S a.text)]))) := TK.lst eW13
                have tkA := tkF.trans tkW
                refine ⟨_, _, _, rfl, ((s11.trans s12).own hF0).own hW0, (b12.other (Ne.symm nFB)).other (Ne.symm nWB), as ++ [a], [], xs ++ [x], [], ?_, ?_, ?_, ?_, paired_app (paired_mono (fun _ _ => ArAt.mono (tk12.trans tkA)) pa) (.cons (aA.mono tkA) .nil), .nil, ?_, (fun t h => nomatch h), le⟩
                · rw [List.length_append, List.length_singleton]
                  show as.length + 1 + 0 = i + 1
                  have : ([] : List Tr).length = 0 := rfl
                  omega
                · rw [upd_ne nSW, upd_ne nSF]
                  exact eS12
                · rw [upd_ne (Ne.symm nWF), upd_same, List.append_nil]
                  rfl
                · rw [upd_same, List.map_append, List.map_nil, List.append_nil]
                  unfold wV
                  rw [← List.cons_append, List.map_append]
                  rfl
                · rw [List.take_add_one, List.getElem?_eq_getElem hik]
                  exact paired_app po (.cons oa .nil)
              · have lt1 : ts.length < mm := by omega
                rw [List.getElem?_append_right (by rw [List.length_map]; omega), List.length_map, List.getElem?_eq_getElem (by rw [List.length_replicate]; omega), List.getElem_replicate] at hc2
                have hc2 : 80 = c := by injection hc2
                subst hc2
                have hts : ts.length < ss.length := by omega
                have dr : ss.drop ts.length = ss[ts.length] :: ss.drop (ts.length + 1) := List.drop_eq_getElem_cons hts
                have s1s := sp (by omega) _ (List.getElem_mem hts)
                rw [dr] at eS le
                rw [List.sum_cons] at le
                refine ⟨_, rfl, rfl, _, rfl, ?_⟩
                rw [decide_eq_true (show V.str ⟨#[80]⟩ = V.str (Str.ofString "P") from rfl)]
                refine iteT ⟨_, rfl, _, rfl, .inl ⟨rfl, _, SqL.of eS⟩, pS, _, 0, 0, .int ((ss[ts.length] : Nat) : Int), rfl, rfl, eS, by decide, by decide, ?_, rfl, ?_⟩
                · show seqIndex? 0 ((numV (ss.drop (ts.length + 1))).length + 1) = some 0
                  unfold seqIndex?
                  simp
                have tkS : TK H' (upd H' pS (.lst (numV (ss.drop (ts.length + 1))))) := TK.lst eS
                have s12 : SB B H (upd H' pS (.lst (numV (ss.drop (ts.length + 1))))) := s11.own hS0
                have b12 : BagAt (upd H' pS (.lst (numV (ss.drop (ts.length + 1))))) B := b11.other (Ne.symm nSB)
                have eS12 : (upd H' pS (.lst (numV (ss.drop (ts.length + 1))))) pS = some (.lst (numV (ss.drop (ts.length + 1)))) := upd_same
                have eF12 : (upd H' pS (.lst (numV (ss.drop (ts.length + 1))))) pF = some (.lst (.str (S r.1) :: (xs ++ ys))) := by
                  rw [upd_ne (Ne.symm nSF)]
                  exact eF
                have eW12 : (upd H' pS (.lst (numV (ss.drop (ts.length + 1))))) pW = some (.lst (wV (r.1 :: (as.map Ar.text ++ ts.map Tr.text)))) := by
                  rw [upd_ne (Ne.symm nSW)]
                  exact eW
                refine ⟨B, ss[ts.length], rfl, b12, s1s, by omega, by omega, fun H13 p t x ok sz13 tA ep s13 b13 => ?_⟩
                have s13 : SB B (upd H' pS (.lst (numV (ss.drop (ts.length + 1))))) H13 := s13
                have tk13 := tkS.trans (s13.tk b12)
                have eS13 := s13 _ _ nSB eS12
                have eF13 := s13 _ _ nFB eF12
                have eW13 := s13 _ _ nWB eW12
                refine ⟨_, rfl, .inl ⟨rfl, _, SqL.of eF13⟩, _, rfl, p, _, _, _, rfl, rfl, SqT.of ep, atI_nat (j := 0) rfl, pF, _, x, rfl, rfl, eF13, small1000 (by rw [List.length_cons, List.length_append]; omega), ?_⟩
                have tkF : TK H13 (upd H13 pF (.lst (.str (S r.1) :: (xs ++ ys) ++ [x]))) := TK.lst eF13
                have eW14 : (upd H13 pF (.lst (.str (S r.1) :: (xs ++ ys) ++ [x]))) pW = some (.lst (wV (r.1 :: (as.map Ar.text ++ ts.map Tr.text)))) := by
                  rw [upd_ne nWF]
                  exact eW13
                refine ⟨_, rfl, .inl ⟨rfl, _, SqL.of eW14⟩, _, rfl, p, _, _, _, rfl, rfl, SqT.of (tkF _ _ ep), atI_nat (j := 1) rfl, pW, _, .str (S t.text), rfl, rfl, eW14, small1000 (by rw [wV_len, List.length_cons, List.length_append, List.length_map, List.length_map]; omega), ?_⟩
                have tkW : TK (upd H13 pF (.lst (.str (S r.1) :: (xs ++ ys) ++ [x]))) (upd (upd H13 pF (.lst (.str (S r.1) :: (xs ++ ys) ++ [x]))) pW (.lst (wV (r.1 :: (as.map Ar.text ++ ts.map Tr.text)) ++ [.str (S t.text)]))) := TK.lst eW14
                have tkA := tkF.trans tkW
                have lt2 : (ts ++ [t]).length = ts.length + 1 := by rw [List.length_append, List.length_singleton]
                refine ⟨_, _, _, rfl, ((s12.trans s13).own hF0).own hW0, (b13.other (Ne.symm nFB)).other (Ne.symm nWB), as, ts ++ [t], xs, ys ++ [x], by omega, ?_, ?_, ?_, paired_mono (fun _ _ => ArAt.mono (tk13.trans tkA)) pa, paired_app (paired_mono (fun _ _ => TrAt.mono (tk13.trans tkA)) pt) (.cons (tA.mono tkA) .nil), ?_, fun u hu => ?_, ?_⟩
                · rw [upd_ne nSW, upd_ne nSF, lt2]
                  exact eS13
                · rw [upd_ne (Ne.symm nWF), upd_same, ← List.append_assoc]
                  rfl
                · rw [upd_same]
                  unfold wV
                  simp only [List.map_append, List.map_cons, List.map_nil, List.append_assoc, List.cons_append]
                · rw [List.take_of_length_le (by omega)] at po ⊢
                  exact po
                · rcases List.mem_append.mp hu with hu | hu
                  · exact ot u hu
                  · rw [List.mem_singleton.mp hu]
                    exact ok
                · rw [lt2, List.map_append, List.sum_append]
                  show (ts.map Tr.size).sum + (t.size + 0) + _ + 1 ≤ z
                  omega
            · rintro σ H11 ⟨v7, v10, v11, rfl, s11, b11, as, ts, xs, ys, li, eS, eF, eW, pa, pt, po, ot, le⟩
              rw [lc, List.take_of_length_le (by omega)] at po
              have la := po.length
              have lm : ts.length = mm := by omega
              have l2 : ts.length ≤ 2 := by omega
              have pos : 0 < sizeLine := by decide
              have oT : (mkTr (S r.1) as ts).Ok := mkTr_ok fs.2.1 fs.2.2.1 po ts l2 (by rw [lm, ← hrm]; exact fk.2.1) ot
              have sT : (mkTr (S r.1) as ts).size ≤ z := by
                rw [mkTr_size l2]
                omega
              have tT := mkTr_text (w := S r.1) (as := as) l2
              rw [show tl (S r.1) = r.1 from rfl] at tT
              have lT := Tr.text_len oT
              have small : (16777216 : Nat) ≤ sizeLine := by decide
              have jl : (joinL [32] (r.1 :: (as.map Ar.text ++ ts.map Tr.text))).length + 2 = (mkTr (S r.1) as ts).text.length := by
                rw [tT, List.length_append, List.length_append]
                show _ = 1 + (_ + 1)
                omega
              refine ⟨_, rfl, pF, _, rfl, .inl ⟨SqL.of eF, fun a ha => ?_⟩⟩
              have sa := same_new (o := .tup (.str (S r.1) :: (xs ++ ys))) ha
              have ea : (upd H11 a (.tup (.str (S r.1) :: (xs ++ ys)))) a = some (.tup (.str (S r.1) :: (xs ++ ys))) := upd_same
              have b12 := b11.new (o := .tup (.str (S r.1) :: (xs ++ ys))) ha
              have pa := paired_mono (fun _ _ => ArAt.mono (TK.of sa)) pa
              have pt := paired_mono (fun _ _ => TrAt.mono (TK.of sa)) pt
              have eW12 := sa _ _ eW
              have s12 := s11.trans (SB.of sa)
              generalize upd H11 a (.tup (.str (S r.1) :: (xs ++ ys))) = H12 at ea b12 pa pt eW12 s12
              have tr := mkTr_at l2 ea pa pt
              refine ⟨⟨_, rfl⟩, _, rfl, _, pW, (r.1 :: (as.map Ar.text ++ ts.map Tr.text)).map S, rfl, rfl, .inl (SqL.of (by rw [← wV_eq]; exact eW12)), ?_, ?_⟩
              · rw [SX.lens, List.length_map]
                have g : ∀ xs : List (List Nat), (xs.map (·.length)).sum ≤ (joinL [32] xs).length := by
                  intro xs
                  induction xs with
                  | nil => exact Nat.zero_le _
                  | cons x xs ih =>
                    cases xs with
                    | nil => exact Nat.le_refl _
                    | cons y ys =>
                      show x.length + ((y :: ys).map (·.length)).sum ≤ (x ++ ([32] ++ joinL [32] (y :: ys))).length
                      rw [List.length_append, List.length_append]
                      omega
                have := g (r.1 :: (as.map Ar.text ++ ts.map Tr.text))
                have l6 : (r.1 :: (as.map Ar.text ++ ts.map Tr.text)).length ≤ 6 := by
                  rw [List.length_cons, List.length_append, List.length_map, List.length_map]
                  omega
                show _ + _ * 1 ≤ _
                omega
              · have ej : Txt.join (Str.ofString " ") ((r.1 :: (as.map Ar.text ++ ts.map Tr.text)).map S) = S (joinL [32] (r.1 :: (as.map Ar.text ++ ts.map Tr.text))) := SX.join_S [32] _
                rw [ej]
                have eT : Str.ofString "(" ++ S (joinL [32] (r.1 :: (as.map Ar.text ++ ts.map Tr.text))) ++ Str.ofString ")" = S (mkTr (S r.1) as ts).text := by
                  rw [show Str.ofString "(" = S [40] from rfl, show Str.ofString ")" = S [41] from rfl, SX.S_cat, SX.S_cat, List.append_assoc, ← tT]
                refine ⟨_, _, rfl, rfl, ?_, _, _, rfl, rfl, ?_, by show 2 ≤ sizeLine; decide, fun p hp => ?_⟩
                · have lS := SX.S_len (joinL [32] (r.1 :: (as.map Ar.text ++ ts.map Tr.text)))
                  show 1 + (S (joinL [32] (r.1 :: (as.map Ar.text ++ ts.map Tr.text)))).length ≤ _
                  omega
                · rw [show Str.ofString "(" = S [40] from rfl, SX.S_cat, SX.S_len, List.length_append]
                  show (1 + _) + 1 ≤ _
                  omega
                · rw [eT]
                  have sp2 := same_new (o := .tup [.ref a, .str (S (mkTr (S r.1) as ts).text)]) hp
                  exact q _ p (mkTr (S r.1) as ts) (.ref a) oT sT (tr.mono (TK.of sp2)) upd_same (s12.trans (SB.of sp2)) (b12.same sp2)
end
end Wd

set_option Elab.async false
set_option linter.all false
set_option maxRecDepth 100000
set_option maxHeartbeats 4000000
/-! defs that are called where no repr is under way: they may ask repr of lists and tuples -/
namespace Br
open PySem PySem.Spec PyProof.Rows L2
/-- repr of data -/
def rReprD (K : PySem.W.Frag) : List V → Hp → VK → Prop := fun xs H Q => ∃ v d, xs = [v] ∧ Dp K H v d ∧ d.showable = true ∧ d.hasDict = false ∧ d.depth ≤ 60 ∧ ((∀ i, d ≠ .int i) → d.shown.length ≤ sizeLine) ∧ Q (.str d.shown) H
theorem call_reprD {X : Cx} (hg : X.A.guards = some []) (hu : X.A.units + 64 < cLine) : CallR X (.builtin "repr") (rReprD X.K) := by
  intro pins s σ H xs us Q I r h
  obtain ⟨v, d, rfl, dp, hs, nd, hd, hz, q⟩ := h
  obtain ⟨u, rfl, ru⟩ := vals1 r
  cases dp with
  | non => cases ru; exact PySem.P.repr_of_none ⟨.str _, H, I.tok _, ⟨_, rfl⟩, q⟩
  | bl b => cases ru; exact PySem.P.repr_of_bool ⟨.str (if b then "True" else "False"), H, I.tok _, ⟨_, rfl⟩, q⟩
  | int i =>
    obtain ⟨t, rfl⟩ := ru
    exact PySem.P.repr_of_int (of_decide_eq_true hs) ⟨.str _, H, I.tok _, ⟨_, rfl⟩, q⟩
  | str x =>
    obtain ⟨t, rfl⟩ := ru
    exact PySem.P.repr_of_str ⟨.str _, H, I.tok _, ⟨_, rfl⟩, q⟩ (hz fun i e => nomatch e)
  | lst l p =>
    cases ru
    obtain ⟨as, rd⟩ := Dp.reads I _ _ _ (.lst l p) (show RelV (.ref _) (.ref _) from rfl)
    exact repr_of_reads' rd hs (fun z => by rw [nd] at z; cases z) hg (by omega) (fun _ _ z => z) (fun h' u tk hk => ⟨.str _, H, I.kept hk, ⟨_, rfl⟩, q⟩) (hz fun i e => nomatch e)
  | tup l p =>
    cases ru
    obtain ⟨as, rd⟩ := Dp.reads I _ _ _ (.tup l p) (show RelV (.ref _) (.ref _) from rfl)
    exact repr_of_reads' rd hs (fun z => by rw [nd] at z; cases z) hg (by omega) (fun _ _ z => z) (fun h' u tk hk => ⟨.str _, H, I.kept hk, ⟨_, rfl⟩, q⟩) (hz fun i e => nomatch e)
/-- a def's promise where no repr is under way -/
structure GnOk (P : Program) (w : World) (K : PySem.W.Frag) (mg : Str → Option Value) (base : Heap) (CX : CXT) (k : Nat) (f : Addr) (fd : FuncData) (ps : List Str) (sp : Sp) : Prop where
  len : ∀ vs H Q E, sp vs H Q E → vs.length = ps.length
  go : ∀ (A : Around), A.guards = some [] → Room k A → ∀ (outer : List Env) (s : Shared) (H : Hp), Env0 P w K mg base A outer s H → ∀ (args : Args) (us : List Value), BindsTo s fd args (ps.zip us) → ∀ (vs : List V), Vals vs us → ∀ (Q : VK) (E : XK), sp vs H Q E →
    codeAny (model P w) A (.call (.ref f) args) (CR CX outer P w H s Q E) s
section
variable {P : Program} {w : World} {K : PySem.W.Frag} {mg : Str → Option Value} {base : Heap}
/-- such a def by its body -/
theorem gn_of {x qual : Str} {st : Stmt} {f : Addr} {fd : FuncData} {N ps : List Str} {k : Nat} {sp : Sp} (F : Fun K x qual st f fd) (S : FnScope N ps (defScope st)) (len : ∀ vs H Q E, sp vs H Q E → vs.length = ps.length)
    (hbody : ∀ (cdv : Value) (A : Around) (outer : List Env) (s : Shared) (H : Hp) (vs : List V) (Q : VK) (E : XK), (A.deeper (envOfC qual (defScope st) s.heap.objs.size f cdv)).guards = some [] → Room k (A.deeper (envOfC qual (defScope st) s.heap.objs.size f cdv)) → sp vs H Q E →
      ∃ t, PSs (cxOf CX0 P w K mg base N qual (defScope st) f cdv A outer s H E).nox (defBody st) t ∧ t { nx := fun _ H' => Q .non H', rt := Q } (start N vs) H) : GnOk P w K mg base CX0 (k + 1) f fd ps sp := by
  obtain ⟨oc, od, kV, doc, pm, an, cdv, ct, osl, rfl, lk, hcd⟩ := F.ex
  refine ⟨len, fun A hg hr outer s H e0 args us hb vs r Q E hsp => ?_⟩
  have hN := len _ _ _ _ hsp
  have KS : K.In s.heap := e0.mod.kin.keeps fun b o z => (e0.bs b o z).1
  have lim : s.heap.NoLimit := e0.mod.nolimit.keeps fun b o z => (e0.bs b o z).1
  refine codeAny_call_function hr.depth (KS _ _ lk) rfl S.co S.gen rfl (PySem.W.codeRec_of KS hcd) (hb _ _ _ _ (wpAny_newFunctionEnv_cells S.kind (fun y hy => ?_) fun env he s1 x1 => ?_))
  · obtain ⟨y1, y2⟩ := y
    rcases S.par y1 (List.of_mem_zip hy).1 with q | q
    · exact .inl q
    · exact .inr ⟨q, PySem.W.cellsFrom_some _ _ _ (.inl q)⟩
  · subst he
    refine ⟨lim.keeps x1.toInCall.keep, codeAny_func ?_⟩
    obtain ⟨t, ht, hq⟩ := hbody cdv A outer s H vs Q E hg (hr.deeper _) hsp
    have I0 := inv_start (CX := CX0) S hr.hd e0 hN r x1 (E := E)
    refine wpAny_mono (ht.nox.run [] s1 (start N vs) H _ I0 hq) (fun fl s' hs => ?_) fun _ _ z => z
    cases fl with
    | brk => exact (let ⟨_, _, _, z⟩ := hs; False.elim z)
    | cont => exact (let ⟨_, _, _, z⟩ := hs; False.elim z)
    | ret u =>
      obtain ⟨v, σ', H', J, rv, z⟩ := hs
      exact ⟨v, H', J.os, J.bare, J.base, J.hok, rv, z⟩
    | next =>
      obtain ⟨σ', H', J, z⟩ := hs
      exact ⟨.non, H', J.os, J.bare, J.base, J.hok, rfl, z⟩
end
section
variable {X : Cx} {CX : CXT} {k : Nat} {f : Addr} {fd : FuncData} {ps : List Str} {sp : Sp} {E : XK} {x : Str} {p pos : Pos} {e : Expr} {es : List Expr} {t : TA}
/-- f(e, ..) of such a def -/
theorem pe_callG (hgd : X.A.guards = some []) (F : GnOk X.prog X.w X.K X.mg X.base CX k f fd ps sp) (hr : Room k X.A) (hg : Gl X x) (hm : X.mg x = some (.ref f)) (hk : PySem.W.keepIn X.K (.ref f) = true) (hb : Binds X.K fd ps []) (hx : Passes CX X E)
    (ha : PA X (e :: es) t) (hdb : (x == ("__debug__" : Str)) = false := by decide) (he : starEach (e :: es) X.env = (false, eval e X.env) :: starEach es X.env := by rfl) (hpl : (backTo pos (starEach es X.env)).any (·.1) = false := by rfl) :
    PE X (.Call (.Name x p) (e :: es) [] pos) (tCall sp [] E t) := by
  refine ⟨fun pins s σ H Q I h => wpAny_Call_Name_kw (ld_glob I hg hm ?_ hdb)⟩
  refine PySem.W.callWith_K (h₀ := X.base) I.ok.mod.kin hk (thn (ha.run pos pins s σ H _ I h) fun us s1 ⟨vs, H1, I1, r, q⟩ => ⟨I1.kIn, ?_⟩) he hpl
  have q' : sp vs H1 Q E := by
    have z : sp (vs ++ []) H1 Q E := q
    rwa [List.append_nil] at z
  have hl : (us ++ []).length = ps.length := by
    rw [List.append_nil, ← r.length]
    exact F.len _ _ _ _ q'
  have bd := hb s1 us I1.kIn hl
  rw [List.append_nil] at bd
  refine wpAny_call (codeAny_mono (F.go X.A hgd hr X.stack s1 H1 I1.env0 ⟨us, []⟩ us bd vs r Q E q') fun res s' hq => ?_)
  cases res with
  | error er => exact hx pins σ H1 s1 er s' I1 hq
  | ok fl =>
    cases fl with
    | ret u => exact I1.after hq
    | next => exact hq.elim
    | brk => exact hq.elim
    | cont => exact hq.elim
end
/-! ### the law's own call -/
theorem hid_of {h : Heap} {H : Hp} {b : Addr} {o : Obj} (e : h.get? b = some o) (n : H b = none) : (hidT h H).get? b = some o := hidT_get e n
/-- the law is called where no repr is under way -/
theorem law_callG {P : Program} {w : World} {K : PySem.W.Frag} {mg mb : Str → Option Value} {CX : CXT} {k : Nat} {fa a : Addr} {fd : FuncData} {x : Str} {sp : Sp} {s₁ : Shared} {vs : List Value} {ns : List Int}
    (KX : K.In s₁.heap) (gN : s₁.heap.Ns mainGlobals mg) (bN : s₁.heap.Ns builtinsNs mb) (bB : ∀ x : Str, x ≠ "__name__" → mb x = bootBuiltins x) (lim : s₁.heap.NoLimit) (hg : s₁.gens = #[])
    (ha : s₁.heap.get? a = some { cls := .type "list", data := .seq vs.toArray }) (hi : IntsAre vs ns) (hl : ns.length ≤ sizeLine) (hr : Room k callerA)
    (F : ∀ base : Heap, K.In base → base.Ns mainGlobals mg → GnOk P w K mg base CX k fa fd [x] sp) (hbind : ∀ (s : Shared) (u : Value), BindsTo s fd ⟨[u], []⟩ [(x, u)])
    (hsp : ∀ H : Hp, Only H → SqL K H a (ns.map V.int) → sp [.ref a] H (fun v _ => v = .bl true) fun _ _ _ => False)
    (hCX : ∀ H e s', CX [] H s₁ (fun _ _ _ => False) e s' → False) :
    codeAny (model P w) callerA (.call (.ref fa) ⟨[.ref a], []⟩) (fun r s' => r = .ok (.ret (.bool true)) ∧ OldK s₁.heap s'.heap ∧ s'.os = s₁.os ∧ AllBare s'.gens) s₁ := by
  have rv := vals_ints hi
  have lv := hi.length
  have step : ∀ H : Hp, Only H → SqL K H a (ns.map V.int) → HOk P w H s₁.heap → (∀ b, H b ≠ none → b = a ∧ K.lookup a = none) →
      codeAny (model P w) callerA (.call (.ref fa) ⟨[.ref a], []⟩) (fun r s' => r = .ok (.ret (.bool true)) ∧ OldK s₁.heap s'.heap ∧ s'.os = s₁.os ∧ AllBare s'.gens) s₁ := fun H only sq hok one => by
    have free : ∀ {b : Addr} {o : Obj}, s₁.heap.get? b = some o → (∀ ws n, o.data ≠ .seq ws n) → H b = none := fun {b o} e nd => Classical.byContradiction fun z => by
      rw [(one b z).1, ha] at e
      cases e
      exact nd _ _ rfl
    have up : ∀ {b : Addr} {m : Str → Option Value}, s₁.heap.Ns b m → (hidT s₁.heap H).Ns b m := fun {b m} ⟨o, es, ep, e, d, r⟩ => ⟨o, es, ep, hid_of e (free e fun ws n z => by rw [d] at z; cases z), d, r⟩
    have kb : K.In (hidT s₁.heap H) := fun b o e => hid_of (KX b o e) (Classical.byContradiction fun z => by
      obtain ⟨z1, z2⟩ := one b z
      rw [z1, z2] at e
      cases e)
    have md : Mod K mg (hidT s₁.heap H) := ⟨kb, up gN, ⟨mb, up bN, bB⟩, let ⟨mc, h1, h2⟩ := lim; ⟨mc, up h1, h2⟩⟩
    have env : Env0 P w K mg (hidT s₁.heap H) callerA [] s₁ H := ⟨rfl, md, fun b o e => of_hidT e, Nat.le_of_eq (hidT_size _ _), trivial, fun b hb => (List.not_mem_nil hb).elim, hok, .of_eq hg⟩
    refine codeAny_mono ((F _ kb (up gN)).go callerA rfl hr [] s₁ H env ⟨[.ref a], []⟩ [.ref a] (hbind s₁ (.ref a)) [.ref a] (.cons rfl .nil) _ _ (hsp H only sq)) fun r s' h => ?_
    match r, h with
    | .error e, h => exact (hCX H e s' h).elim
    | .ok (.ret u), ⟨v, H', os, bare, un, hok', r', q⟩ =>
      cases (show v = .bl true from q)
      cases (show u = Value.bool true from r')
      refine ⟨rfl, OldK.of_keep fun b o e => ?_, os, bare⟩
      by_cases z : H b = none
      · exact un.keep b o e z (fun y => (List.not_mem_nil y).elim) (by simp)
      · rcases only b with y | ⟨ob, xs, y⟩
        · exact (z y).elim
        · have g1 := (hok b _ y).1
          have g2 := (hok' b _ (un.frzs b ob _ y)).1
          rw [e] at g1
          cases g1
          exact g2
  by_cases hk : K.lookup a = none
  · have at_ : ∀ b, (fun b => if b = a then some (HO.frz { cls := .type "list", data := .seq vs.toArray } (.lst (ns.map V.int))) else none) b = none ∨ b = a := fun b => by
      by_cases hb : b = a
      · exact .inr hb
      · exact .inl (if_neg hb)
    refine step (fun b => if b = a then some (HO.frz { cls := .type "list", data := .seq vs.toArray } (.lst (ns.map V.int))) else none) (fun b => ?_) (.inl (.inr ⟨_, if_pos rfl⟩)) (fun b u z => ?_) fun b z => ⟨(at_ b).resolve_left z, hk⟩
    · by_cases hb : b = a
      · exact .inr ⟨_, _, if_pos hb⟩
      · exact .inl (if_neg hb)
    · rcases at_ b with y | rfl
      · exact nomatch y.symm.trans z
      · cases (if_pos rfl).symm.trans z
        exact ⟨ha, by rw [List.length_map]; exact hl, vs, _, rv, ha⟩
  · obtain ⟨o, ho⟩ := Option.ne_none_iff_exists'.mp hk
    have e := KX a o ho
    rw [ha] at e
    cases e
    exact step (fun _ => none) (fun _ => .inl rfl) (.inr ⟨_, vs.toArray, _, ho, rfl, rfl, rfl, by rw [List.size_toArray, lv]; exact hl, by simpa using rv⟩) (fun b u z => nomatch z) fun b z => (z rfl).elim
/-- the end of a row whose law may ask repr -/
theorem walk_ofG {l : PySem.W.OpenLaw} {n k : Nat} {q : Program} {loose : List Str} {XP : (Str → Option Value) → Heap → Prop} {YP : World → Heap → Prop} {d : DefRec} {K : Params → PySem.W.Frag} {sp : PySem.W.Frag → Sp} {x : Str}
    (hn : l.most = some n) (hn2 : n ≤ sizeLine) (hdf : d.params.defaults = []) (hr : Room k callerA)
    (hY : ∀ (w : World) (h : Heap), YP w h → (K w.params).In h)
    (F : ∀ (w : World) (mg : Str → Option Value) (fa : Addr) (h : Heap), (K w.params).In h → h.Ns mainGlobals mg → mg d.name = some (.ref fa) →
      ∃ fd : FuncData, (∀ (s : Shared) (u : Value), BindsTo s fd ⟨[u], []⟩ [(x, u)]) ∧ ∀ base : Heap, (K w.params).In base → base.Ns mainGlobals mg → GnOk l.prog w (K w.params) mg base CX0 k fa fd [x] (sp (K w.params)))
    (hsp : ∀ (K : PySem.W.Frag) (H : Hp) (a : Addr) (ns : List Int), ns.length ≤ n → Only H → SqL K H a (ns.map V.int) → sp K [.ref a] H (fun v _ => v = .bl true) fun _ _ _ => False) :
    PySem.W.WalkO q loose XP YP l.row.toRowW d [] (fun f vs => PySem.call f vs) := by
  refine Att.attach_call hn hdf fun w s₀ s₁ mg mb fa o pm cd doc a vs ns G Y ho hd hcd hmg hobj hints hlen hg => ?_
  obtain ⟨fd, hb, hF⟩ := F w mg fa _ (hY w _ Y) G.T.g hmg
  exact law_callG (hY w _ Y) G.T.g G.T.b G.T.builtins G.T.nolimit hg hobj hints (Nat.le_trans hlen hn2) hr hF hb (fun H h1 h2 => hsp _ H a ns hlen h1 h2) fun H e s' z => z.elim
end Br

set_option Elab.async false
set_option linter.all false
set_option maxRecDepth 100000
set_option maxHeartbeats 4000000
set_option pp.maxSteps 400
set_option pp.deepTerms false
namespace Wd
open PySem L2 TL Br
open SX (S)

structure LTxt (mg : Str → Option Value) : Prop where
  len : mg "len" = none
  range : mg "range" = none
  max : mg "max" = none
  repr : mg "repr" = none
  isin : mg "isinstance" = none
  str : mg "str" = none
def spLaw (K : PySem.W.Frag) : Sp := fun vs H Q _ => ∃ (a : Addr) (ns : List Int), vs = [.ref a] ∧ SqL K H a (ns.map V.int) ∧ ns.length ≤ 63 ∧ ∀ H', Q (.bl true) H'
theorem same_bag' {H0 H' H1 Hk : Hp} {B : Addr} (s0 : Same H0 H') (hB : H' B = none) (s1 : Same H' H1) (s : SB B H1 Hk) : Same H0 Hk := fun b o e => s b o (ne_of_none (s0 b o e) hB) (s1 b o (s0 b o e))
section
variable {P : Program} {w : World} {K : PySem.W.Frag} {mg : Str → Option Value} {base : Heap} {fA fT fX fW fR : Addr} {dA dT dX dW dR : FuncData}
abbrev nLaw : List Str := ["script", "elder", "elder_text", "at", "bag", "tree", "text", "one", "line", "wrote"]
theorem scLaw : FnScope nLaw ["script"] (defScope sLaw) := ⟨rfl, rfl, rfl, by decide +kernel, rfl, by decide +kernel, by decide +kernel⟩
theorem ok_law {f : Addr} {fd : FuncData} (F : Fun K "law" "law" sLaw f fd) (X : LTxt mg) (A : At P w K mg base 1 "_law_start" fA dA ["script", "at"] (spStart K)) (T : At P w K mg base 1 "_law_throw" fT dT ["bag", "total"] spThrow)
    (TT : At P w K mg base 18 "_law_tree_text" fX dX ["bag", "size"] (spTreeT 12)) (W : At P w K mg base 16 "write_tree" fW dW ["tree"] spWrite) (R : At P w K mg base 9 "read_tree" fR dR ["text"] spRead) : GnOk P w K mg base CX0 19 f fd ["script"] (spLaw K) := by
  refine gn_of F scLaw (fun vs H Q E h => ?_) (fun cdv Ao outer s H vs Q E hgd hr h => ?_)
  · obtain ⟨a, ns, rfl, _⟩ := h
    rfl
  · obtain ⟨a, ns, rfl, hS, hn, q⟩ := h
    have nd := scLaw.nd
    have hr1 : Room 1 _ := hr.mono (by decide)
    have hr9 : Room 9 _ := hr.mono (by decide)
    have hr16 : Room 16 _ := hr.mono (by decide)
    refine ⟨_, pss_cons (ps_set (i := 1) nd rfl (Or.inl rfl) (pe_tup (pa_cons pe_str pa_nil)))
      (pss_cons (ps_set (i := 2) nd rfl (Or.inl rfl) pe_str)
      (pss_cons (ps_for PassesOwn.never rfl (pi_range1 rfl X.range (pa_cons (pe_callB (call_max2 rfl) (by rfl) X.max (by decide +kernel) (pa_cons pe_int (pa_cons (pe_callB call_len_seq (by rfl) X.len PySem.boot_len (pa_cons (pv 0) pa_nil)) pa_nil))) pa_nil)) (pg_name (i := 3) nd rfl (Or.inl rfl))
        (pss_cons (ps_set (i := 4) nd rfl (Or.inl rfl) (pe_call A.g hr1 rfl A.m A.kp A.b .nil pass0 (pa_cons (pv 0) (pa_cons (pv 3) pa_nil))))
        (pss_cons (ps_asg (pe_call TT.g hr rfl TT.m TT.kp TT.b .nil pass0 (pa_cons (pv 4) (pa_cons (pe_op op_add pe_int (pe_call T.g hr1 rfl T.m T.kp T.b .nil pass0 (pa_cons (pv 4) (pa_cons pe_int pa_nil)))) pa_nil))) (pg_tup rfl (pgs_cons (pg_name (i := 5) nd rfl (Or.inl rfl)) (pgs_cons (pg_name (i := 6) nd rfl (Or.inl rfl)) pgs_nil))))
        (pss_cons (ps_for PassesOwn.never rfl (pi_list (pe_lst (pa_cons (pe_tup (pa_cons (pv 5) (pa_cons (pv 6) pa_nil))) (pa_cons (pe_tup (pa_cons (pv 1) (pa_cons (pv 2) pa_nil))) (pa_cons (pe_tup (pa_cons (pv 5) (pa_cons (pv 6) pa_nil))) pa_nil))))) (pg_tup rfl (pgs_cons (pg_name (i := 7) nd rfl (Or.inl rfl)) (pgs_cons (pg_name (i := 8) nd rfl (Or.inl rfl)) pgs_nil)))
          (pss_cons (ps_set (i := 9) nd rfl (Or.inl rfl) (pe_call W.g hr16 rfl W.m W.kp W.b .nil pass0 (pa_cons (pv 7) pa_nil)))
          (pss_one (ps_if (PW.pt (pw_or (pt_not (pt_val (pe_isi (N := "str") (pv 9) X.isin X.str))) (pw_or (pt_cmpR op_ne (pv 9) (pv 8) (nomark _)) (pw_or1 (pt_cmpR op_ne (pe_callB (call_reprD hgd hr.units) (by rfl) X.repr (by decide +kernel) (pa_cons (pe_call R.g hr9 rfl R.m R.kp R.b .nil pass0 (pa_cons (pv 8) pa_nil)) pa_nil))
              (pe_callB (call_reprD hgd hr.units) (by rfl) X.repr (by decide +kernel) (pa_cons (pv 7) pa_nil)) (nomark _)))))) (pss_one (ps_ret pe_bl)) pss_nil))))
        (pss_cons (ps_set (i := 1) nd rfl (Or.inl rfl) (pv 5))
        (pss_one (ps_set (i := 2) nd rfl (Or.inl rfl) (pv 6))))))))
      (pss_one (ps_ret pe_bl)))), ?_⟩
    refine ⟨by show 1 ≤ sizeLine; decide, fun e0 he0 => ?_⟩
    have s0 := same_new (o := .tup [.str (Str.ofString "it")]) he0
    have q0 : (upd H e0 (.tup [.str (Str.ofString "it")])) e0 = some (.tup [.str (Str.ofString "it")]) := upd_same
    generalize upd H e0 (.tup [.str (Str.ofString "it")]) = H0 at s0 q0
    refine ⟨_, rfl, a, _, rfl, .inl (s0.seq hS), _, _, rfl, ?_⟩
    rw [List.length_map]
    obtain ⟨N, hN, N63⟩ : ∃ N : Nat, (if (ns.length : Int) > 1 then (ns.length : Int) else 1) = (N : Int) ∧ N ≤ 63 := by
      by_cases h : (ns.length : Int) > 1
      · exact ⟨ns.length, if_pos h, hn⟩
      · exact ⟨1, if_neg h, by decide⟩
    rw [hN]
    refine ⟨_, rfl, by omega, by omega, ?_⟩
    rw [Int.toNat_natCast]
    refine for_it (walk_range (lo := 0) (n := N)) (fun i σ H' => ∃ (v3 v4 v5 v6 v7 v8 v9 : Option V) (ev : V) (et : Tr), σ = [some (.ref a), some ev, some (.str (S et.text)), v3, v4, v5, v6, v7, v8, v9] ∧ Same H H' ∧ TrAt H' et ev ∧ et.Ok ∧ et.size ≤ 12) ⟨_, _, _, _, _, _, _, _, .it, rfl, s0, ⟨e0, rfl, q0⟩, trivial, by decide⟩ (fun _ _ _ _ _ => trivial) ?_ ?_
    · rintro i x σ H1 H' hi ⟨v3, v4, v5, v6, v7, v8, v9, ev, et, rfl, s1, ea, eo, es⟩ ⟨rfl, rfl⟩
      dsimp only
      rw [Int.zero_add]
      refine ⟨_, rfl, _, rfl, a, ns, i, rfl, s1.seq hS, fun H2 B s2 hB b2 => ?_⟩
      refine ⟨_, rfl, _, rfl, B, 12, rfl, b2, by decide, by decide +kernel, fun r H3 r0 r1 s3 b3 => ?_⟩
      obtain ⟨k, rfl⟩ := Int.eq_ofNat_of_zero_le r0
      refine ⟨_, _, rfl, rfl, B, 1 + k, rfl, b3, by omega, by omega, Nat.le_refl _, fun H4 p t x ot st tx ep s4 b4 => ?_⟩
      have sHB : Same H H4 := same_bag' s1 hB s2 (s3.trans s4)
      have ea4 : TrAt H4 et ev := ea.mono (TK.of (same_bag' (Same.refl _) hB s2 (s3.trans s4)))
      refine ⟨p, _, rfl, SqT.of ep, rfl, _, _, rfl, _, _, rfl, rfl, ?_⟩
      dsimp only
      refine ⟨_, rfl, _, rfl, by show 2 ≤ sizeLine; decide, fun c1 h1 => ?_⟩
      have n1 := same_new (o := .tup [x, .str (S t.text)]) h1
      have g1 : (upd H4 c1 (.tup [x, .str (S t.text)])) c1 = some (.tup [x, .str (S t.text)]) := upd_same
      generalize upd H4 c1 (.tup [x, .str (S t.text)]) = G1 at n1 g1
      refine ⟨_, rfl, _, rfl, by show 2 ≤ sizeLine; decide, fun c2 h2 => ?_⟩
      have n2 := same_new (o := .tup [ev, .str (S et.text)]) h2
      have g2 : (upd G1 c2 (.tup [ev, .str (S et.text)])) c2 = some (.tup [ev, .str (S et.text)]) := upd_same
      generalize upd G1 c2 (.tup [ev, .str (S et.text)]) = G2 at n2 g2
      refine ⟨_, rfl, _, rfl, by show 2 ≤ sizeLine; decide, fun c3 h3 => ?_⟩
      have n3 := same_new (o := .tup [x, .str (S t.text)]) h3
      have g3 : (upd G2 c3 (.tup [x, .str (S t.text)])) c3 = some (.tup [x, .str (S t.text)]) := upd_same
      generalize upd G2 c3 (.tup [x, .str (S t.text)]) = G3 at n3 g3
      refine ⟨by show 3 ≤ sizeLine; decide, fun Lq hLq => ?_⟩
      have n4 := same_new (o := .lst [.ref c1, .ref c2, .ref c3]) hLq
      have gL : (upd G3 Lq (.lst [.ref c1, .ref c2, .ref c3])) Lq = some (.lst [.ref c1, .ref c2, .ref c3]) := upd_same
      generalize upd G3 Lq (.lst [.ref c1, .ref c2, .ref c3]) = G4 at n4 gL
      have n14 : Same H4 G4 := n1.trans (n2.trans (n3.trans n4))
      have all : ∀ y ∈ [V.ref c1, .ref c2, .ref c3], ∃ (c : Addr) (u : Tr) (v : V), y = .ref c ∧ G4 c = some (.tup [v, .str (S u.text)]) ∧ TrAt G4 u v ∧ u.Ok ∧ u.size ≤ 12 := fun y hy => by
        simp only [List.mem_cons, List.not_mem_nil, or_false] at hy
        rcases hy with rfl | rfl | rfl
        · exact ⟨c1, t, x, rfl, n4 _ _ (n3 _ _ (n2 _ _ g1)), tx.mono (TK.of n14), ot, by omega⟩
        · exact ⟨c2, et, ev, rfl, n4 _ _ (n3 _ _ g2), ea4.mono (TK.of n14), eo, es⟩
        · exact ⟨c3, t, x, rfl, n4 _ _ g3, tx.mono (TK.of n14), ot, by omega⟩
      have sH4 := sHB.trans n14
      have t12 : t.size ≤ 12 := by omega
      have tx4 := tx.mono (TK.of n14)
      clear n1 n2 n3 n4 g1 g2 g3 h1 h2 h3 hLq n14 ea4 sHB ep s4 b4 s3 b3 r0 r1 s2 b2 hB
      refine ⟨Lq, rfl, ⟨_, SqL.of gL⟩, ?_⟩
      refine for_it (n := 3) (walk_list (K := K) (xs := [V.ref c1, .ref c2, .ref c3]) (a := Lq)) (fun j σ H' => ∃ v7 v8 v9 : Option V, σ = [some (.ref a), some ev, some (.str (S et.text)), some (.int i), some (.ref B), some x, some (.str (S t.text)), v7, v8, v9] ∧ Same G4 H') ⟨_, _, _, rfl, Same.refl _⟩ (fun _ _ _ _ ⟨_, _, _, _, s⟩ => SqL.of (s _ _ gL)) ?_ ?_
      · rintro j y σ H5 H' hj ⟨v7, v8, v9, rfl, s5⟩ ⟨rfl, hy⟩
        obtain ⟨c, u, v, rfl, ec, tv, ou, su⟩ := all y (List.mem_of_getElem? hy)
        obtain ⟨d1, d2, d3, d4⟩ := tr_shown ou su
        refine ⟨c, _, rfl, SqT.of (s5 _ _ ec), rfl, _, _, rfl, _, _, rfl, rfl, ?_⟩
        refine ⟨_, rfl, v, u, rfl, tv.mono (TK.of s5), ou, su, fun H6 s6 => ?_⟩
        refine ⟨_, rfl, _, isi_ty (r := true) (.base (.str _)) (by decide), _, rfl, iteF ?_⟩
        refine ⟨_, rfl, _, rfl, rfl, _, rfl, ?_⟩
        rw [decide_eq_true rfl]
        refine iteF ?_
        refine ⟨_, rfl, u, rfl, ou, su, fun H7 v7' s7 tv7 => ?_⟩
        refine ⟨v7', u.dat, rfl, tr_dp tv7, d1, d2, d3, fun _ => d4, ?_⟩
        refine ⟨_, rfl, v, u.dat, rfl, tr_dp (tv.mono (TK.of ((s5.trans s6).trans s7))), d1, d2, d3, fun _ => d4, rfl, _, rfl, ?_⟩
        rw [decide_eq_true rfl]
        exact iteF ⟨_, _, _, rfl, (s5.trans s6).trans s7⟩
      · rintro σ H5 ⟨v7, v8, v9, rfl, s5⟩
        refine ⟨_, rfl, _, rfl, ?_⟩
        exact ⟨_, _, _, _, _, _, _, x, t, rfl, sH4.trans s5, tx4.mono (TK.of s5), ot, t12⟩
    · rintro σ H1 ⟨v3, v4, v5, v6, v7, v8, v9, ev, et, rfl, s1, ea, eo, es⟩
      exact q H1
end
end Wd

set_option Elab.async false
set_option linter.all false
set_option maxRecDepth 100000
set_option maxHeartbeats 4000000
/-! data == a text -/
namespace Wd
open PySem PySem.Spec PyProof.Rows L2
open AutoSeq1 (wpAny_loadPart')
theorem dict_declines_str (l : Addr) (es : Array DictEntry) (n : Nat) (dd : Option Addr) (sl : Array (Option Value)) (b : Str) (u : Tok) :
    Meets (Builtin.«dict.__eq__» ⟨[.ref l, .str b u], []⟩) (fun _ R s => s.heap.get? l = some { cls := .type "dict", dict := dd, data := .dict es n, slots := sl } ∧ R (.ok (.ret .notImplemented)) s) :=
  .of_wp fun prog w A R s h => by
    obtain ⟨hp, g, d, tk, os⟩ := s
    obtain ⟨hl, h⟩ := h
    have f1 := PySem.F.sub_str_dict
    wp_walk using wpAny_loadPart' hl
    exact ⟨_, rfl, h⟩
theorem str_declines_dict (b : Str) (u : Tok) (l : Addr) (c : Value) (es : Array DictEntry) (n : Nat) (dd : Option Addr) (sl : Array (Option Value)) :
    Meets (Builtin.«str.__eq__» ⟨[.str b u, .ref l], []⟩) (fun _ R s => s.heap.get? l = some { cls := c, dict := dd, data := .dict es n, slots := sl } ∧ R (.ok (.ret .notImplemented)) s) :=
  .of_wp fun prog w A R s h => by
    obtain ⟨hp, g, d, tk, os⟩ := s
    obtain ⟨hl, h⟩ := h
    wp_walk using wpAny_loadPart' hl, wpAny_load hl
    exact ⟨_, rfl, h⟩
section
variable {A : Around} {s : Shared}
theorem rc_dict_str {l : Addr} {o : Obj} {es : Array DictEntry} {n : Nat} (b : Str) (u : Tok) (ho : s.heap.get? l = some o) (hc : o.cls = .type "dict") (hd : o.data = .dict es n) (hu : A.units < cLine) : SeqAt.RcAt A s (.ref l) (.str b u) false := fun prog w E Q h => by
  obtain ⟨cls, dd, data, sl⟩ := o
  simp only at hc hd
  subst hc
  subst hd
  exact SeqAt.rc_eq_decline_or (k := false) ⟨_, ho, rfl⟩ (typeIs_str s b u) (by decide) PySem.F.sub_str_dict PySem.F.slot_dict_eq PySem.F.slot_str_eq_refl
    (fun _ hq => call_meets PySem.F.slot_dict_eq ⟨_, ho, rfl⟩ PySem.F.entry_dict_eq (PySem.F.args_dict_eq_2 _ _) (dict_declines_str l es n dd sl b u) ⟨ho, hq⟩)
    (fun _ hq => call_meets PySem.F.slot_str_eq_refl (typeIs_str s b u) PySem.F.entry_str_eq (PySem.F.args_str_eq_2 _ _) (str_declines_dict b u l (.type "dict") es n dd sl) ⟨ho, hq⟩)
    (fun _ hq => wpAny_of_eq (rfl : isSame (.ref l) (.str b u) = pure false) hq) (.inr hu) h
end
/-- a thing of one's own kind == a text -/
def rEqOS (T : List Addr → Hp → Addr → Prop) : R2 := fun x y H Q => ∃ B a z, x = .ref a ∧ y = .str z ∧ T B H a ∧ ∀ H', Same H H' → Q (.bl false) H'
theorem op_eqT {X : Cx} {T : List Addr → Hp → Addr → Prop} (hu : X.A.units < cLine) (hO : OpR X (compareOp .Eq) (rEqOS T)) : OpR X (compareOp .Eq) (rEqT T) := by
  intro pins s σ H x y v u Q I rx ry h
  obtain ⟨B, m, n, z, d, rfl, q⟩ := h
  have no : (∀ s, x ≠ .str s) → Q (.bl false) H := fun h => q false H (Same.refl _) (nay (h z))
  cases d with
  | non => exact op_eq pins s σ H _ _ v u Q I rx ry ⟨rfl, no fun s e => nomatch e⟩
  | bl b => exact op_eq pins s σ H _ _ v u Q I rx ry ⟨rfl, by rw [decide_eq_false (fun e => nomatch e)]; exact no fun s e => nomatch e⟩
  | int b => exact op_eq pins s σ H _ _ v u Q I rx ry ⟨rfl, by rw [decide_eq_false (fun e => nomatch e)]; exact no fun s e => nomatch e⟩
  | str b => exact op_eq pins s σ H _ _ v u Q I rx ry ⟨rfl, q _ H (Same.refl _) decide_eq_true_iff⟩
  | own t => exact hO pins s σ H _ _ v u Q I rx ry ⟨B, _, z, rfl, rfl, t, fun H' s' => q false H' s' (nay fun e => nomatch e)⟩
  | tup ne e l p =>
    cases rx
    obtain ⟨t, rfl⟩ := ry
    obtain ⟨its, r, ob, _⟩ := I.tuple (SqT.of e)
    exact SeqAt.RcAt.tuple_str (items := its.toArray) z t ob hu X.prog X.w X.xe (EP X pins σ Q) ⟨.bl false, H, I, rfl, no fun s e => nomatch e⟩
  | lst ne e l p =>
    cases rx
    obtain ⟨t, rfl⟩ := ry
    obtain ⟨its, r, pl, _⟩ := I.list (SqL.of e)
    exact SeqAt.RcAt.list_str (items := its.toArray) z t pl.isList hu X.prog X.w X.xe (EP X pins σ Q) ⟨.bl false, H, I, rfl, no fun s e => nomatch e⟩
  | dic ne e l nd ks p =>
    cases rx
    obtain ⟨t, rfl⟩ := ry
    obtain ⟨_, _, vs, _, o, es, ep, h1, h2, h3, _⟩ := (show ObjOk X.prog X.w H s.heap _ (.dK _) from I.hok _ _ e)
    exact rc_dict_str z t h1 h2.1 h3 hu X.prog X.w X.xe (EP X pins σ Q) ⟨.bl false, H, I, rfl, no fun s e => nomatch e⟩
end Wd

set_option Elab.async false
set_option linter.all false
set_option maxRecDepth 100000
set_option maxHeartbeats 4000000
/-! the written dicts and tuples of the module -/
namespace Wd
open PySem PySem.Spec PyProof.Rows L2
theorem lit_at {P : Params} : ∀ {l : List DictEntry}, PySem.W.KeysLit P l → ∀ z : Str, ((l.find? (·.key.isStr z)).isSome = true ↔ ∃ e ∈ l, ∃ t, e.key = .str z t) ∧ l.any (·.refKey) = false
  | [], _, z => ⟨by simp, rfl⟩
  | e :: r, ⟨⟨x, t, q, _⟩, h⟩, z => by
    have ih := lit_at h z
    have rk : e.refKey = false := by
      unfold DictEntry.refKey
      rw [q]
    constructor
    · rw [List.find?_cons]
      by_cases c : x = z
      · have c1 : e.key.isStr z = true := by
          rw [q, c]
          exact beq_self_eq_true z
        rw [c1]
        exact ⟨fun _ => ⟨e, List.mem_cons_self, t, by rw [q, c]⟩, fun _ => rfl⟩
      · have c1 : e.key.isStr z = false := by
          rw [q]
          exact beq_eq_false_iff_ne.mpr c
        rw [c1]
        refine ih.1.trans ⟨fun ⟨e', m, w⟩ => ⟨e', List.mem_cons_of_mem _ m, w⟩, fun ⟨e', m, t', w⟩ => ?_⟩
        rcases List.mem_cons.mp m with m | m
        · rw [m, q] at w
          injection w with w1
          exact (c w1).elim
        · exact ⟨e', m, t', w⟩
    · rw [List.any_cons, rk, ih.2]
      rfl
/-- a written dict with these keys -/
theorem dict_of {K : PySem.W.Frag} {w : World} {d : Addr} {ks : List Str} (h : He.dicW K d = some (He.keysIn w.params ks)) : ∃ es n, KDict K w d es n ∧ ∀ z : Str, ∃ r, PySem.W.nsIn K d z = some r ∧ (r.isSome = true ↔ z ∈ ks) := by
  obtain ⟨es, n, D⟩ := He.dicW_ok h
  refine ⟨es, n, D, fun z => ?_⟩
  obtain ⟨l1, l2⟩ := lit_at D.lit z
  have keys : es.toList.map He.keyOf = He.keysIn w.params ks := by
    have h' := h
    unfold He.dicW at h'
    rw [D.at_] at h'
    have low := D.low
    simp [low] at h'
    exact h'
  have mem : (∃ e ∈ es.toList, ∃ t, e.key = .str z t) ↔ z ∈ ks := by
    constructor
    · rintro ⟨e, he, t, q⟩
      have m : He.keyOf e ∈ He.keysIn w.params ks := keys ▸ List.mem_map.mpr ⟨e, he, rfl⟩
      have ke : He.keyOf e = some (z, e.hash) := by
        unfold He.keyOf
        rw [q]
      rw [ke] at m
      obtain ⟨k, hk', e'⟩ := List.mem_map.mp m
      have := (Prod.mk.inj (Option.some.inj e')).1
      exact this ▸ hk'
    · intro hz
      have m : some (z, PyData.keyHash w.params z) ∈ es.toList.map He.keyOf := keys ▸ List.mem_map.mpr ⟨z, hz, rfl⟩
      obtain ⟨e, he, q⟩ := List.mem_map.mp m
      unfold He.keyOf at q
      split at q
      · rename_i x t kq
        have := (Prod.mk.inj (Option.some.inj q)).1
        exact ⟨e, he, t, by rw [kq, this]⟩
      · cases q
  unfold PySem.W.nsIn
  rw [D.at_]
  dsimp only
  rw [← mem, ← l1]
  cases f : es.toList.find? (·.key.isStr z) with
  | some e => exact ⟨_, rfl, by simp⟩
  | none =>
    dsimp only
    rw [l2]
    exact ⟨none, rfl, by simp⟩
theorem abs_rel : ∀ {u : Value} {v : V}, absV u = some v → RelV v u := fun {u v} h => by
  unfold absV at h
  split at h <;> first | (cases h; first | exact rfl | exact ⟨_, rfl⟩) | cases h
theorem abs_vals : ∀ {us : List Value} {xs : List V}, us.map absV = xs.map some → Vals xs us
  | [], [], _ => .nil
  | [], _ :: _, h => nomatch h
  | _ :: _, [], h => nomatch h
  | u :: us, x :: xs, h => by
    rw [List.map_cons, List.map_cons] at h
    injection h with h1 h2
    exact .cons (abs_rel h1) (abs_vals h2)
/-- a written tuple -/
def tupB (K : PySem.W.Frag) (t : Addr) (xs : List V) : Bool := match K.lookup t with
  | some ⟨.type c, _, .seq vs _, _⟩ => decide (c = "tuple") && (decide (vs.size ≤ 1000) && decide (vs.toList.map absV = xs.map some))
  | _ => false
theorem tupB_of {K : PySem.W.Frag} {t : Addr} {xs : List V} (h : tupB K t xs = true) : ∀ H, SqT K H t xs := fun H => by
  unfold tupB at h
  split at h
  · rename_i c dd vs n sl e
    simp only [Bool.and_eq_true, decide_eq_true_iff] at h
    obtain ⟨rfl, h2, h3⟩ := h
    exact .inr ⟨_, vs, n, e, rfl, rfl, Nat.le_trans h2 (by decide), abs_vals h3⟩
  · cases h
def atB (K : PySem.W.Frag) (d : Addr) (z : Str) (xs : List V) : Bool := match PySem.W.nsIn K d z with
  | some (some (.ref t)) => tupB K t xs
  | _ => false
theorem atB_of {K : PySem.W.Frag} {w : World} {d : Addr} {es : Array DictEntry} {n : Nat} (D : KDict K w d es n) {z : Str} {xs : List V} (h : atB K d z xs = true) : ∃ t, KDct K w d z (.ref t) ∧ ∀ H, SqT K H t xs := by
  unfold atB at h
  split at h
  · rename_i t e
    exact ⟨t, ⟨es, n, _, D.at_, D.lit, e, rfl⟩, tupB_of h⟩
  · cases h
def argsB (K : PySem.W.Frag) (d : Addr) : Bool := sig.all fun p => atB K d p.1 (p.2.map fun o => V.str (kindS o))
def ranB (K : PySem.W.Frag) (d : Addr) : Bool := [Kind.delay, .count, .room, .width].all fun kd => atB K d kd.str [.int (lims kd).1, .int (lims kd).2]
def keys25 : List Str := ["source", "never", "one", "after", "every", "told", "it", "only", "pick", "fold", "first", "changes", "pairs", "quiet", "spaced", "late", "again", "+", "&", "at", "until", "then", "else", "switch", "busy"].map Str.ofString
def keys4 : List Str := ["delay", "count", "room", "width"].map Str.ofString
theorem keys25_mem (z : Str) : z ∈ keys25 ↔ z ∈ words ∨ z = Str.ofString "+" ∨ z = Str.ofString "&" := by
  constructor
  · intro h
    have all : ∀ y ∈ keys25, y ∈ words ∨ y = Str.ofString "+" ∨ y = Str.ofString "&" := by decide +kernel
    exact all z h
  · rintro (h | rfl | rfl)
    · have all : ∀ y ∈ words, y ∈ keys25 := by decide +kernel
      exact all z h
    · decide +kernel
    · decide +kernel
theorem keys25_sig (z : Str) : z ∈ keys25 ↔ ∃ ks, (z, ks) ∈ sig := by
  have e : sig.map (·.1) = keys25 := by decide +kernel
  rw [← e, List.mem_map]
  exact ⟨fun ⟨p, h1, h2⟩ => ⟨p.2, by rw [← h2]; exact h1⟩, fun ⟨ks, h⟩ => ⟨_, h, rfl⟩⟩
theorem atxt_of {K : PySem.W.Frag} {w : World} {mg : Str → Option Value} {d : Addr} (g : ∃ u, mg "ARGUMENTS" = some u ∧ RelV (.ref d) u) (h : He.dicW K d = some (He.keysIn w.params keys25)) (b : argsB K d = true) : ∃ es n, ATxt K w mg d es n ∧ STxt K w mg d es n := by
  obtain ⟨es, n, D, m⟩ := dict_of h
  refine ⟨es, n, ⟨g, D, fun z => ?_⟩, ⟨g, D, fun z => ?_, fun p hp => atB_of D (List.all_eq_true.mp b p hp)⟩⟩
  · obtain ⟨r, e, q⟩ := m z
    exact ⟨r, e, q.trans (keys25_mem z)⟩
  · obtain ⟨r, e, q⟩ := m z
    exact ⟨r, e, q.trans (keys25_sig z)⟩
theorem rtxt_of {K : PySem.W.Frag} {w : World} {mg : Str → Option Value} {d : Addr} (g : ∃ u, mg "RANGES" = some u ∧ RelV (.ref d) u) (h : He.dicW K d = some (He.keysIn w.params keys4)) (b : ranB K d = true) : RTxt K w mg d := by
  obtain ⟨es, n, D, m⟩ := dict_of h
  refine ⟨g, fun kd hk => atB_of D (List.all_eq_true.mp b kd ?_)⟩
  cases kd <;> first | decide | cases hk
theorem own_no {K : PySem.W.Frag} : Own K noT := ⟨fun _ h => h.elim, fun _ h => h.elim, fun h => h.elim, fun h => h.elim, fun h => h.elim, fun h => h.elim⟩
end Wd

set_option Elab.async false
set_option linter.all false
set_option maxRecDepth 100000
set_option maxHeartbeats 4000000
namespace Wd
open PySem L2 Br
open PySem.W (nsIn codeIn fnOf keepIn)
theorem all_mk {l : PySem.W.OpenLaw} {w : World} {K : PySem.W.Frag} {h : Heap} {mg : Str → Option Value} {fa : Addr} (KX : K.In h) (G : h.Ns mainGlobals mg) (hfa : mg "law" = some (.ref fa))
    {uIsInteger uIsBetween uIsLetter uIsLetters uIsName uHasForm uIsArgument uIsPlaces uIsTable uIsTablePair uPartsOf uArgumentText uHalfText uReadArgument uReadKind uReadPair uReadNumber uIsTree uWriteTree uReadTree uTextOf uWordsOf uJoinedWords uTreeOfWords uKindAfter uReadWord uStart uThrow uPick uLetter uLetters uWords uName uForms uRanges uTableText uLArgText uTreeText uLaw dA dR tB : Addr}
    {ocIsInteger kVIsInteger dcIsInteger pmIsInteger cdIsInteger ctIsInteger ocIsBetween kVIsBetween dcIsBetween pmIsBetween cdIsBetween ctIsBetween ocIsLetter kVIsLetter dcIsLetter pmIsLetter cdIsLetter ctIsLetter ocIsLetters kVIsLetters dcIsLetters pmIsLetters cdIsLetters ctIsLetters ocIsName kVIsName dcIsName pmIsName cdIsName ctIsName ocHasForm kVHasForm dcHasForm pmHasForm cdHasForm ctHasForm ocIsArgument kVIsArgument dcIsArgument pmIsArgument cdIsArgument ctIsArgument ocIsPlaces kVIsPlaces dcIsPlaces pmIsPlaces cdIsPlaces ctIsPlaces ocIsTable kVIsTable dcIsTable pmIsTable cdIsTable ctIsTable ocIsTablePair kVIsTablePair dcIsTablePair pmIsTablePair cdIsTablePair ctIsTablePair ocPartsOf kVPartsOf dcPartsOf pmPartsOf cdPartsOf ctPartsOf ocArgumentText kVArgumentText dcArgumentText pmArgumentText cdArgumentText ctArgumentText ocHalfText kVHalfText dcHalfText pmHalfText cdHalfText ctHalfText ocReadArgument kVReadArgument dcReadArgument pmReadArgument cdReadArgument ctReadArgument ocReadKind kVReadKind dcReadKind pmReadKind cdReadKind ctReadKind ocReadPair kVReadPair dcReadPair pmReadPair cdReadPair ctReadPair ocReadNumber kVReadNumber dcReadNumber pmReadNumber cdReadNumber ctReadNumber ocIsTree kVIsTree dcIsTree pmIsTree cdIsTree ctIsTree ocWriteTree kVWriteTree dcWriteTree pmWriteTree cdWriteTree ctWriteTree ocReadTree kVReadTree dcReadTree pmReadTree cdReadTree ctReadTree ocTextOf kVTextOf dcTextOf pmTextOf cdTextOf ctTextOf ocWordsOf kVWordsOf dcWordsOf pmWordsOf cdWordsOf ctWordsOf ocJoinedWords kVJoinedWords dcJoinedWords pmJoinedWords cdJoinedWords ctJoinedWords ocTreeOfWords kVTreeOfWords dcTreeOfWords pmTreeOfWords cdTreeOfWords ctTreeOfWords ocKindAfter kVKindAfter dcKindAfter pmKindAfter cdKindAfter ctKindAfter ocReadWord kVReadWord dcReadWord pmReadWord cdReadWord ctReadWord ocStart kVStart dcStart pmStart cdStart ctStart ocThrow kVThrow dcThrow pmThrow cdThrow ctThrow ocPick kVPick dcPick pmPick cdPick ctPick ocLetter kVLetter dcLetter pmLetter cdLetter ctLetter ocLetters kVLetters dcLetters pmLetters cdLetters ctLetters ocWords kVWords dcWords pmWords cdWords ctWords ocName kVName dcName pmName cdName ctName ocForms kVForms dcForms pmForms cdForms ctForms ocRanges kVRanges dcRanges pmRanges cdRanges ctRanges ocTableText kVTableText dcTableText pmTableText cdTableText ctTableText ocLArgText kVLArgText dcLArgText pmLArgText cdLArgText ctLArgText ocTreeText kVTreeText dcTreeText pmTreeText cdTreeText ctTreeText ocLaw kVLaw dcLaw pmLaw cdLaw ctLaw : Value} {odIsInteger anIsInteger odIsBetween anIsBetween odIsLetter anIsLetter odIsLetters anIsLetters odIsName anIsName odHasForm anHasForm odIsArgument anIsArgument odIsPlaces anIsPlaces odIsTable anIsTable odIsTablePair anIsTablePair odPartsOf anPartsOf odArgumentText anArgumentText odHalfText anHalfText odReadArgument anReadArgument odReadKind anReadKind odReadPair anReadPair odReadNumber anReadNumber odIsTree anIsTree odWriteTree anWriteTree odReadTree anReadTree odTextOf anTextOf odWordsOf anWordsOf odJoinedWords anJoinedWords odTreeOfWords anTreeOfWords odKindAfter anKindAfter odReadWord anReadWord odStart anStart odThrow anThrow odPick anPick odLetter anLetter odLetters anLetters odWords anWords odName anName odForms anForms odRanges anRanges odTableText anTableText odLArgText anLArgText odTreeText anTreeText odLaw anLaw : Option Addr} {slIsInteger slIsBetween slIsLetter slIsLetters slIsName slHasForm slIsArgument slIsPlaces slIsTable slIsTablePair slPartsOf slArgumentText slHalfText slReadArgument slReadKind slReadPair slReadNumber slIsTree slWriteTree slReadTree slTextOf slWordsOf slJoinedWords slTreeOfWords slKindAfter slReadWord slStart slThrow slPick slLetter slLetters slWords slName slForms slRanges slTableText slLArgText slTreeText slLaw : Array (Option Value)}
    {vIE vMN vMP vML vMC vMA vMS vMD : Int} {vLS vEM vDG : Str} {tIE tMN tMP tML tMC tMA tMS tMD tLS tEM tDG : Tok}
    (aIsInteger : nsIn K mainGlobals "is_integer" = some (some (.ref uIsInteger)))
    (lIsInteger : K.lookup uIsInteger = some ⟨ocIsInteger, odIsInteger, .func (fnOf "is_integer" "is_integer" (defArgs sIsInteger) (defBody sIsInteger) (defScope sIsInteger) .none kVIsInteger dcIsInteger pmIsInteger anIsInteger cdIsInteger ctIsInteger), slIsInteger⟩)
    (qIsInteger : codeIn K cdIsInteger "is_integer" = true)
    (kIsInteger : keepIn K (.ref uIsInteger) = true)
    (aIsBetween : nsIn K mainGlobals "is_between" = some (some (.ref uIsBetween)))
    (lIsBetween : K.lookup uIsBetween = some ⟨ocIsBetween, odIsBetween, .func (fnOf "is_between" "is_between" (defArgs sIsBetween) (defBody sIsBetween) (defScope sIsBetween) .none kVIsBetween dcIsBetween pmIsBetween anIsBetween cdIsBetween ctIsBetween), slIsBetween⟩)
    (qIsBetween : codeIn K cdIsBetween "is_between" = true)
    (kIsBetween : keepIn K (.ref uIsBetween) = true)
    (aIsLetter : nsIn K mainGlobals "is_letter" = some (some (.ref uIsLetter)))
    (lIsLetter : K.lookup uIsLetter = some ⟨ocIsLetter, odIsLetter, .func (fnOf "is_letter" "is_letter" (defArgs sIsLetter) (defBody sIsLetter) (defScope sIsLetter) .none kVIsLetter dcIsLetter pmIsLetter anIsLetter cdIsLetter ctIsLetter), slIsLetter⟩)
    (qIsLetter : codeIn K cdIsLetter "is_letter" = true)
    (kIsLetter : keepIn K (.ref uIsLetter) = true)
    (aIsLetters : nsIn K mainGlobals "is_letters" = some (some (.ref uIsLetters)))
    (lIsLetters : K.lookup uIsLetters = some ⟨ocIsLetters, odIsLetters, .func (fnOf "is_letters" "is_letters" (defArgs sIsLetters) (defBody sIsLetters) (defScope sIsLetters) .none kVIsLetters dcIsLetters pmIsLetters anIsLetters cdIsLetters ctIsLetters), slIsLetters⟩)
    (qIsLetters : codeIn K cdIsLetters "is_letters" = true)
    (kIsLetters : keepIn K (.ref uIsLetters) = true)
    (aIsName : nsIn K mainGlobals "is_name" = some (some (.ref uIsName)))
    (lIsName : K.lookup uIsName = some ⟨ocIsName, odIsName, .func (fnOf "is_name" "is_name" (defArgs sIsName) (defBody sIsName) (defScope sIsName) .none kVIsName dcIsName pmIsName anIsName cdIsName ctIsName), slIsName⟩)
    (qIsName : codeIn K cdIsName "is_name" = true)
    (kIsName : keepIn K (.ref uIsName) = true)
    (aHasForm : nsIn K mainGlobals "has_form" = some (some (.ref uHasForm)))
    (lHasForm : K.lookup uHasForm = some ⟨ocHasForm, odHasForm, .func (fnOf "has_form" "has_form" (defArgs sHasForm) (defBody sHasForm) (defScope sHasForm) .none kVHasForm dcHasForm pmHasForm anHasForm cdHasForm ctHasForm), slHasForm⟩)
    (qHasForm : codeIn K cdHasForm "has_form" = true)
    (kHasForm : keepIn K (.ref uHasForm) = true)
    (aIsArgument : nsIn K mainGlobals "is_argument" = some (some (.ref uIsArgument)))
    (lIsArgument : K.lookup uIsArgument = some ⟨ocIsArgument, odIsArgument, .func (fnOf "is_argument" "is_argument" (defArgs sIsArgument) (defBody sIsArgument) (defScope sIsArgument) .none kVIsArgument dcIsArgument pmIsArgument anIsArgument cdIsArgument ctIsArgument), slIsArgument⟩)
    (qIsArgument : codeIn K cdIsArgument "is_argument" = true)
    (kIsArgument : keepIn K (.ref uIsArgument) = true)
    (aIsPlaces : nsIn K mainGlobals "is_places" = some (some (.ref uIsPlaces)))
    (lIsPlaces : K.lookup uIsPlaces = some ⟨ocIsPlaces, odIsPlaces, .func (fnOf "is_places" "is_places" (defArgs sIsPlaces) (defBody sIsPlaces) (defScope sIsPlaces) .none kVIsPlaces dcIsPlaces pmIsPlaces anIsPlaces cdIsPlaces ctIsPlaces), slIsPlaces⟩)
    (qIsPlaces : codeIn K cdIsPlaces "is_places" = true)
    (kIsPlaces : keepIn K (.ref uIsPlaces) = true)
    (aIsTable : nsIn K mainGlobals "is_table" = some (some (.ref uIsTable)))
    (lIsTable : K.lookup uIsTable = some ⟨ocIsTable, odIsTable, .func (fnOf "is_table" "is_table" (defArgs sIsTable) (defBody sIsTable) (defScope sIsTable) .none kVIsTable dcIsTable pmIsTable anIsTable cdIsTable ctIsTable), slIsTable⟩)
    (qIsTable : codeIn K cdIsTable "is_table" = true)
    (kIsTable : keepIn K (.ref uIsTable) = true)
    (aIsTablePair : nsIn K mainGlobals "is_table_pair" = some (some (.ref uIsTablePair)))
    (lIsTablePair : K.lookup uIsTablePair = some ⟨ocIsTablePair, odIsTablePair, .func (fnOf "is_table_pair" "is_table_pair" (defArgs sIsTablePair) (defBody sIsTablePair) (defScope sIsTablePair) .none kVIsTablePair dcIsTablePair pmIsTablePair anIsTablePair cdIsTablePair ctIsTablePair), slIsTablePair⟩)
    (qIsTablePair : codeIn K cdIsTablePair "is_table_pair" = true)
    (kIsTablePair : keepIn K (.ref uIsTablePair) = true)
    (aPartsOf : nsIn K mainGlobals "parts_of" = some (some (.ref uPartsOf)))
    (lPartsOf : K.lookup uPartsOf = some ⟨ocPartsOf, odPartsOf, .func (fnOf "parts_of" "parts_of" (defArgs sPartsOf) (defBody sPartsOf) (defScope sPartsOf) .none kVPartsOf dcPartsOf pmPartsOf anPartsOf cdPartsOf ctPartsOf), slPartsOf⟩)
    (qPartsOf : codeIn K cdPartsOf "parts_of" = true)
    (kPartsOf : keepIn K (.ref uPartsOf) = true)
    (aArgumentText : nsIn K mainGlobals "argument_text" = some (some (.ref uArgumentText)))
    (lArgumentText : K.lookup uArgumentText = some ⟨ocArgumentText, odArgumentText, .func (fnOf "argument_text" "argument_text" (defArgs sArgumentText) (defBody sArgumentText) (defScope sArgumentText) .none kVArgumentText dcArgumentText pmArgumentText anArgumentText cdArgumentText ctArgumentText), slArgumentText⟩)
    (qArgumentText : codeIn K cdArgumentText "argument_text" = true)
    (kArgumentText : keepIn K (.ref uArgumentText) = true)
    (aHalfText : nsIn K mainGlobals "half_text" = some (some (.ref uHalfText)))
    (lHalfText : K.lookup uHalfText = some ⟨ocHalfText, odHalfText, .func (fnOf "half_text" "half_text" (defArgs sHalfText) (defBody sHalfText) (defScope sHalfText) .none kVHalfText dcHalfText pmHalfText anHalfText cdHalfText ctHalfText), slHalfText⟩)
    (qHalfText : codeIn K cdHalfText "half_text" = true)
    (kHalfText : keepIn K (.ref uHalfText) = true)
    (aReadArgument : nsIn K mainGlobals "read_argument" = some (some (.ref uReadArgument)))
    (lReadArgument : K.lookup uReadArgument = some ⟨ocReadArgument, odReadArgument, .func (fnOf "read_argument" "read_argument" (defArgs sReadArgument) (defBody sReadArgument) (defScope sReadArgument) .none kVReadArgument dcReadArgument pmReadArgument anReadArgument cdReadArgument ctReadArgument), slReadArgument⟩)
    (qReadArgument : codeIn K cdReadArgument "read_argument" = true)
    (kReadArgument : keepIn K (.ref uReadArgument) = true)
    (aReadKind : nsIn K mainGlobals "read_kind" = some (some (.ref uReadKind)))
    (lReadKind : K.lookup uReadKind = some ⟨ocReadKind, odReadKind, .func (fnOf "read_kind" "read_kind" (defArgs sReadKind) (defBody sReadKind) (defScope sReadKind) .none kVReadKind dcReadKind pmReadKind anReadKind cdReadKind ctReadKind), slReadKind⟩)
    (qReadKind : codeIn K cdReadKind "read_kind" = true)
    (kReadKind : keepIn K (.ref uReadKind) = true)
    (aReadPair : nsIn K mainGlobals "read_pair" = some (some (.ref uReadPair)))
    (lReadPair : K.lookup uReadPair = some ⟨ocReadPair, odReadPair, .func (fnOf "read_pair" "read_pair" (defArgs sReadPair) (defBody sReadPair) (defScope sReadPair) .none kVReadPair dcReadPair pmReadPair anReadPair cdReadPair ctReadPair), slReadPair⟩)
    (qReadPair : codeIn K cdReadPair "read_pair" = true)
    (kReadPair : keepIn K (.ref uReadPair) = true)
    (aReadNumber : nsIn K mainGlobals "read_number" = some (some (.ref uReadNumber)))
    (lReadNumber : K.lookup uReadNumber = some ⟨ocReadNumber, odReadNumber, .func (fnOf "read_number" "read_number" (defArgs sReadNumber) (defBody sReadNumber) (defScope sReadNumber) .none kVReadNumber dcReadNumber pmReadNumber anReadNumber cdReadNumber ctReadNumber), slReadNumber⟩)
    (qReadNumber : codeIn K cdReadNumber "read_number" = true)
    (kReadNumber : keepIn K (.ref uReadNumber) = true)
    (aIsTree : nsIn K mainGlobals "is_tree" = some (some (.ref uIsTree)))
    (lIsTree : K.lookup uIsTree = some ⟨ocIsTree, odIsTree, .func (fnOf "is_tree" "is_tree" (defArgs sIsTree) (defBody sIsTree) (defScope sIsTree) .none kVIsTree dcIsTree pmIsTree anIsTree cdIsTree ctIsTree), slIsTree⟩)
    (qIsTree : codeIn K cdIsTree "is_tree" = true)
    (kIsTree : keepIn K (.ref uIsTree) = true)
    (aWriteTree : nsIn K mainGlobals "write_tree" = some (some (.ref uWriteTree)))
    (lWriteTree : K.lookup uWriteTree = some ⟨ocWriteTree, odWriteTree, .func (fnOf "write_tree" "write_tree" (defArgs sWriteTree) (defBody sWriteTree) (defScope sWriteTree) .none kVWriteTree dcWriteTree pmWriteTree anWriteTree cdWriteTree ctWriteTree), slWriteTree⟩)
    (qWriteTree : codeIn K cdWriteTree "write_tree" = true)
    (kWriteTree : keepIn K (.ref uWriteTree) = true)
    (aReadTree : nsIn K mainGlobals "read_tree" = some (some (.ref uReadTree)))
    (lReadTree : K.lookup uReadTree = some ⟨ocReadTree, odReadTree, .func (fnOf "read_tree" "read_tree" (defArgs sReadTree) (defBody sReadTree) (defScope sReadTree) .none kVReadTree dcReadTree pmReadTree anReadTree cdReadTree ctReadTree), slReadTree⟩)
    (qReadTree : codeIn K cdReadTree "read_tree" = true)
    (kReadTree : keepIn K (.ref uReadTree) = true)
    (aTextOf : nsIn K mainGlobals "text_of" = some (some (.ref uTextOf)))
    (lTextOf : K.lookup uTextOf = some ⟨ocTextOf, odTextOf, .func (fnOf "text_of" "text_of" (defArgs sTextOf) (defBody sTextOf) (defScope sTextOf) .none kVTextOf dcTextOf pmTextOf anTextOf cdTextOf ctTextOf), slTextOf⟩)
    (qTextOf : codeIn K cdTextOf "text_of" = true)
    (kTextOf : keepIn K (.ref uTextOf) = true)
    (aWordsOf : nsIn K mainGlobals "words_of" = some (some (.ref uWordsOf)))
    (lWordsOf : K.lookup uWordsOf = some ⟨ocWordsOf, odWordsOf, .func (fnOf "words_of" "words_of" (defArgs sWordsOf) (defBody sWordsOf) (defScope sWordsOf) .none kVWordsOf dcWordsOf pmWordsOf anWordsOf cdWordsOf ctWordsOf), slWordsOf⟩)
    (qWordsOf : codeIn K cdWordsOf "words_of" = true)
    (kWordsOf : keepIn K (.ref uWordsOf) = true)
    (aJoinedWords : nsIn K mainGlobals "joined_words" = some (some (.ref uJoinedWords)))
    (lJoinedWords : K.lookup uJoinedWords = some ⟨ocJoinedWords, odJoinedWords, .func (fnOf "joined_words" "joined_words" (defArgs sJoinedWords) (defBody sJoinedWords) (defScope sJoinedWords) .none kVJoinedWords dcJoinedWords pmJoinedWords anJoinedWords cdJoinedWords ctJoinedWords), slJoinedWords⟩)
    (qJoinedWords : codeIn K cdJoinedWords "joined_words" = true)
    (kJoinedWords : keepIn K (.ref uJoinedWords) = true)
    (aTreeOfWords : nsIn K mainGlobals "tree_of_words" = some (some (.ref uTreeOfWords)))
    (lTreeOfWords : K.lookup uTreeOfWords = some ⟨ocTreeOfWords, odTreeOfWords, .func (fnOf "tree_of_words" "tree_of_words" (defArgs sTreeOfWords) (defBody sTreeOfWords) (defScope sTreeOfWords) .none kVTreeOfWords dcTreeOfWords pmTreeOfWords anTreeOfWords cdTreeOfWords ctTreeOfWords), slTreeOfWords⟩)
    (qTreeOfWords : codeIn K cdTreeOfWords "tree_of_words" = true)
    (kTreeOfWords : keepIn K (.ref uTreeOfWords) = true)
    (aKindAfter : nsIn K mainGlobals "kind_after" = some (some (.ref uKindAfter)))
    (lKindAfter : K.lookup uKindAfter = some ⟨ocKindAfter, odKindAfter, .func (fnOf "kind_after" "kind_after" (defArgs sKindAfter) (defBody sKindAfter) (defScope sKindAfter) .none kVKindAfter dcKindAfter pmKindAfter anKindAfter cdKindAfter ctKindAfter), slKindAfter⟩)
    (qKindAfter : codeIn K cdKindAfter "kind_after" = true)
    (kKindAfter : keepIn K (.ref uKindAfter) = true)
    (aReadWord : nsIn K mainGlobals "read_word" = some (some (.ref uReadWord)))
    (lReadWord : K.lookup uReadWord = some ⟨ocReadWord, odReadWord, .func (fnOf "read_word" "read_word" (defArgs sReadWord) (defBody sReadWord) (defScope sReadWord) .none kVReadWord dcReadWord pmReadWord anReadWord cdReadWord ctReadWord), slReadWord⟩)
    (qReadWord : codeIn K cdReadWord "read_word" = true)
    (kReadWord : keepIn K (.ref uReadWord) = true)
    (aStart : nsIn K mainGlobals "_law_start" = some (some (.ref uStart)))
    (lStart : K.lookup uStart = some ⟨ocStart, odStart, .func (fnOf "_law_start" "_law_start" (defArgs sStart) (defBody sStart) (defScope sStart) .none kVStart dcStart pmStart anStart cdStart ctStart), slStart⟩)
    (qStart : codeIn K cdStart "_law_start" = true)
    (kStart : keepIn K (.ref uStart) = true)
    (aThrow : nsIn K mainGlobals "_law_throw" = some (some (.ref uThrow)))
    (lThrow : K.lookup uThrow = some ⟨ocThrow, odThrow, .func (fnOf "_law_throw" "_law_throw" (defArgs sThrow) (defBody sThrow) (defScope sThrow) .none kVThrow dcThrow pmThrow anThrow cdThrow ctThrow), slThrow⟩)
    (qThrow : codeIn K cdThrow "_law_throw" = true)
    (kThrow : keepIn K (.ref uThrow) = true)
    (aPick : nsIn K mainGlobals "_law_pick" = some (some (.ref uPick)))
    (lPick : K.lookup uPick = some ⟨ocPick, odPick, .func (fnOf "_law_pick" "_law_pick" (defArgs sPick) (defBody sPick) (defScope sPick) .none kVPick dcPick pmPick anPick cdPick ctPick), slPick⟩)
    (qPick : codeIn K cdPick "_law_pick" = true)
    (kPick : keepIn K (.ref uPick) = true)
    (aLetter : nsIn K mainGlobals "_law_letter" = some (some (.ref uLetter)))
    (lLetter : K.lookup uLetter = some ⟨ocLetter, odLetter, .func (fnOf "_law_letter" "_law_letter" (defArgs sLetter) (defBody sLetter) (defScope sLetter) .none kVLetter dcLetter pmLetter anLetter cdLetter ctLetter), slLetter⟩)
    (qLetter : codeIn K cdLetter "_law_letter" = true)
    (kLetter : keepIn K (.ref uLetter) = true)
    (aLetters : nsIn K mainGlobals "_law_letters" = some (some (.ref uLetters)))
    (lLetters : K.lookup uLetters = some ⟨ocLetters, odLetters, .func (fnOf "_law_letters" "_law_letters" (defArgs sLetters) (defBody sLetters) (defScope sLetters) .none kVLetters dcLetters pmLetters anLetters cdLetters ctLetters), slLetters⟩)
    (qLetters : codeIn K cdLetters "_law_letters" = true)
    (kLetters : keepIn K (.ref uLetters) = true)
    (aWords : nsIn K mainGlobals "_law_words" = some (some (.ref uWords)))
    (lWords : K.lookup uWords = some ⟨ocWords, odWords, .func (fnOf "_law_words" "_law_words" (defArgs sWords) (defBody sWords) (defScope sWords) .none kVWords dcWords pmWords anWords cdWords ctWords), slWords⟩)
    (qWords : codeIn K cdWords "_law_words" = true)
    (kWords : keepIn K (.ref uWords) = true)
    (aName : nsIn K mainGlobals "_law_name" = some (some (.ref uName)))
    (lName : K.lookup uName = some ⟨ocName, odName, .func (fnOf "_law_name" "_law_name" (defArgs sName) (defBody sName) (defScope sName) .none kVName dcName pmName anName cdName ctName), slName⟩)
    (qName : codeIn K cdName "_law_name" = true)
    (kName : keepIn K (.ref uName) = true)
    (aForms : nsIn K mainGlobals "_law_forms" = some (some (.ref uForms)))
    (lForms : K.lookup uForms = some ⟨ocForms, odForms, .func (fnOf "_law_forms" "_law_forms" (defArgs sForms) (defBody sForms) (defScope sForms) .none kVForms dcForms pmForms anForms cdForms ctForms), slForms⟩)
    (qForms : codeIn K cdForms "_law_forms" = true)
    (kForms : keepIn K (.ref uForms) = true)
    (aRanges : nsIn K mainGlobals "_law_ranges" = some (some (.ref uRanges)))
    (lRanges : K.lookup uRanges = some ⟨ocRanges, odRanges, .func (fnOf "_law_ranges" "_law_ranges" (defArgs sRanges) (defBody sRanges) (defScope sRanges) .none kVRanges dcRanges pmRanges anRanges cdRanges ctRanges), slRanges⟩)
    (qRanges : codeIn K cdRanges "_law_ranges" = true)
    (kRanges : keepIn K (.ref uRanges) = true)
    (aTableText : nsIn K mainGlobals "_law_table_text" = some (some (.ref uTableText)))
    (lTableText : K.lookup uTableText = some ⟨ocTableText, odTableText, .func (fnOf "_law_table_text" "_law_table_text" (defArgs sTableText) (defBody sTableText) (defScope sTableText) .none kVTableText dcTableText pmTableText anTableText cdTableText ctTableText), slTableText⟩)
    (qTableText : codeIn K cdTableText "_law_table_text" = true)
    (kTableText : keepIn K (.ref uTableText) = true)
    (aLArgText : nsIn K mainGlobals "_law_argument_text" = some (some (.ref uLArgText)))
    (lLArgText : K.lookup uLArgText = some ⟨ocLArgText, odLArgText, .func (fnOf "_law_argument_text" "_law_argument_text" (defArgs sLArgText) (defBody sLArgText) (defScope sLArgText) .none kVLArgText dcLArgText pmLArgText anLArgText cdLArgText ctLArgText), slLArgText⟩)
    (qLArgText : codeIn K cdLArgText "_law_argument_text" = true)
    (kLArgText : keepIn K (.ref uLArgText) = true)
    (aTreeText : nsIn K mainGlobals "_law_tree_text" = some (some (.ref uTreeText)))
    (lTreeText : K.lookup uTreeText = some ⟨ocTreeText, odTreeText, .func (fnOf "_law_tree_text" "_law_tree_text" (defArgs sTreeText) (defBody sTreeText) (defScope sTreeText) .none kVTreeText dcTreeText pmTreeText anTreeText cdTreeText ctTreeText), slTreeText⟩)
    (qTreeText : codeIn K cdTreeText "_law_tree_text" = true)
    (kTreeText : keepIn K (.ref uTreeText) = true)
    (aLaw : nsIn K mainGlobals "law" = some (some (.ref uLaw)))
    (lLaw : K.lookup uLaw = some ⟨ocLaw, odLaw, .func (fnOf "law" "law" (defArgs sLaw) (defBody sLaw) (defScope sLaw) .none kVLaw dcLaw pmLaw anLaw cdLaw ctLaw), slLaw⟩)
    (qLaw : codeIn K cdLaw "law" = true)
    (kLaw : keepIn K (.ref uLaw) = true)
    (zlen : nsIn K mainGlobals "len" = some none)
    (zint : nsIn K mainGlobals "int" = some none)
    (zbool : nsIn K mainGlobals "bool" = some none)
    (zstr : nsIn K mainGlobals "str" = some none)
    (ztuple : nsIn K mainGlobals "tuple" = some none)
    (zdict : nsIn K mainGlobals "dict" = some none)
    (zall : nsIn K mainGlobals "all" = some none)
    (zrange : nsIn K mainGlobals "range" = some none)
    (zisinstance : nsIn K mainGlobals "isinstance" = some none)
    (zabs : nsIn K mainGlobals "abs" = some none)
    (zlist : nsIn K mainGlobals "list" = some none)
    (zsorted : nsIn K mainGlobals "sorted" = some none)
    (zmax : nsIn K mainGlobals "max" = some none)
    (zmin : nsIn K mainGlobals "min" = some none)
    (zenumerate : nsIn K mainGlobals "enumerate" = some none)
    (zrepr : nsIn K mainGlobals "repr" = some none)
    (cIE : nsIn K mainGlobals "INTEGER_END" = some (some (.int vIE tIE)))
    (eIE : vIE = ten60)
    (cMN : nsIn K mainGlobals "MAX_NAME" = some (some (.int vMN tMN)))
    (eMN : vMN = 8)
    (cMP : nsIn K mainGlobals "MAX_PARTS" = some (some (.int vMP tMP)))
    (eMP : vMP = 12)
    (cML : nsIn K mainGlobals "MAX_PLACES" = some (some (.int vML tML)))
    (eML : vML = 4)
    (cMC : nsIn K mainGlobals "MAX_PLACE" = some (some (.int vMC tMC)))
    (eMC : vMC = 3)
    (cMA : nsIn K mainGlobals "MAX_PAIRS" = some (some (.int vMA tMA)))
    (eMA : vMA = 20)
    (cMS : nsIn K mainGlobals "MAX_STATE" = some (some (.int vMS tMS)))
    (eMS : vMS = 8)
    (cMD : nsIn K mainGlobals "MAX_DIGITS" = some (some (.int vMD tMD)))
    (eMD : vMD = 60)
    (cLS : nsIn K mainGlobals "LETTERS" = some (some (.str vLS tLS)))
    (eLS : vLS = Str.ofString "abcdefghijklmnopqrstuvwxyz")
    (cEM : nsIn K mainGlobals "EMPTY" = some (some (.str vEM tEM)))
    (eEM : vEM = Str.ofString "-")
    (cDG : nsIn K mainGlobals "DIGITS" = some (some (.str vDG tDG)))
    (eDG : vDG = Str.ofString "0123456789")
    (cA : nsIn K mainGlobals "ARGUMENTS" = some (some (.ref dA)))
    (eA : He.dicW K dA = some (He.keysIn w.params keys25))
    (bA : argsB K dA = true)
    (cR : nsIn K mainGlobals "RANGES" = some (some (.ref dR)))
    (eR : He.dicW K dR = some (He.keysIn w.params keys4))
    (bR : ranB K dR = true)
    (cB : nsIn K mainGlobals "BARE" = some (some (.ref tB)))
    (bB : tupB K tB [.str (Str.ofString "source"), .str (Str.ofString "it")] = true) :
    ∃ fd : FuncData, (∀ (s : Shared) (v : Value), BindsTo s fd ⟨[v], []⟩ [("script", v)]) ∧ ∀ base : Heap, K.In base → base.Ns mainGlobals mg → GnOk l.prog w K mg base CX0 19 fa fd ["script"] (Wd.spLaw K) := by
  have e := hfa.symm.trans (PySem.W.mg_of KX G aLaw)
  cases e
  have FIsInteger := fun_mk (st := sIsInteger) lIsInteger qIsInteger kIsInteger
  have bIsInteger := FIsInteger.binds (ps := ["value"]) fun _ _ _ _ _ _ us hl => match us, hl with | [_], _ => rfl
  have FIsBetween := fun_mk (st := sIsBetween) lIsBetween qIsBetween kIsBetween
  have bIsBetween := FIsBetween.binds (ps := ["value", "least", "most"]) fun _ _ _ _ _ _ us hl => match us, hl with | [_, _, _], _ => rfl
  have FIsLetter := fun_mk (st := sIsLetter) lIsLetter qIsLetter kIsLetter
  have bIsLetter := FIsLetter.binds (ps := ["value"]) fun _ _ _ _ _ _ us hl => match us, hl with | [_], _ => rfl
  have FIsLetters := fun_mk (st := sIsLetters) lIsLetters qIsLetters kIsLetters
  have bIsLetters := FIsLetters.binds (ps := ["value"]) fun _ _ _ _ _ _ us hl => match us, hl with | [_], _ => rfl
  have FIsName := fun_mk (st := sIsName) lIsName qIsName kIsName
  have bIsName := FIsName.binds (ps := ["value"]) fun _ _ _ _ _ _ us hl => match us, hl with | [_], _ => rfl
  have FHasForm := fun_mk (st := sHasForm) lHasForm qHasForm kHasForm
  have bHasForm := FHasForm.binds (ps := ["value"]) fun _ _ _ _ _ _ us hl => match us, hl with | [_], _ => rfl
  have FIsArgument := fun_mk (st := sIsArgument) lIsArgument qIsArgument kIsArgument
  have bIsArgument := FIsArgument.binds (ps := ["value", "kind"]) fun _ _ _ _ _ _ us hl => match us, hl with | [_, _], _ => rfl
  have FIsPlaces := fun_mk (st := sIsPlaces) lIsPlaces qIsPlaces kIsPlaces
  have bIsPlaces := FIsPlaces.binds (ps := ["value"]) fun _ _ _ _ _ _ us hl => match us, hl with | [_], _ => rfl
  have FIsTable := fun_mk (st := sIsTable) lIsTable qIsTable kIsTable
  have bIsTable := FIsTable.binds (ps := ["value"]) fun _ _ _ _ _ _ us hl => match us, hl with | [_], _ => rfl
  have FIsTablePair := fun_mk (st := sIsTablePair) lIsTablePair qIsTablePair kIsTablePair
  have bIsTablePair := FIsTablePair.binds (ps := ["value"]) fun _ _ _ _ _ _ us hl => match us, hl with | [_], _ => rfl
  have FPartsOf := fun_mk (st := sPartsOf) lPartsOf qPartsOf kPartsOf
  have bPartsOf := FPartsOf.binds (ps := ["tree"]) fun _ _ _ _ _ _ us hl => match us, hl with | [_], _ => rfl
  have FArgumentText := fun_mk (st := sArgumentText) lArgumentText qArgumentText kArgumentText
  have bArgumentText := FArgumentText.binds (ps := ["value", "kind"]) fun _ _ _ _ _ _ us hl => match us, hl with | [_, _], _ => rfl
  have FHalfText := fun_mk (st := sHalfText) lHalfText qHalfText kHalfText
  have bHalfText := FHalfText.binds (ps := ["half"]) fun _ _ _ _ _ _ us hl => match us, hl with | [_], _ => rfl
  have FReadArgument := fun_mk (st := sReadArgument) lReadArgument qReadArgument kReadArgument
  have bReadArgument := FReadArgument.binds (ps := ["word", "kind"]) fun _ _ _ _ _ _ us hl => match us, hl with | [_, _], _ => rfl
  have FReadKind := fun_mk (st := sReadKind) lReadKind qReadKind kReadKind
  have bReadKind := FReadKind.binds (ps := ["word", "kind"]) fun _ _ _ _ _ _ us hl => match us, hl with | [_, _], _ => rfl
  have FReadPair := fun_mk (st := sReadPair) lReadPair qReadPair kReadPair
  have bReadPair := FReadPair.binds (ps := ["word"]) fun _ _ _ _ _ _ us hl => match us, hl with | [_], _ => rfl
  have FReadNumber := fun_mk (st := sReadNumber) lReadNumber qReadNumber kReadNumber
  have bReadNumber := FReadNumber.binds (ps := ["word"]) fun _ _ _ _ _ _ us hl => match us, hl with | [_], _ => rfl
  have FIsTree := fun_mk (st := sIsTree) lIsTree qIsTree kIsTree
  have bIsTree := FIsTree.binds (ps := ["value"]) fun _ _ _ _ _ _ us hl => match us, hl with | [_], _ => rfl
  have FWriteTree := fun_mk (st := sWriteTree) lWriteTree qWriteTree kWriteTree
  have bWriteTree := FWriteTree.binds (ps := ["tree"]) fun _ _ _ _ _ _ us hl => match us, hl with | [_], _ => rfl
  have FReadTree := fun_mk (st := sReadTree) lReadTree qReadTree kReadTree
  have bReadTree := FReadTree.binds (ps := ["text"]) fun _ _ _ _ _ _ us hl => match us, hl with | [_], _ => rfl
  have FTextOf := fun_mk (st := sTextOf) lTextOf qTextOf kTextOf
  have bTextOf := FTextOf.binds (ps := ["tree"]) fun _ _ _ _ _ _ us hl => match us, hl with | [_], _ => rfl
  have FWordsOf := fun_mk (st := sWordsOf) lWordsOf qWordsOf kWordsOf
  have bWordsOf := FWordsOf.binds (ps := ["text"]) fun _ _ _ _ _ _ us hl => match us, hl with | [_], _ => rfl
  have FJoinedWords := fun_mk (st := sJoinedWords) lJoinedWords qJoinedWords kJoinedWords
  have bJoinedWords := FJoinedWords.binds (ps := ["words"]) fun _ _ _ _ _ _ us hl => match us, hl with | [_], _ => rfl
  have FTreeOfWords := fun_mk (st := sTreeOfWords) lTreeOfWords qTreeOfWords kTreeOfWords
  have bTreeOfWords := FTreeOfWords.binds (ps := ["words"]) fun _ _ _ _ _ _ us hl => match us, hl with | [_], _ => rfl
  have FKindAfter := fun_mk (st := sKindAfter) lKindAfter qKindAfter kKindAfter
  have bKindAfter := FKindAfter.binds (ps := ["begun"]) fun _ _ _ _ _ _ us hl => match us, hl with | [_], _ => rfl
  have FReadWord := fun_mk (st := sReadWord) lReadWord qReadWord kReadWord
  have bReadWord := FReadWord.binds (ps := ["word", "kind"]) fun _ _ _ _ _ _ us hl => match us, hl with | [_, _], _ => rfl
  have FStart := fun_mk (st := sStart) lStart qStart kStart
  have bStart := FStart.binds (ps := ["script", "at"]) fun _ _ _ _ _ _ us hl => match us, hl with | [_, _], _ => rfl
  have FThrow := fun_mk (st := sThrow) lThrow qThrow kThrow
  have bThrow := FThrow.binds (ps := ["bag", "total"]) fun _ _ _ _ _ _ us hl => match us, hl with | [_, _], _ => rfl
  have FPick := fun_mk (st := sPick) lPick qPick kPick
  have bPick := FPick.binds (ps := ["bag", "items"]) fun _ _ _ _ _ _ us hl => match us, hl with | [_, _], _ => rfl
  have FLetter := fun_mk (st := sLetter) lLetter qLetter kLetter
  have bLetter := FLetter.binds (ps := ["bag"]) fun _ _ _ _ _ _ us hl => match us, hl with | [_], _ => rfl
  have FLetters := fun_mk (st := sLetters) lLetters qLetters kLetters
  have bLetters := FLetters.binds (ps := ["bag", "most"]) fun _ _ _ _ _ _ us hl => match us, hl with | [_, _], _ => rfl
  have FWords := fun_mk (st := sWords) lWords qWords kWords
  have bWords := FWords.binds (ps := []) fun _ _ _ _ _ _ us hl => match us, hl with | [], _ => rfl
  have FName := fun_mk (st := sName) lName qName kName
  have bName := FName.binds (ps := ["bag", "used"]) fun _ _ _ _ _ _ us hl => match us, hl with | [_, _], _ => rfl
  have FForms := fun_mk (st := sForms) lForms qForms kForms
  have bForms := FForms.binds (ps := []) fun _ _ _ _ _ _ us hl => match us, hl with | [], _ => rfl
  have FRanges := fun_mk (st := sRanges) lRanges qRanges kRanges
  have bRanges := FRanges.binds (ps := ["code"]) fun _ _ _ _ _ _ us hl => match us, hl with | [_], _ => rfl
  have FTableText := fun_mk (st := sTableText) lTableText qTableText kTableText
  have bTableText := FTableText.binds (ps := ["bag"]) fun _ _ _ _ _ _ us hl => match us, hl with | [_], _ => rfl
  have FLArgText := fun_mk (st := sLArgText) lLArgText qLArgText kLArgText
  have bLArgText := FLArgText.binds (ps := ["bag", "code"]) fun _ _ _ _ _ _ us hl => match us, hl with | [_, _], _ => rfl
  have FTreeText := fun_mk (st := sTreeText) lTreeText qTreeText kTreeText
  have bTreeText := FTreeText.binds (ps := ["bag", "size"]) fun _ _ _ _ _ _ us hl => match us, hl with | [_, _], _ => rfl
  have FLaw := fun_mk (st := sLaw) lLaw qLaw kLaw
  refine ⟨fnOf "law" "law" (defArgs sLaw) (defBody sLaw) (defScope sLaw) .none kVLaw dcLaw pmLaw anLaw cdLaw ctLaw, fun s v => .of_eq rfl, fun base _ _ => ?_⟩
  have X : WTxt mg uIsInteger uIsLetter := {
    len := (PySem.W.mg_none_of KX G zlen), isin := (PySem.W.mg_none_of KX G zisinstance), int := (PySem.W.mg_none_of KX G zint), bool := (PySem.W.mg_none_of KX G zbool), str := (PySem.W.mg_none_of KX G zstr), tup := (PySem.W.mg_none_of KX G ztuple), dict := (PySem.W.mg_none_of KX G zdict), all := (PySem.W.mg_none_of KX G zall), range := (PySem.W.mg_none_of KX G zrange),
    ie := ⟨_, (PySem.W.mg_of KX G cIE), tIE, by rw [eIE]⟩, ls := ⟨_, (PySem.W.mg_of KX G cLS), tLS, by rw [eLS]⟩, mn := ⟨_, (PySem.W.mg_of KX G cMN), tMN, by rw [eMN]⟩, fi := (PySem.W.mg_of KX G aIsInteger), fl := (PySem.W.mg_of KX G aIsLetter) }
  have Y : FTxt mg uIsBetween := { btw := (PySem.W.mg_of KX G aIsBetween), mpl := ⟨_, (PySem.W.mg_of KX G cML), tML, by rw [eML]⟩, mp := ⟨_, (PySem.W.mg_of KX G cMC), tMC, by rw [eMC]⟩, mpa := ⟨_, (PySem.W.mg_of KX G cMA), tMA, by rw [eMA]⟩, mst := ⟨_, (PySem.W.mg_of KX G cMS), tMS, by rw [eMS]⟩ }
  have NX : NTxt mg := { len := (PySem.W.mg_none_of KX G zlen), all := (PySem.W.mg_none_of KX G zall), int := (PySem.W.mg_none_of KX G zint), str := (PySem.W.mg_none_of KX G zstr), tup := (PySem.W.mg_none_of KX G ztuple), range := (PySem.W.mg_none_of KX G zrange), md := ⟨_, (PySem.W.mg_of KX G cMD), tMD, by rw [eMD]⟩, dg := ⟨_, (PySem.W.mg_of KX G cDG), tDG, by rw [eDG]⟩, em := ⟨_, (PySem.W.mg_of KX G cEM), tEM, by rw [eEM]; rfl⟩ }
  have JX : JTxt mg := { enum := (PySem.W.mg_none_of KX G zenumerate), isin := (PySem.W.mg_none_of KX G zisinstance), str := (PySem.W.mg_none_of KX G zstr) }
  have MX : MTxt mg := { min := (PySem.W.mg_none_of KX G zmin) }
  have LX : LTxt mg := { len := (PySem.W.mg_none_of KX G zlen), range := (PySem.W.mg_none_of KX G zrange), max := (PySem.W.mg_none_of KX G zmax), repr := (PySem.W.mg_none_of KX G zrepr), isin := (PySem.W.mg_none_of KX G zisinstance), str := (PySem.W.mg_none_of KX G zstr) }
  have GX : GTxt mg uThrow uPick := { len := (PySem.W.mg_none_of KX G zlen), int := (PySem.W.mg_none_of KX G zint), abs := (PySem.W.mg_none_of KX G zabs), max := (PySem.W.mg_none_of KX G zmax), thr := (PySem.W.mg_of KX G aThrow), pick := (PySem.W.mg_of KX G aPick), range := (PySem.W.mg_none_of KX G zrange), sorted := (PySem.W.mg_none_of KX G zsorted), list := (PySem.W.mg_none_of KX G zlist), tuple := (PySem.W.mg_none_of KX G ztuple) }
  obtain ⟨es, nA, ZA, Z⟩ := atxt_of (K := K) (w := w) (mg := mg) (d := dA) ⟨_, (PySem.W.mg_of KX G cA), rfl⟩ eA bA
  have R : RTxt K w mg dR := rtxt_of ⟨_, (PySem.W.mg_of KX G cR), rfl⟩ eR bR
  have BX : BTxt K mg tB := ⟨⟨_, (PySem.W.mg_of KX G cB), rfl⟩, tupB_of bB⟩
  have O : Own K noT := own_no
  have hE : ∀ X : Cx, X.prog = l.prog → X.w = w → X.K = K → X.mg = mg → X.base = base → Room 2 X.A → OpR X (compareOp .Eq) (rEqT noT) := fun X e1 e2 e3 e4 e5 hr => op_eqT (Nat.lt_of_le_of_lt (Nat.le_add_right _ _) hr.units) (fun pins s σ H x y v u Q I rx ry h => by
    obtain ⟨_, _, _, _, _, t, _⟩ := h
    exact t.elim)
  have GIsInteger : FnOk l.prog w K mg base CX0 1 uIsInteger _ ["value"] (spIs noT fun _ => IsInt) := ok_is_integer O FIsInteger X
  have AIsInteger : At l.prog w K mg base 1 "is_integer" uIsInteger _ ["value"] (spIs noT fun _ => IsInt) := ⟨(PySem.W.mg_of KX G aIsInteger), kIsInteger, bIsInteger, GIsInteger⟩
  have GIsLetter : FnOk l.prog w K mg base CX0 1 uIsLetter _ ["value"] (spIs noT fun _ => IsLet) := ok_is_letter O FIsLetter X
  have AIsLetter : At l.prog w K mg base 1 "is_letter" uIsLetter _ ["value"] (spIs noT fun _ => IsLet) := ⟨(PySem.W.mg_of KX G aIsLetter), kIsLetter, bIsLetter, GIsLetter⟩
  have GIsLetters : FnOk l.prog w K mg base CX0 2 uIsLetters _ ["value"] (spIs noT IsLetters) := ok_is_letters O FIsLetters X FIsLetter bIsLetter
  have AIsLetters : At l.prog w K mg base 2 "is_letters" uIsLetters _ ["value"] (spIs noT IsLetters) := ⟨(PySem.W.mg_of KX G aIsLetters), kIsLetters, bIsLetters, GIsLetters⟩
  have GIsName : FnOk l.prog w K mg base CX0 2 uIsName _ ["value"] (spIs noT fun _ => IsName) := ok_is_name O FIsName X ZA FIsLetter bIsLetter
  have AIsName : At l.prog w K mg base 2 "is_name" uIsName _ ["value"] (spIs noT fun _ => IsName) := ⟨(PySem.W.mg_of KX G aIsName), kIsName, bIsName, GIsName⟩
  have GIsBetween : FnOk l.prog w K mg base CX0 2 uIsBetween _ ["value", "least", "most"] (spBetween noT) := ok_is_between O FIsBetween X FIsInteger bIsInteger
  have AIsBetween : At l.prog w K mg base 2 "is_between" uIsBetween _ ["value", "least", "most"] (spBetween noT) := ⟨(PySem.W.mg_of KX G aIsBetween), kIsBetween, bIsBetween, GIsBetween⟩
  have GIsPlaces : FnOk l.prog w K mg base CX0 3 uIsPlaces _ ["value"] (spIs noT IsPlaces) := ok_is_places O FIsPlaces X Y FIsInteger bIsInteger FIsBetween bIsBetween
  have AIsPlaces : At l.prog w K mg base 3 "is_places" uIsPlaces _ ["value"] (spIs noT IsPlaces) := ⟨(PySem.W.mg_of KX G aIsPlaces), kIsPlaces, bIsPlaces, GIsPlaces⟩
  have GIsTable : FnOk l.prog w K mg base CX0 4 uIsTable _ ["value"] (spIs noT IsTable) := ok_is_table O FIsTable X Y (PySem.W.mg_of KX G aIsTablePair) FIsInteger bIsInteger FIsBetween bIsBetween FIsLetter bIsLetter FIsTablePair bIsTablePair hE
  have AIsTable : At l.prog w K mg base 4 "is_table" uIsTable _ ["value"] (spIs noT IsTable) := ⟨(PySem.W.mg_of KX G aIsTable), kIsTable, bIsTable, GIsTable⟩
  have GIsArgument : FnOk l.prog w K mg base CX0 5 uIsArgument _ ["value", "kind"] (spArg noT) := ok_is_argument FIsArgument R AIsName AIsLetter AIsLetters AIsPlaces AIsTable AIsBetween
  have AIsArgument : At l.prog w K mg base 5 "is_argument" uIsArgument _ ["value", "kind"] (spArg noT) := ⟨(PySem.W.mg_of KX G aIsArgument), kIsArgument, bIsArgument, GIsArgument⟩
  have GHasForm : FnOk l.prog w K mg base CX0 6 uHasForm _ ["value"] (spIs noT HasForm) := ok_has_form O FHasForm X Z AIsArgument
  have AHasForm : At l.prog w K mg base 6 "has_form" uHasForm _ ["value"] (spIs noT HasForm) := ⟨(PySem.W.mg_of KX G aHasForm), kHasForm, bHasForm, GHasForm⟩
  have GPartsOf : FnOk l.prog w K mg base CX0 1 uPartsOf _ ["tree"] (spParts) := ok_parts_of FPartsOf X Z
  have APartsOf : At l.prog w K mg base 1 "parts_of" uPartsOf _ ["tree"] (spParts) := ⟨(PySem.W.mg_of KX G aPartsOf), kPartsOf, bPartsOf, GPartsOf⟩
  have GIsTree : FnOk l.prog w K mg base CX0 7 uIsTree _ ["value"] (spTree) := ok_is_tree FIsTree ⟨_, (PySem.W.mg_of KX G cMP), tMP, by rw [eMP]⟩ AHasForm APartsOf
  have AIsTree : At l.prog w K mg base 7 "is_tree" uIsTree _ ["value"] (spTree) := ⟨(PySem.W.mg_of KX G aIsTree), kIsTree, bIsTree, GIsTree⟩
  have GReadNumber : FnOk l.prog w K mg base CX0 1 uReadNumber _ ["word"] (spNum) := ok_read_number FReadNumber NX
  have AReadNumber : At l.prog w K mg base 1 "read_number" uReadNumber _ ["word"] (spNum) := ⟨(PySem.W.mg_of KX G aReadNumber), kReadNumber, bReadNumber, GReadNumber⟩
  have GReadPair : FnOk l.prog w K mg base CX0 2 uReadPair _ ["word"] (spPair) := ok_read_pair FReadPair NX AReadNumber
  have AReadPair : At l.prog w K mg base 2 "read_pair" uReadPair _ ["word"] (spPair) := ⟨(PySem.W.mg_of KX G aReadPair), kReadPair, bReadPair, GReadPair⟩
  have GHalfText : FnOk l.prog w K mg base CX0 1 uHalfText _ ["half"] (spHalf) := ok_half FHalfText NX
  have AHalfText : At l.prog w K mg base 1 "half_text" uHalfText _ ["half"] (spHalf) := ⟨(PySem.W.mg_of KX G aHalfText), kHalfText, bHalfText, GHalfText⟩
  have GArgumentText : FnOk l.prog w K mg base CX0 2 uArgumentText _ ["value", "kind"] (spArgText) := ok_argument_text FArgumentText NX AHalfText
  have AArgumentText : At l.prog w K mg base 2 "argument_text" uArgumentText _ ["value", "kind"] (spArgText) := ⟨(PySem.W.mg_of KX G aArgumentText), kArgumentText, bArgumentText, GArgumentText⟩
  have GReadKind : FnOk l.prog w K mg base CX0 3 uReadKind _ ["word", "kind"] (spReadKind) := ok_read_kind FReadKind NX AReadNumber AReadPair
  have AReadKind : At l.prog w K mg base 3 "read_kind" uReadKind _ ["word", "kind"] (spReadKind) := ⟨(PySem.W.mg_of KX G aReadKind), kReadKind, bReadKind, GReadKind⟩
  have GReadArgument : FnOk l.prog w K mg base CX0 6 uReadArgument _ ["word", "kind"] (spReadKind) := ok_read_argument FReadArgument AReadKind AIsArgument
  have AReadArgument : At l.prog w K mg base 6 "read_argument" uReadArgument _ ["word", "kind"] (spReadKind) := ⟨(PySem.W.mg_of KX G aReadArgument), kReadArgument, bReadArgument, GReadArgument⟩
  have GReadWord : FnOk l.prog w K mg base CX0 7 uReadWord _ ["word", "kind"] (spReadWord) := ok_read_word FReadWord Z BX AReadArgument AIsName
  have AReadWord : At l.prog w K mg base 7 "read_word" uReadWord _ ["word", "kind"] (spReadWord) := ⟨(PySem.W.mg_of KX G aReadWord), kReadWord, bReadWord, GReadWord⟩
  have GKindAfter : FnOk l.prog w K mg base CX0 1 uKindAfter _ ["begun"] (spKindAfter) := ok_kind_after FKindAfter Z NX
  have AKindAfter : At l.prog w K mg base 1 "kind_after" uKindAfter _ ["begun"] (spKindAfter) := ⟨(PySem.W.mg_of KX G aKindAfter), kKindAfter, bKindAfter, GKindAfter⟩
  have GTreeOfWords : FnOk l.prog w K mg base CX0 8 uTreeOfWords _ ["words"] (spTreeWords) := ok_tree_of_words FTreeOfWords JX NX AKindAfter AReadWord
  have ATreeOfWords : At l.prog w K mg base 8 "tree_of_words" uTreeOfWords _ ["words"] (spTreeWords) := ⟨(PySem.W.mg_of KX G aTreeOfWords), kTreeOfWords, bTreeOfWords, GTreeOfWords⟩
  have GJoinedWords : FnOk l.prog w K mg base CX0 1 uJoinedWords _ ["words"] (spJoined) := ok_joined FJoinedWords JX
  have AJoinedWords : At l.prog w K mg base 1 "joined_words" uJoinedWords _ ["words"] (spJoined) := ⟨(PySem.W.mg_of KX G aJoinedWords), kJoinedWords, bJoinedWords, GJoinedWords⟩
  have GWordsOf : FnOk l.prog w K mg base CX0 2 uWordsOf _ ["text"] (spWordsOf) := ok_words_of FWordsOf JX AJoinedWords
  have AWordsOf : At l.prog w K mg base 2 "words_of" uWordsOf _ ["text"] (spWordsOf) := ⟨(PySem.W.mg_of KX G aWordsOf), kWordsOf, bWordsOf, GWordsOf⟩
  have GTextOf : FnOk l.prog w K mg base CX0 15 uTextOf _ ["tree"] (spText 12) := ok_text_of FTextOf NX (PySem.W.mg_of KX G aTextOf) bTextOf Z BX AArgumentText APartsOf 12
  have ATextOf : At l.prog w K mg base 15 "text_of" uTextOf _ ["tree"] (spText 12) := ⟨(PySem.W.mg_of KX G aTextOf), kTextOf, bTextOf, GTextOf⟩
  have GWriteTree : FnOk l.prog w K mg base CX0 16 uWriteTree _ ["tree"] (spWrite) := ok_write_tree FWriteTree AIsTree ATextOf
  have AWriteTree : At l.prog w K mg base 16 "write_tree" uWriteTree _ ["tree"] (spWrite) := ⟨(PySem.W.mg_of KX G aWriteTree), kWriteTree, bWriteTree, GWriteTree⟩
  have GReadTree : FnOk l.prog w K mg base CX0 9 uReadTree _ ["text"] (spRead) := ok_read_tree FReadTree AIsTree ATreeOfWords AWordsOf
  have AReadTree : At l.prog w K mg base 9 "read_tree" uReadTree _ ["text"] (spRead) := ⟨(PySem.W.mg_of KX G aReadTree), kReadTree, bReadTree, GReadTree⟩
  have GThrow : FnOk l.prog w K mg base CX0 1 uThrow _ ["bag", "total"] (spThrow) := ok_throw FThrow GX.toTxtA
  have AThrow : At l.prog w K mg base 1 "_law_throw" uThrow _ ["bag", "total"] (spThrow) := ⟨(PySem.W.mg_of KX G aThrow), kThrow, bThrow, GThrow⟩
  have GStart : FnOk l.prog w K mg base CX0 1 uStart _ ["script", "at"] (spStart K) := ok_start FStart GX.toTxtA
  have AStart : At l.prog w K mg base 1 "_law_start" uStart _ ["script", "at"] (spStart K) := ⟨(PySem.W.mg_of KX G aStart), kStart, bStart, GStart⟩
  have GPick : FnOk l.prog w K mg base CX0 2 uPick _ ["bag", "items"] (spPickL) := ok_pickL FPick GX.toTxtA FThrow bThrow
  have APick : At l.prog w K mg base 2 "_law_pick" uPick _ ["bag", "items"] (spPickL) := ⟨(PySem.W.mg_of KX G aPick), kPick, bPick, GPick⟩
  have GLetter : FnOk l.prog w K mg base CX0 3 uLetter _ ["bag"] (spLetter) := ok_letter FLetter GX FThrow bThrow FPick bPick
  have ALetter : At l.prog w K mg base 3 "_law_letter" uLetter _ ["bag"] (spLetter) := ⟨(PySem.W.mg_of KX G aLetter), kLetter, bLetter, GLetter⟩
  have GLetters : FnOk l.prog w K mg base CX0 2 uLetters _ ["bag", "most"] (spLetters) := ok_letters FLetters GX FThrow bThrow
  have ALetters : At l.prog w K mg base 2 "_law_letters" uLetters _ ["bag", "most"] (spLetters) := ⟨(PySem.W.mg_of KX G aLetters), kLetters, bLetters, GLetters⟩
  have GName : FnOk l.prog w K mg base CX0 3 uName _ ["bag", "used"] (spName) := ok_name FName GX (PySem.W.mg_of KX G aWords) FThrow bThrow FPick bPick FWords bWords
  have AName : At l.prog w K mg base 3 "_law_name" uName _ ["bag", "used"] (spName) := ⟨(PySem.W.mg_of KX G aName), kName, bName, GName⟩
  have GForms : FnOk l.prog w K mg base CX0 1 uForms _ [] (spForms) := ok_forms FForms NX
  have AForms : At l.prog w K mg base 1 "_law_forms" uForms _ [] (spForms) := ⟨(PySem.W.mg_of KX G aForms), kForms, bForms, GForms⟩
  have GRanges : FnOk l.prog w K mg base CX0 1 uRanges _ ["code"] (spRanges) := ok_ranges FRanges
  have ARanges : At l.prog w K mg base 1 "_law_ranges" uRanges _ ["code"] (spRanges) := ⟨(PySem.W.mg_of KX G aRanges), kRanges, bRanges, GRanges⟩
  have GTableText : FnOk l.prog w K mg base CX0 4 uTableText _ ["bag"] (spTableT) := ok_table_text FTableText NX GX AThrow GPick kPick bPick ALetter
  have ATableText : At l.prog w K mg base 4 "_law_table_text" uTableText _ ["bag"] (spTableT) := ⟨(PySem.W.mg_of KX G aTableText), kTableText, bTableText, GTableText⟩
  have GLArgText : FnOk l.prog w K mg base CX0 5 uLArgText _ ["bag", "code"] (spArgT) := ok_arg_text FLArgText NX MX GX AThrow GPick kPick bPick ALetter ALetters ARanges ATableText
  have ALArgText : At l.prog w K mg base 5 "_law_argument_text" uLArgText _ ["bag", "code"] (spArgT) := ⟨(PySem.W.mg_of KX G aLArgText), kLArgText, bLArgText, GLArgText⟩
  have GTreeText : FnOk l.prog w K mg base CX0 18 uTreeText _ ["bag", "size"] (spTreeT 12) := ok_tree_text FTreeText NX MX GX (PySem.W.mg_of KX G aTreeText) bTreeText AThrow GPick kPick bPick AName AForms ALArgText 12
  have ATreeText : At l.prog w K mg base 18 "_law_tree_text" uTreeText _ ["bag", "size"] (spTreeT 12) := ⟨(PySem.W.mg_of KX G aTreeText), kTreeText, bTreeText, GTreeText⟩
  exact Wd.ok_law FLaw LX AStart AThrow ATreeText AWriteTree AReadTree
theorem walk {l : PySem.W.OpenLaw} {q : Program} {loose : List Str} {XP : (Str → Option Value) → Heap → Prop} {YP : World → Heap → Prop} {d : DefRec} {K : Params → PySem.W.Frag} (hn : l.most = some 63) (hdf : d.params.defaults = [])
    (hY : ∀ (w : World) (h : Heap), YP w h → (K w.params).In h)
    (F : ∀ (w : World) (mg : Str → Option Value) (fa : Addr) (h : Heap), (K w.params).In h → h.Ns mainGlobals mg → mg d.name = some (.ref fa) →
      ∃ fd : FuncData, (∀ (s : Shared) (u : Value), BindsTo s fd ⟨[u], []⟩ [("script", u)]) ∧ ∀ base : Heap, (K w.params).In base → base.Ns mainGlobals mg → GnOk l.prog w (K w.params) mg base CX0 19 fa fd ["script"] (Wd.spLaw (K w.params))) :
    PySem.W.WalkO q loose XP YP l.row.toRowW d [] (fun f vs => PySem.call f vs) :=
  Br.walk_ofG (n := 63) (k := 19) (x := "script") (sp := Wd.spLaw) hn (by decide) hdf ⟨rfl, by decide, by decide⟩ hY F fun _ _ a ns hl _ hS => ⟨a, ns, rfl, hS, hl, fun _ => rfl⟩
end Wd

set_option Elab.async false
set_option linter.all false
set_option pp.maxSteps 300
set_option pp.deepTerms false
open PySem PySem.W PyProof.Rows in
set_option maxRecDepth 100000 in
set_option maxHeartbeats 0 in
theorem PySem.Challenge.cw_pushalike_k08_texts_and_trees_holds : PySem.Challenge.rw_pushalike_k08_texts_and_trees.Holds := by
  w_on; o_law; k_head; (case hw => w_witness2)
  k_fill
  refine Wd.walk (l := PySem.Challenge.rw_pushalike_k08_texts_and_trees) rfl rfl (fun w h Y => PySem.W.kIn_of Y) ?F
  case F =>
    intro w mg fa h KX G hmg
    refine' Wd.all_mk KX G hmg ?aIsInteger ?lIsInteger ?qIsInteger ?kIsInteger ?aIsBetween ?lIsBetween ?qIsBetween ?kIsBetween ?aIsLetter ?lIsLetter ?qIsLetter ?kIsLetter ?aIsLetters ?lIsLetters ?qIsLetters ?kIsLetters ?aIsName ?lIsName ?qIsName ?kIsName ?aHasForm ?lHasForm ?qHasForm ?kHasForm ?aIsArgument ?lIsArgument ?qIsArgument ?kIsArgument ?aIsPlaces ?lIsPlaces ?qIsPlaces ?kIsPlaces ?aIsTable ?lIsTable ?qIsTable ?kIsTable ?aIsTablePair ?lIsTablePair ?qIsTablePair ?kIsTablePair ?aPartsOf ?lPartsOf ?qPartsOf ?kPartsOf ?aArgumentText ?lArgumentText ?qArgumentText ?kArgumentText ?aHalfText ?lHalfText ?qHalfText ?kHalfText ?aReadArgument ?lReadArgument ?qReadArgument ?kReadArgument ?aReadKind ?lReadKind ?qReadKind ?kReadKind ?aReadPair ?lReadPair ?qReadPair ?kReadPair ?aReadNumber ?lReadNumber ?qReadNumber ?kReadNumber ?aIsTree ?lIsTree ?qIsTree ?kIsTree ?aWriteTree ?lWriteTree ?qWriteTree ?kWriteTree ?aReadTree ?lReadTree ?qReadTree ?kReadTree ?aTextOf ?lTextOf ?qTextOf ?kTextOf ?aWordsOf ?lWordsOf ?qWordsOf ?kWordsOf ?aJoinedWords ?lJoinedWords ?qJoinedWords ?kJoinedWords ?aTreeOfWords ?lTreeOfWords ?qTreeOfWords ?kTreeOfWords ?aKindAfter ?lKindAfter ?qKindAfter ?kKindAfter ?aReadWord ?lReadWord ?qReadWord ?kReadWord ?aStart ?lStart ?qStart ?kStart ?aThrow ?lThrow ?qThrow ?kThrow ?aPick ?lPick ?qPick ?kPick ?aLetter ?lLetter ?qLetter ?kLetter ?aLetters ?lLetters ?qLetters ?kLetters ?aWords ?lWords ?qWords ?kWords ?aName ?lName ?qName ?kName ?aForms ?lForms ?qForms ?kForms ?aRanges ?lRanges ?qRanges ?kRanges ?aTableText ?lTableText ?qTableText ?kTableText ?aLArgText ?lLArgText ?qLArgText ?kLArgText ?aTreeText ?lTreeText ?qTreeText ?kTreeText ?aLaw ?lLaw ?qLaw ?kLaw ?zlen ?zint ?zbool ?zstr ?ztuple ?zdict ?zall ?zrange ?zisinstance ?zabs ?zlist ?zsorted ?zmax ?zmin ?zenumerate ?zrepr ?cIE ?eIE ?cMN ?eMN ?cMP ?eMP ?cML ?eML ?cMC ?eMC ?cMA ?eMA ?cMS ?eMS ?cMD ?eMD ?cLS ?eLS ?cEM ?eEM ?cDG ?eDG ?cA ?eA ?bA ?cR ?eR ?bR ?cB ?bB
    (case aIsInteger => k_is)
    (case lIsInteger => k_is)
    (case qIsInteger => k_is)
    (case kIsInteger => k_is)
    (case aIsBetween => k_is)
    (case lIsBetween => k_is)
    (case qIsBetween => k_is)
    (case kIsBetween => k_is)
    (case aIsLetter => k_is)
    (case lIsLetter => k_is)
    (case qIsLetter => k_is)
    (case kIsLetter => k_is)
    (case aIsLetters => k_is)
    (case lIsLetters => k_is)
    (case qIsLetters => k_is)
    (case kIsLetters => k_is)
    (case aIsName => k_is)
    (case lIsName => k_is)
    (case qIsName => k_is)
    (case kIsName => k_is)
    (case aHasForm => k_is)
    (case lHasForm => k_is)
    (case qHasForm => k_is)
    (case kHasForm => k_is)
    (case aIsArgument => k_is)
    (case lIsArgument => k_is)
    (case qIsArgument => k_is)
    (case kIsArgument => k_is)
    (case aIsPlaces => k_is)
    (case lIsPlaces => k_is)
    (case qIsPlaces => k_is)
    (case kIsPlaces => k_is)
    (case aIsTable => k_is)
    (case lIsTable => k_is)
    (case qIsTable => k_is)
    (case kIsTable => k_is)
    (case aIsTablePair => k_is)
    (case lIsTablePair => k_is)
    (case qIsTablePair => k_is)
    (case kIsTablePair => k_is)
    (case aPartsOf => k_is)
    (case lPartsOf => k_is)
    (case qPartsOf => k_is)
    (case kPartsOf => k_is)
    (case aArgumentText => k_is)
    (case lArgumentText => k_is)
    (case qArgumentText => k_is)
    (case kArgumentText => k_is)
    (case aHalfText => k_is)
    (case lHalfText => k_is)
    (case qHalfText => k_is)
    (case kHalfText => k_is)
    (case aReadArgument => k_is)
    (case lReadArgument => k_is)
    (case qReadArgument => k_is)
    (case kReadArgument => k_is)
    (case aReadKind => k_is)
    (case lReadKind => k_is)
    (case qReadKind => k_is)
    (case kReadKind => k_is)
    (case aReadPair => k_is)
    (case lReadPair => k_is)
    (case qReadPair => k_is)
    (case kReadPair => k_is)
    (case aReadNumber => k_is)
    (case lReadNumber => k_is)
    (case qReadNumber => k_is)
    (case kReadNumber => k_is)
    (case aIsTree => k_is)
    (case lIsTree => k_is)
    (case qIsTree => k_is)
    (case kIsTree => k_is)
    (case aWriteTree => k_is)
    (case lWriteTree => k_is)
    (case qWriteTree => k_is)
    (case kWriteTree => k_is)
    (case aReadTree => k_is)
    (case lReadTree => k_is)
    (case qReadTree => k_is)
    (case kReadTree => k_is)
    (case aTextOf => k_is)
    (case lTextOf => k_is)
    (case qTextOf => k_is)
    (case kTextOf => k_is)
    (case aWordsOf => k_is)
    (case lWordsOf => k_is)
    (case qWordsOf => k_is)
    (case kWordsOf => k_is)
    (case aJoinedWords => k_is)
    (case lJoinedWords => k_is)
    (case qJoinedWords => k_is)
    (case kJoinedWords => k_is)
    (case aTreeOfWords => k_is)
    (case lTreeOfWords => k_is)
    (case qTreeOfWords => k_is)
    (case kTreeOfWords => k_is)
    (case aKindAfter => k_is)
    (case lKindAfter => k_is)
    (case qKindAfter => k_is)
    (case kKindAfter => k_is)
    (case aReadWord => k_is)
    (case lReadWord => k_is)
    (case qReadWord => k_is)
    (case kReadWord => k_is)
    (case aStart => k_is)
    (case lStart => k_is)
    (case qStart => k_is)
    (case kStart => k_is)
    (case aThrow => k_is)
    (case lThrow => k_is)
    (case qThrow => k_is)
    (case kThrow => k_is)
    (case aPick => k_is)
    (case lPick => k_is)
    (case qPick => k_is)
    (case kPick => k_is)
    (case aLetter => k_is)
    (case lLetter => k_is)
    (case qLetter => k_is)
    (case kLetter => k_is)
    (case aLetters => k_is)
    (case lLetters => k_is)
    (case qLetters => k_is)
    (case kLetters => k_is)
    (case aWords => k_is)
    (case lWords => k_is)
    (case qWords => k_is)
    (case kWords => k_is)
    (case aName => k_is)
    (case lName => k_is)
    (case qName => k_is)
    (case kName => k_is)
    (case aForms => k_is)
    (case lForms => k_is)
    (case qForms => k_is)
    (case kForms => k_is)
    (case aRanges => k_is)
    (case lRanges => k_is)
    (case qRanges => k_is)
    (case kRanges => k_is)
    (case aTableText => k_is)
    (case lTableText => k_is)
    (case qTableText => k_is)
    (case kTableText => k_is)
    (case aLArgText => k_is)
    (case lLArgText => k_is)
    (case qLArgText => k_is)
    (case kLArgText => k_is)
    (case aTreeText => k_is)
    (case lTreeText => k_is)
    (case qTreeText => k_is)
    (case kTreeText => k_is)
    (case aLaw => k_is)
    (case lLaw => k_is)
    (case qLaw => k_is)
    (case kLaw => k_is)
    (case zlen => k_is)
    (case zint => k_is)
    (case zbool => k_is)
    (case zstr => k_is)
    (case ztuple => k_is)
    (case zdict => k_is)
    (case zall => k_is)
    (case zrange => k_is)
    (case zisinstance => k_is)
    (case zabs => k_is)
    (case zlist => k_is)
    (case zsorted => k_is)
    (case zmax => k_is)
    (case zmin => k_is)
    (case zenumerate => k_is)
    (case zrepr => k_is)
    (case cIE => k_is)
    (case eIE => first | rfl | decide +kernel)
    (case cMN => k_is)
    (case eMN => first | rfl | decide +kernel)
    (case cMP => k_is)
    (case eMP => first | rfl | decide +kernel)
    (case cML => k_is)
    (case eML => first | rfl | decide +kernel)
    (case cMC => k_is)
    (case eMC => first | rfl | decide +kernel)
    (case cMA => k_is)
    (case eMA => first | rfl | decide +kernel)
    (case cMS => k_is)
    (case eMS => first | rfl | decide +kernel)
    (case cMD => k_is)
    (case eMD => first | rfl | decide +kernel)
    (case cLS => k_is)
    (case eLS => first | rfl | decide +kernel)
    (case cEM => k_is)
    (case eEM => first | rfl | decide +kernel)
    (case cDG => k_is)
    (case eDG => first | rfl | decide +kernel)
    (case cA => k_is)
    (case eA => first | rfl | kernel_rfl | k_is)
    (case bA => kernel_rfl)
    (case cR => k_is)
    (case eR => first | rfl | kernel_rfl | k_is)
    (case bR => kernel_rfl)
    (case cB => k_is)
    (case bB => kernel_rfl)
